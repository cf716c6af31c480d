import PyProof.Rows.All
import Wide.All
import OpenK.AllK
import Wide.FinOn
import HandS.ForMost
import HandS.ForExc
import HandS.Wide
import HandS.WideMore
import HandS.Small
import HandS.DictTup
import HandS.Gcd
import HandS.Style
import HandS.CallSlots
import HandS.IsInst
import HandS.Flow
import HandS.ExcField
import HandS.Defaults
import HandS.RaiseMore
import HandS.TupAny
import HandS.Zip
import HandS.Rev
import HandS.RevRange
import HandS.NoneIn
import HandS.TryOnly
import HandS.ExcIs
import KE.KExcIs
import HandS.EndBits
import PyProof.ReprBulk
import PyProof.P3Eq
import KE.GoesEnum
import HandS.StrMore
import HandS.FStr
import KE.KDictZip
import KE.KItemsList
import HandS.Zip0
import HandS.Deep
import PyProof.P3In
import PyProof.WalksMore
import PyProof.WalkInts
import HandS.List
import PyProof.Rows.IntBool
import PySem.Challenge.RW_leastfield_k09_any_values_as_rings
set_option Elab.async false
set_option linter.all false
set_option maxRecDepth 100000
set_option maxHeartbeats 4000000
/-! ## A dict as a set of tuples of ints, tracked or known: what it is to the hand layer -/
namespace V2
open PySem PySem.Spec PyProof.Rows L2
open PySem.W (Frag)
def ikent (x : List Int × Addr × Value) : DictEntry := ⟨reduceHash (Builtin.Tuple.tupleHashOf (x.1.map hashInt)), .ref x.2.1, x.2.2⟩
theorem ikent_eq (P : Program) (w : World) : ikent = entryOfKey (tupleKind (intKind P w)) := by funext x; rfl
/-- the dict at a: its keys, where they stand, its values -/
def KdAt (a : Addr) (xs : List (List Int × Addr × Value)) (h : Heap) : Prop :=
  ∃ o es ep, h.get? a = some o ∧ o.ExactDict ∧ o.data = .dict es ep ∧ es.toList = xs.map ikent ∧ (xs.map (·.1)).Nodup
def kdO (a : Addr) (xs : List (List Int × Addr × Value)) : HO := .ext (KdAt a xs)
theorem kd_ok {P : Program} {w : World} {H : Hp} {h : Heap} {a : Addr} {xs : List (List Int × Addr × Value)} (k : KdAt a xs h) : ObjOk P w H h a (kdO a xs) := by
  obtain ⟨o, es, ep, e, r⟩ := k
  refine ⟨⟨o, es, ep, e, r⟩, ⟨o, e⟩, ?_⟩
  rintro h1 h2 ⟨o1, es1, ep1, e1, r1⟩ k
  exact ⟨o1, es1, ep1, k _ e1, r1⟩
/-- a tuple of ints -/
def IsKey (K : Frag) (H : Hp) (b : Addr) (ks : List Int) : Prop := SqT K H b (ks.map V.int)
section
variable {X : Cx} {pins : List (Addr × Obj)} {σ : L2.St} {H : Hp} {s : Shared}
theorem ints_are {P : Program} {w : World} : ∀ {ks : List Int} {us : List Value}, Vals (ks.map V.int) us → ItemsAre (intKind P w) ks us
  | [], _, r => by cases r; exact .nil
  | k :: ks, _, r => by
    cases r with
    | cons h t =>
      obtain ⟨t1, rfl⟩ := h
      exact .cons (by simp [intKind, Value.isInt]) (ints_are t)
theorem key_at (I : Inv X pins σ H s) {b : Addr} {ks : List Int} (h : IsKey X.K H b ks) : (tupleKind (intKind X.prog X.w)).is s.heap ks b := by
  rcases h with h | ⟨o, its, n, hk, hc, hd, hz, r⟩
  · obtain ⟨_, its, r, o, h1, h2, n, h3⟩ := (show ObjOk X.prog X.w H s.heap b (.tup (ks.map V.int)) from h.ok I.hok)
    exact ⟨o, its.toArray, n, h1, h2, h3, by simpa using ints_are r⟩
  · exact ⟨o, its, n, I.kIn b o hk, hc, hd, ints_are r⟩
theorem kd_of (I : Inv X pins σ H s) {a : Addr} {xs : List (List Int × Addr × Value)} (e : H a = some (kdO a xs)) (hk : ∀ z ∈ xs, IsKey X.K H z.2.1 z.1) : s.heap.DictOfH (tupleKind (intKind X.prog X.w)) a xs := by
  obtain ⟨⟨o, es, ep, h1, h2, h3, h4, h5⟩, _⟩ := (show ObjOk X.prog X.w H s.heap a (kdO a xs) from I.hok a _ e)
  exact ⟨o, es, ep, h1, h2, h3, by rw [h4, ikent_eq X.prog X.w], fun x hx => key_at I (hk x hx), h5⟩
/-- whether a key is there -/
theorem atKey_some {xs : List (List Int × Addr × Value)} {k : List Int} : (atKey xs k).isSome = xs.any fun z => decide (z.1 = k) := by
  induction xs with
  | nil => rfl
  | cons x xs ih =>
    unfold atKey at ih ⊢
    simp only [List.find?_cons, List.any_cons]
    by_cases c : x.1 = k
    · simp [c]
    · simp [c] at ih ⊢
      exact ih
def rInKd (K : Frag) : R2 := fun x y H Q => ∃ d xs b ks, y = .ref d ∧ (d == sysModules) = false ∧ H d = some (kdO d xs) ∧ x = .ref b ∧ IsKey K H b ks ∧ (∀ z ∈ xs, IsKey K H z.2.1 z.1) ∧ Q (.bl (xs.any fun z => decide (z.1 = ks))) H
theorem op_inKd (hu : X.A.units + 1 < cLine) : OpR X (compareOp .In) (rInKd X.K) := by
  intro pins s σ H x y v u Q I rx ry h
  obtain ⟨d, xs, b, ks, rfl, hd, e, rfl, hb, hx, q⟩ := h
  cases (show v = Value.ref b from rx)
  cases (show u = Value.ref d from ry)
  refine wpAny_in_heap (tupleKind_room_in1 hu) (key_at I hb) hd (kd_of I e hx) ?_
  rw [atKey_some]
  exact ⟨.bl _, H, I.tok _, rfl, q⟩
/-- d[k] = v -/
def rSetKd (K : Frag) : TSet := fun o i v H Q => ∃ d xs b ks, o = .ref d ∧ (d == sysModules) = false ∧ H d = some (kdO d xs) ∧ i = .ref b ∧ IsKey K H b ks ∧ (∀ z ∈ xs, IsKey K H z.2.1 z.1) ∧ xs.length < sizeLine ∧
  ∀ r, Q (upd H d (kdO d (storedH xs ks b r)))
theorem set_kd (hu : X.A.units + 1 < cLine) : PSet X (rSetKd X.K) := by
  intro pins s σ H o i v ov iv u Q I ro ri rv h
  obtain ⟨d, xs, b, ks, rfl, hd, e, rfl, hb, hx, hl, q⟩ := h
  cases (show ov = Value.ref d from ro)
  cases (show iv = Value.ref b from ri)
  refine wpAny_setItem_heap (hsz := Nat.le_of_lt hl) (tupleKind_room_in1 hu) (key_at I hb) (kd_of I e hx) fun h' dd' hs => ?_
  obtain ⟨q1, es, ep, hq, h2, h3, h4, _, h5⟩ := dd'
  refine ⟨_, ?_, q u⟩
  refine I.write (x := d) (e := d) (by rw [e]; exact True.intro) (.inl rfl) (fun b q hb z => (hs.2 b hb).trans z) ⟨q1, hq⟩ (kd_ok ⟨q1, es, ep, hq, h2, h3, ?_, h5⟩)
  rw [h4, ikent_eq X.prog X.w]
/-- {} -/
def tDNewKd : TE := fun _ H Q => ∀ p, H p = none → (p == sysModules) = false → Q (.ref p) (upd H p (kdO p []))
theorem pe_dnewKd {pos : Pos} : PE X (.Dict [] [] pos) tDNewKd := ⟨fun pins s σ H Q I h =>
  wpAny_Dict_empty ⟨.ref s.heap.objs.size, _, I.laid (a := s.heap.objs.size) (o := kdO s.heap.objs.size []) (t' := s.toks) (fun _ _ q => Heap.get?_push_of_some _ q) (Nat.le_refl _)
    (kd_ok ⟨_, #[], 0, Heap.get?_push_size _ rfl, ⟨rfl, rfl, rfl⟩, rfl, rfl, List.nodup_nil⟩), rfl, h _ (I.hok.fresh (Nat.le_refl _)) (beq_eq_false_iff_ne.mpr (Ne.symm (Nat.ne_of_lt I.big)))⟩⟩
end
end V2
set_option Elab.async false
set_option linter.all false
set_option maxRecDepth 100000
set_option maxHeartbeats 4000000
/-! ## Data without addresses over the hand layer -/
namespace V2
open PySem PySem.Spec PyProof.Rows L2
open PySem.W (Frag)

/-- a value: data (never changed), or a place of the store -/
inductive D where
  | d (p : PyData)
  | loc (n : Nat)
/-- the store: lists that may be changed -/
inductive O where
  | lst (xs : List D)
  | keys (ks : List (List Int))
abbrev Ho := List O
abbrev En := List (Option D)
/-- an exception: its class by name, its one field (if its class has an __init__) -/
structure Ex where
  cls : Str
  fld : Option (Str × D)

/-! ### what they stand for -/
def TupR (K : Frag) (as : List Addr) (H : Hp) (a : Addr) (xs : List V) : Prop :=
  (Rd H a (.tup xs) ∧ a ∉ as) ∨
    ∃ (o : Obj) (its : Array Value) (n : Nat), K.lookup a = some o ∧ o.cls = .type "tuple" ∧ o.data = .seq its n ∧ its.size ≤ sizeLine ∧ Vals xs its.toList
def LstR (K : Frag) (as : List Addr) (H : Hp) (a : Addr) (xs : List V) : Prop :=
  (Rd H a (.lst xs) ∧ a ∉ as) ∨
    ∃ (o : Obj) (its : Array Value) (n : Nat), K.lookup a = some o ∧ o.cls = .type "list" ∧ o.dict = none ∧ o.data = .seq its n ∧ its.size ≤ sizeLine ∧ Vals xs its.toList
theorem TupR.sq {K : Frag} {as : List Addr} {H : Hp} {a : Addr} {xs : List V} (h : TupR K as H a xs) : SqT K H a xs := h.elim (fun z => .inl z.1) .inr
theorem LstR.sq {K : Frag} {as : List Addr} {H : Hp} {a : Addr} {xs : List V} (h : LstR K as H a xs) : SqL K H a xs := h.elim (fun z => .inl z.1) .inr

mutual
inductive Dv (K : Frag) (as : List Addr) (H : Hp) : V → PyData → Prop
  | non : Dv K as H .non .none
  | bl (b : Bool) : Dv K as H (.bl b) (.bool b)
  | int (i : Int) : Dv K as H (.int i) (.int i)
  | str (x : Str) : Dv K as H (.str x) (.str x)
  | lst {a : Addr} {xs : List V} {ds : List PyData} : LstR K as H a xs → DvAll K as H xs ds → Dv K as H (.ref a) (.list ds)
  | tup {a : Addr} {xs : List V} {ds : List PyData} : TupR K as H a xs → DvAll K as H xs ds → Dv K as H (.ref a) (.tuple ds)
inductive DvAll (K : Frag) (as : List Addr) (H : Hp) : List V → List PyData → Prop
  | nil : DvAll K as H [] []
  | cons {v : V} {vs : List V} {d : PyData} {ds : List PyData} : Dv K as H v d → DvAll K as H vs ds → DvAll K as H (v :: vs) (d :: ds)
end

/-- behind: more places; what is no place stands as it stood -/
structure Later (as : List Addr) (H : Hp) (as' : List Addr) (H' : Hp) : Prop where
  more : ∃ l, as' = as ++ l
  keep : ∀ p o, H p = some o → p ∉ as → H' p = some o ∧ p ∉ as'
theorem Later.refl (as : List Addr) (H : Hp) : Later as H as H := ⟨⟨[], by simp⟩, fun p o h n => ⟨h, n⟩⟩
theorem Later.trans {as as1 as2 : List Addr} {H H1 H2 : Hp} (a : Later as H as1 H1) (b : Later as1 H1 as2 H2) : Later as H as2 H2 := by
  refine ⟨?_, fun p o h n => ?_⟩
  · obtain ⟨l, rfl⟩ := a.more
    obtain ⟨m, rfl⟩ := b.more
    exact ⟨l ++ m, by simp⟩
  · obtain ⟨h1, n1⟩ := a.keep p o h n
    exact b.keep p o h1 n1
/-- a new thing that is no place -/
theorem Later.new {as : List Addr} {H : Hp} {p : Addr} (o : HO) (hp : H p = none) : Later as H as (upd H p o) :=
  ⟨⟨[], by simp⟩, fun q u h n => ⟨by rw [upd_ne (ne_of_none h hp)]; exact h, n⟩⟩
/-- a new place -/
theorem Later.place {as : List Addr} {H : Hp} {p : Addr} (o : HO) (hp : H p = none) : Later as H (as ++ [p]) (upd H p o) :=
  ⟨⟨[p], rfl⟩, fun q u h n => ⟨by rw [upd_ne (ne_of_none h hp)]; exact h, by
    have := ne_of_none h hp
    simp [n, this]⟩⟩
/-- a place is written -/
theorem Later.write {as : List Addr} {H : Hp} {p : Addr} (o : HO) (hp : p ∈ as) : Later as H as (upd H p o) :=
  ⟨⟨[], by simp⟩, fun q u h n => ⟨by rw [upd_ne (fun e => n (by rw [e]; exact hp))]; exact h, n⟩⟩
theorem Later.at {as as1 : List Addr} {H H1 : Hp} (l : Later as H as1 H1) {n : Nat} {a : Addr} (h : as[n]? = some a) : as1[n]? = some a := by
  obtain ⟨m, rfl⟩ := l.more
  rw [List.getElem?_append_left (List.getElem?_eq_some_iff.mp h).1]
  exact h

section
variable {K : Frag} {as as1 : List Addr} {H H1 : Hp}
theorem TupR.later (l : Later as H as1 H1) {a : Addr} {xs : List V} (h : TupR K as H a xs) : TupR K as1 H1 a xs := by
  rcases h with ⟨h | ⟨o, h⟩, n⟩ | h
  · obtain ⟨q, m⟩ := l.keep _ _ h n
    exact .inl ⟨.inl q, m⟩
  · obtain ⟨q, m⟩ := l.keep _ _ h n
    exact .inl ⟨.inr ⟨o, q⟩, m⟩
  · exact .inr h
theorem LstR.later (l : Later as H as1 H1) {a : Addr} {xs : List V} (h : LstR K as H a xs) : LstR K as1 H1 a xs := by
  rcases h with ⟨h | ⟨o, h⟩, n⟩ | h
  · obtain ⟨q, m⟩ := l.keep _ _ h n
    exact .inl ⟨.inl q, m⟩
  · obtain ⟨q, m⟩ := l.keep _ _ h n
    exact .inl ⟨.inr ⟨o, q⟩, m⟩
  · exact .inr h
mutual
theorem Dv.later (l : Later as H as1 H1) : ∀ {p : PyData} {v : V}, Dv K as H v p → Dv K as1 H1 v p
  | .none, _, h => by cases h; exact .non
  | .bool b, _, h => by cases h; exact .bl b
  | .int i, _, h => by cases h; exact .int i
  | .str x, _, h => by cases h; exact .str x
  | .list ds, _, h => by
    cases h with
    | lst hs ha => exact .lst (hs.later l) (DvAll.later l ha)
  | .tuple ds, _, h => by
    cases h with
    | tup hs ha => exact .tup (hs.later l) (DvAll.later l ha)
  | .dict _, _, h => by cases h
theorem DvAll.later (l : Later as H as1 H1) : ∀ {ps : List PyData} {vs : List V}, DvAll K as H vs ps → DvAll K as1 H1 vs ps
  | [], _, h => by cases h; exact .nil
  | d :: ds, _, h => by
    cases h with
    | cons h1 h2 => exact .cons (Dv.later l h1) (DvAll.later l h2)
end
mutual
theorem Dv.dp : ∀ {p : PyData} {v : V}, Dv K as H v p → Dp K H v p
  | .none, _, h => by cases h; exact .non
  | .bool b, _, h => by cases h; exact .bl b
  | .int i, _, h => by cases h; exact .int i
  | .str x, _, h => by cases h; exact .str x
  | .list ds, _, h => by
    cases h with
    | lst hs ha => exact .lst hs.sq (DvAll.dp ha)
  | .tuple ds, _, h => by
    cases h with
    | tup hs ha => exact .tup hs.sq (DvAll.dp ha)
  | .dict _, _, h => by cases h
theorem DvAll.dp : ∀ {ps : List PyData} {vs : List V}, DvAll K as H vs ps → DpAll K H vs ps
  | [], _, h => by cases h; exact .nil
  | d :: ds, _, h => by
    cases h with
    | cons h1 h2 => exact .cons (Dv.dp h1) (DvAll.dp h2)
end
theorem DvAll.length : ∀ {vs : List V} {ps : List PyData}, DvAll K as H vs ps → vs.length = ps.length
  | _, _, .nil => rfl
  | _, _, .cons _ h => by rw [List.length_cons, List.length_cons, DvAll.length h]
theorem DvAll.get : ∀ {vs : List V} {ps : List PyData} {i : Nat} {p : PyData}, DvAll K as H vs ps → ps[i]? = some p → ∃ v, vs[i]? = some v ∧ Dv K as H v p
  | _, _, _, _, .nil, e => by simp at e
  | _, _, 0, p, .cons r _, e => by simp at e; subst e; exact ⟨_, rfl, r⟩
  | _, _, i + 1, p, .cons _ t, e => by
    obtain ⟨v, h1, h2⟩ := DvAll.get (i := i) t (by simpa using e)
    exact ⟨v, by simpa using h1, h2⟩
theorem DvAll.append : ∀ {vs ws : List V} {ps qs : List PyData}, DvAll K as H vs ps → DvAll K as H ws qs → DvAll K as H (vs ++ ws) (ps ++ qs)
  | _, _, _, _, .nil, h => h
  | _, _, _, _, .cons r t, h => .cons r (DvAll.append t h)
theorem DvAll.take : ∀ {vs : List V} {ps : List PyData} (n : Nat), DvAll K as H vs ps → DvAll K as H (vs.take n) (ps.take n)
  | _, _, 0, _ => .nil
  | _, _, n + 1, .nil => .nil
  | _, _, n + 1, .cons r t => .cons r (DvAll.take n t)
theorem DvAll.drop : ∀ {vs : List V} {ps : List PyData} (n : Nat), DvAll K as H vs ps → DvAll K as H (vs.drop n) (ps.drop n)
  | _, _, 0, h => h
  | _, _, n + 1, .nil => .nil
  | _, _, n + 1, .cons r t => DvAll.drop n t
theorem DvAll.reverse : ∀ {vs : List V} {ps : List PyData}, DvAll K as H vs ps → DvAll K as H vs.reverse ps.reverse
  | _, _, .nil => .nil
  | _, _, .cons r t => by
    rw [List.reverse_cons, List.reverse_cons]
    exact (DvAll.reverse t).append (.cons r .nil)
theorem DvAll.ints : ∀ (ns : List Int), DvAll K as H (ns.map V.int) (ns.map PyData.int)
  | [] => .nil
  | n :: ns => .cons (.int n) (DvAll.ints ns)
theorem DvAll.ints_inv : ∀ {vs : List V} {ns : List Int}, DvAll K as H vs (ns.map PyData.int) → vs = ns.map V.int
  | _, [], h => by cases h; rfl
  | _, n :: ns, h => by
    cases h with
    | cons h1 h2 =>
      cases h1
      rw [List.map_cons, DvAll.ints_inv h2]

/-- a value -/
inductive Rel (K : Frag) (as : List Addr) (H : Hp) : V → D → Prop
  | d {v : V} {p : PyData} : Dv K as H v p → Rel K as H v (.d p)
  | loc {a : Addr} {n : Nat} : as[n]? = some a → Rel K as H (.ref a) (.loc n)
theorem Rel.later (l : Later as H as1 H1) {v : V} {x : D} (h : Rel K as H v x) : Rel K as1 H1 v x := by
  cases h with
  | d h => exact .d (h.later l)
  | loc h => exact .loc (l.at h)
inductive RelAll (K : Frag) (as : List Addr) (H : Hp) : List V → List D → Prop
  | nil : RelAll K as H [] []
  | cons {v : V} {vs : List V} {d : D} {ds : List D} : Rel K as H v d → RelAll K as H vs ds → RelAll K as H (v :: vs) (d :: ds)
theorem RelAll.later (l : Later as H as1 H1) : ∀ {vs : List V} {xs : List D}, RelAll K as H vs xs → RelAll K as1 H1 vs xs
  | _, _, .nil => .nil
  | _, _, .cons r t => .cons (r.later l) (RelAll.later l t)
theorem RelAll.length : ∀ {vs : List V} {xs : List D}, RelAll K as H vs xs → vs.length = xs.length
  | _, _, .nil => rfl
  | _, _, .cons _ h => by rw [List.length_cons, List.length_cons, RelAll.length h]
theorem RelAll.get : ∀ {vs : List V} {xs : List D} {i : Nat} {x : D}, RelAll K as H vs xs → xs[i]? = some x → ∃ v, vs[i]? = some v ∧ Rel K as H v x
  | _, _, _, _, .nil, e => by simp at e
  | _, _, 0, p, .cons r _, e => by simp at e; subst e; exact ⟨_, rfl, r⟩
  | _, _, i + 1, p, .cons _ t, e => by
    obtain ⟨v, h1, h2⟩ := RelAll.get (i := i) t (by simpa using e)
    exact ⟨v, by simpa using h1, h2⟩
theorem RelAll.append : ∀ {vs ws : List V} {ps qs : List D}, RelAll K as H vs ps → RelAll K as H ws qs → RelAll K as H (vs ++ ws) (ps ++ qs)
  | _, _, _, _, .nil, h => h
  | _, _, _, _, .cons r t, h => .cons r (RelAll.append t h)
theorem RelAll.take : ∀ {vs : List V} {ps : List D} (n : Nat), RelAll K as H vs ps → RelAll K as H (vs.take n) (ps.take n)
  | _, _, 0, _ => .nil
  | _, _, n + 1, .nil => .nil
  | _, _, n + 1, .cons r t => .cons r (RelAll.take n t)
theorem RelAll.drop : ∀ {vs : List V} {ps : List D} (n : Nat), RelAll K as H vs ps → RelAll K as H (vs.drop n) (ps.drop n)
  | _, _, 0, h => h
  | _, _, n + 1, .nil => .nil
  | _, _, n + 1, .cons r t => RelAll.drop n t
theorem RelAll.set : ∀ {vs : List V} {xs : List D} (i : Nat) {v : V} {x : D}, Rel K as H v x → RelAll K as H vs xs → RelAll K as H (vs.set i v) (xs.set i x)
  | _, _, _, _, _, _, .nil => .nil
  | _, _, 0, _, _, r, .cons _ t => .cons r t
  | _, _, i + 1, _, _, r, .cons q t => .cons q (RelAll.set i r t)
theorem RelAll.dropLast {vs : List V} {xs : List D} (h : RelAll K as H vs xs) : RelAll K as H vs.dropLast xs.dropLast := by
  rw [List.dropLast_eq_take, List.dropLast_eq_take, h.length]
  exact h.take _
theorem RelAll.reverse : ∀ {vs : List V} {ps : List D}, RelAll K as H vs ps → RelAll K as H vs.reverse ps.reverse
  | _, _, .nil => .nil
  | _, _, .cons r t => by
    rw [List.reverse_cons, List.reverse_cons]
    exact (RelAll.reverse t).append (.cons r .nil)
theorem DvAll.rel : ∀ {vs : List V} {ps : List PyData}, DvAll K as H vs ps → RelAll K as H vs (ps.map D.d)
  | _, _, .nil => .nil
  | _, _, .cons r t => .cons (.d r) (DvAll.rel t)
/-- all are data -/
def allD : List D → Option (List PyData)
  | [] => some []
  | .d p :: xs => (allD xs).map (p :: ·)
  | .loc _ :: _ => none
theorem allD_map : ∀ ps : List PyData, allD (ps.map D.d) = some ps
  | [] => rfl
  | p :: ps => by simp [allD, allD_map ps]
theorem allD_some : ∀ {xs : List D} {ps : List PyData}, allD xs = some ps → xs = ps.map D.d
  | [], ps, h => by simp [allD] at h; subst h; rfl
  | .d p :: xs, ps, h => by
    simp only [allD, Option.map_eq_some_iff] at h
    obtain ⟨q, h1, rfl⟩ := h
    rw [allD_some h1]
    rfl
  | .loc _ :: _, ps, h => by simp [allD] at h
theorem RelAll.data : ∀ {vs : List V} {ps : List PyData}, RelAll K as H vs (ps.map D.d) → DvAll K as H vs ps
  | _, [], h => by cases h; exact .nil
  | _, p :: ps, h => by
    cases h with
    | cons h1 h2 =>
      cases h1 with
      | d h1 => exact .cons h1 (RelAll.data h2)
theorem RelAll.ofAllD {vs : List V} {xs : List D} {ps : List PyData} (h : RelAll K as H vs xs) (e : allD xs = some ps) : DvAll K as H vs ps := by
  rw [allD_some e] at h
  exact h.data

/-- the store -/
def ObR (K : Frag) (as : List Addr) (H : Hp) (a : Addr) : O → Prop
  | .lst xs => ∃ vs, H a = some (.lst vs) ∧ RelAll K as H vs xs
  | .keys ks => (a == sysModules) = false ∧ ∃ xs : List (List Int × Addr × Value), H a = some (kdO a xs) ∧ xs.map (·.1) = ks ∧ ∀ z ∈ xs, TupR K as H z.2.1 (z.1.map V.int)
structure HeapR (K : Frag) (as : List Addr) (H : Hp) (h : Ho) : Prop where
  len : as.length = h.length
  nd : as.Nodup
  ob : ∀ (i : Nat) (o : O) (a : Addr), h[i]? = some o → as[i]? = some a → ObR K as H a o
theorem ObR.later (l : Later as H as1 H1) {a : Addr} {o : O} (e : H1 a = H a) (h : ObR K as H a o) : ObR K as1 H1 a o := by
  cases o with
  | lst xs =>
    obtain ⟨vs, h1, h2⟩ := h
    exact ⟨vs, e.trans h1, h2.later l⟩
  | keys ks =>
    obtain ⟨h0, xs, h1, h2, h3⟩ := h
    exact ⟨h0, xs, e.trans h1, h2, fun z hz => (h3 z hz).later l⟩
theorem ObR.there {a : Addr} {o : O} (h : ObR K as H a o) : ∃ u, H a = some u := by
  cases o with
  | lst xs =>
    obtain ⟨vs, h1, _⟩ := h
    exact ⟨_, h1⟩
  | keys ks =>
    obtain ⟨_, xs, h1, _⟩ := h
    exact ⟨_, h1⟩
theorem HeapR.at {h : Ho} (r : HeapR K as H h) {n : Nat} {o : O} (e : h[n]? = some o) : ∃ a, as[n]? = some a ∧ ObR K as H a o := by
  have hn : n < as.length := by
    rw [r.len]
    exact (List.getElem?_eq_some_iff.mp e).1
  exact ⟨as[n], List.getElem?_eq_getElem hn, r.ob n o _ e (List.getElem?_eq_getElem hn)⟩
theorem HeapR.there {h : Ho} (r : HeapR K as H h) {a : Addr} (ha : a ∈ as) : ∃ u, H a = some u := by
  obtain ⟨n, hn, e⟩ := List.mem_iff_getElem.mp ha
  have hn' : n < h.length := by rw [← r.len]; exact hn
  exact (r.ob n _ a (List.getElem?_eq_getElem hn') (by rw [List.getElem?_eq_getElem hn, e])).there
/-- a new thing that is no place -/
theorem HeapR.new {h : Ho} (r : HeapR K as H h) {p : Addr} (o : HO) (hp : H p = none) : HeapR K as (upd H p o) h := by
  refine ⟨r.len, r.nd, fun i u a e1 e2 => ?_⟩
  have q := r.ob i u a e1 e2
  obtain ⟨z, hz⟩ := q.there
  exact q.later (Later.new o hp) (upd_ne (ne_of_none hz hp))
/-- a new place -/
theorem HeapR.place {h : Ho} (r : HeapR K as H h) {p : Addr} {vs : List V} {xs : List D} (hp : H p = none) (hv : RelAll K as H vs xs) :
    HeapR K (as ++ [p]) (upd H p (.lst vs)) (h ++ [.lst xs]) ∧ (as ++ [p])[h.length]? = some p := by
  have l : Later as H (as ++ [p]) (upd H p (.lst vs)) := Later.place _ hp
  have hpas : p ∉ as := fun hm => by
    obtain ⟨u, e⟩ := r.there hm
    rw [hp] at e
    cases e
  have at' : (as ++ [p])[h.length]? = Option.some p := by rw [← r.len]; simp
  refine ⟨⟨by simp [r.len], by
    rw [List.nodup_append]
    exact ⟨r.nd, by simp, fun a ha b hb => by
      rw [List.mem_singleton] at hb
      rw [hb]
      exact fun e => hpas (e ▸ ha)⟩, fun i u a e1 e2 => ?_⟩, at'⟩
  by_cases hi : i < h.length
  · rw [List.getElem?_append_left hi] at e1
    rw [List.getElem?_append_left (by rw [r.len]; exact hi)] at e2
    have q := r.ob i u a e1 e2
    obtain ⟨z, hz⟩ := q.there
    exact q.later l (upd_ne (ne_of_none hz hp))
  · have hi' : i = h.length := by
      have := (List.getElem?_eq_some_iff.mp e1).1
      simp at this
      omega
    subst hi'
    simp at e1
    subst e1
    rw [at'] at e2
    cases e2
    exact ⟨vs, upd_same, hv.later l⟩
/-- a place is written -/
theorem HeapR.write {h : Ho} (r : HeapR K as H h) {n : Nat} {a : Addr} {vs : List V} {xs : List D} (ha : as[n]? = some a) (hv : RelAll K as H vs xs) :
    HeapR K as (upd H a (.lst vs)) (h.set n (.lst xs)) := by
  have hm : a ∈ as := List.mem_of_getElem? ha
  have l : Later as H as (upd H a (.lst vs)) := Later.write _ hm
  refine ⟨by rw [List.length_set]; exact r.len, r.nd, fun i u b e1 e2 => ?_⟩
  by_cases hi : n = i
  · subst hi
    have hn : n < h.length := by rw [← r.len]; exact (List.getElem?_eq_some_iff.mp ha).1
    rw [List.getElem?_set_self hn] at e1
    cases e1
    rw [ha] at e2
    cases e2
    exact ⟨vs, upd_same, hv.later l⟩
  · rw [List.getElem?_set_ne hi] at e1
    have ne : b ≠ a := fun e => hi (by
      subst e
      exact nd_ix r.nd ha e2)
    exact (r.ob i u b e1 e2).later l (upd_ne ne)

/-- a new place, of any kind -/
theorem HeapR.placeO {h : Ho} (r : HeapR K as H h) {p : Addr} {ob : HO} {o : O} (hp : H p = none) (hv : ObR K (as ++ [p]) (upd H p ob) p o) :
    HeapR K (as ++ [p]) (upd H p ob) (h ++ [o]) ∧ (as ++ [p])[h.length]? = some p := by
  have l : Later as H (as ++ [p]) (upd H p ob) := Later.place _ hp
  have hpas : p ∉ as := fun hm => by
    obtain ⟨u, e⟩ := r.there hm
    rw [hp] at e
    cases e
  have at' : (as ++ [p])[h.length]? = Option.some p := by rw [← r.len]; simp
  refine ⟨⟨by simp [r.len], by
    rw [List.nodup_append]
    exact ⟨r.nd, by simp, fun a ha b hb => by
      rw [List.mem_singleton] at hb
      rw [hb]
      exact fun e => hpas (e ▸ ha)⟩, fun i u a e1 e2 => ?_⟩, at'⟩
  by_cases hi : i < h.length
  · rw [List.getElem?_append_left hi] at e1
    rw [List.getElem?_append_left (by rw [r.len]; exact hi)] at e2
    have q := r.ob i u a e1 e2
    obtain ⟨z, hz⟩ := q.there
    exact q.later l (upd_ne (ne_of_none hz hp))
  · have hi' : i = h.length := by
      have := (List.getElem?_eq_some_iff.mp e1).1
      simp at this
      omega
    subst hi'
    simp at e1
    subst e1
    rw [at'] at e2
    cases e2
    exact hv
/-- a place is written, of any kind -/
theorem HeapR.writeO {h : Ho} (r : HeapR K as H h) {n : Nat} {a : Addr} {ob : HO} {o : O} (ha : as[n]? = some a) (hv : ObR K as (upd H a ob) a o) :
    HeapR K as (upd H a ob) (h.set n o) := by
  have hm : a ∈ as := List.mem_of_getElem? ha
  have l : Later as H as (upd H a ob) := Later.write _ hm
  refine ⟨by rw [List.length_set]; exact r.len, r.nd, fun i u b e1 e2 => ?_⟩
  by_cases hi : n = i
  · subst hi
    have hn : n < h.length := by rw [← r.len]; exact (List.getElem?_eq_some_iff.mp ha).1
    rw [List.getElem?_set_self hn] at e1
    cases e1
    rw [ha] at e2
    cases e2
    exact hv
  · rw [List.getElem?_set_ne hi] at e1
    have ne : b ≠ a := fun e => hi (by
      subst e
      exact nd_ix r.nd ha e2)
    exact (r.ob i u b e1 e2).later l (upd_ne ne)

/-- the frame -/
def EnvR (K : Frag) (as : List Addr) (H : Hp) (ρ : En) (σ : L2.St) : Prop :=
  ρ.length = σ.length ∧ ∀ (i : Nat) (x : D), ρ[i]? = some (some x) → ∃ v, σ[i]? = some (some v) ∧ Rel K as H v x
theorem EnvR.later (l : Later as H as1 H1) {ρ : En} {σ : L2.St} (h : EnvR K as H ρ σ) : EnvR K as1 H1 ρ σ :=
  ⟨h.1, fun i x e => let ⟨v, h1, h2⟩ := h.2 i x e; ⟨v, h1, h2.later l⟩⟩
theorem EnvR.set {ρ : En} {σ : L2.St} (h : EnvR K as H ρ σ) (i : Nat) {v : V} {x : D} (r : Rel K as H v x) : EnvR K as H (ρ.set i (some x)) (σ.set i (some v)) := by
  refine ⟨by rw [List.length_set, List.length_set]; exact h.1, fun j y e => ?_⟩
  by_cases hj : i = j
  · subst hj
    have hl : i < ρ.length := by
      have := (List.getElem?_eq_some_iff.mp e).1
      simpa using this
    rw [List.getElem?_set_self hl] at e
    cases e
    exact ⟨v, by rw [List.getElem?_set_self (by rw [← h.1]; exact hl)], r⟩
  · rw [List.getElem?_set_ne hj] at e
    obtain ⟨w, h1, h2⟩ := h.2 j y e
    exact ⟨w, by rw [List.getElem?_set_ne hj]; exact h1, h2⟩
end
/-- forget slots -/
def wipeD (ρ : En) : List Nat → En
  | [] => ρ
  | v :: vs => (wipeD ρ vs).set v none
theorem EnvR.wipe {K : Frag} {as : List Addr} {H : Hp} {ρ : En} {σ : L2.St} (h : EnvR K as H ρ σ) : ∀ vs : List Nat, EnvR K as H (wipeD ρ vs) (L2.wipe σ vs)
  | [] => h
  | v :: vs => by
    have ih := EnvR.wipe h vs
    refine ⟨by unfold wipeD L2.wipe; rw [List.length_set, List.length_set]; exact ih.1, fun j y e => ?_⟩
    unfold wipeD at e
    unfold L2.wipe
    by_cases hj : v = j
    · subst hj
      by_cases hl : v < (wipeD ρ vs).length
      · rw [List.getElem?_set_self hl] at e; cases e
      · rw [List.getElem?_eq_none (by simpa using hl)] at e; cases e
    · rw [List.getElem?_set_ne hj] at e
      obtain ⟨w, h1, h2⟩ := ih.2 j y e
      exact ⟨w, by rw [List.getElem?_set_ne hj]; exact h1, h2⟩
theorem wipeD_length (ρ : En) : ∀ vs : List Nat, (wipeD ρ vs).length = ρ.length
  | [] => rfl
  | v :: vs => by unfold wipeD; rw [List.length_set, wipeD_length ρ vs]

/-- an exception's class and its own dict -/
def ExR (K : Frag) (mg : Str → Option Value) (as : List Addr) (H : Hp) (cls : Value) (d : Option Addr) (x : Ex) : Prop :=
  ∃ C, mg x.cls = some (.ref C) ∧ cls = .ref C ∧
    match x.fld with
    | none => True
    | some (f, y) => ∃ dd v, d = some dd ∧ dd ∉ as ∧ H dd = some (.xd [(f, v)]) ∧ Rel K as H v y
theorem ExR.later {K : Frag} {mg : Str → Option Value} {as as1 : List Addr} {H H1 : Hp} (l : Later as H as1 H1) {cls : Value} {d : Option Addr} {x : Ex} (h : ExR K mg as H cls d x) : ExR K mg as1 H1 cls d x := by
  obtain ⟨C, h1, h2, h3⟩ := h
  refine ⟨C, h1, h2, ?_⟩
  cases e : x.fld with
  | none => trivial
  | some q =>
    obtain ⟨f, y⟩ := q
    rw [e] at h3
    obtain ⟨dd, v, e1, e2, e3, e4⟩ := h3
    obtain ⟨k1, k2⟩ := l.keep _ _ e3 e2
    exact ⟨dd, v, e1, k2, k1, e4.later l⟩

/-! ### readings over data -/
abbrev KD := D → Ho → Prop
abbrev XD := Ex → Ho → Prop
abbrev WE := En → Ho → KD → XD → Prop
abbrev WA := En → Ho → (List D → Ho → Prop) → XD → Prop
abbrev WT := En → Ho → (Bool → Ho → Prop) → XD → Prop
structure Nx where
  nx : En → Ho → Prop
  rt : D → Ho → Prop
  bk : En → Ho → Prop
  ct : En → Ho → Prop
  ex : Ex → En → Ho → Prop
abbrev WS := En → Ho → Nx → Prop

/-- what a wish about exceptions is, over data -/
def XTo (X : Cx) (W : WX) (as : List Addr) (H : Hp) (σ : L2.St) (E : XD) : Prop :=
  ∀ x h' cls dd as1 H', E x h' → Later as H as1 H' → HeapR X.K as1 H' h' → ExR X.K X.mg as1 H' cls dd x → W cls dd σ H'
def KTo (X : Cx) (as : List Addr) (H : Hp) (Q : KD) (QV : VK) : Prop :=
  ∀ y h' v as1 H', Q y h' → Later as H as1 H' → HeapR X.K as1 H' h' → Rel X.K as1 H' v y → QV v H'
def ATo (X : Cx) (as : List Addr) (H : Hp) (Q : List D → Ho → Prop) (QV : List V → Hp → Prop) : Prop :=
  ∀ ys h' vs as1 H', Q ys h' → Later as H as1 H' → HeapR X.K as1 H' h' → RelAll X.K as1 H' vs ys → QV vs H'
def TTo (X : Cx) (as : List Addr) (H : Hp) (Q : Bool → Ho → Prop) (QV : Bool → Hp → Prop) : Prop :=
  ∀ b h' as1 H', Q b h' → Later as H as1 H' → HeapR X.K as1 H' h' → QV b H'
structure STo (X : Cx) (W : WX) (as : List Addr) (H : Hp) (D : Nx) (D' : Ends) : Prop where
  nx : ∀ ρ h' σ as1 H', D.nx ρ h' → Later as H as1 H' → HeapR X.K as1 H' h' → EnvR X.K as1 H' ρ σ → D'.nx σ H'
  bk : ∀ ρ h' σ as1 H', D.bk ρ h' → Later as H as1 H' → HeapR X.K as1 H' h' → EnvR X.K as1 H' ρ σ → D'.bk σ H'
  ct : ∀ ρ h' σ as1 H', D.ct ρ h' → Later as H as1 H' → HeapR X.K as1 H' h' → EnvR X.K as1 H' ρ σ → D'.ct σ H'
  rt : ∀ y h' v as1 H', D.rt y h' → Later as H as1 H' → HeapR X.K as1 H' h' → Rel X.K as1 H' v y → D'.rt v H'
  ex : ∀ x ρ h' cls dd σ as1 H', D.ex x ρ h' → Later as H as1 H' → HeapR X.K as1 H' h' → EnvR X.K as1 H' ρ σ → ExR X.K X.mg as1 H' cls dd x → W cls dd σ H'
theorem XTo.later {X : Cx} {W : WX} {as as1 : List Addr} {H H1 : Hp} {σ : L2.St} {E : XD} (h : XTo X W as H σ E) (l : Later as H as1 H1) : XTo X W as1 H1 σ E :=
  fun x h' cls dd as2 H2 e l2 r xr => h x h' cls dd as2 H2 e (l.trans l2) r xr
theorem KTo.later {X : Cx} {as as1 : List Addr} {H H1 : Hp} {Q : KD} {QV : VK} (h : KTo X as H Q QV) (l : Later as H as1 H1) : KTo X as1 H1 Q QV :=
  fun y h' v as2 H2 e l2 r xr => h y h' v as2 H2 e (l.trans l2) r xr
theorem ATo.later {X : Cx} {as as1 : List Addr} {H H1 : Hp} {Q : List D → Ho → Prop} {QV : List V → Hp → Prop} (h : ATo X as H Q QV) (l : Later as H as1 H1) : ATo X as1 H1 Q QV :=
  fun y h' v as2 H2 e l2 r xr => h y h' v as2 H2 e (l.trans l2) r xr
theorem TTo.later {X : Cx} {as as1 : List Addr} {H H1 : Hp} {Q : Bool → Ho → Prop} {QV : Bool → Hp → Prop} (h : TTo X as H Q QV) (l : Later as H as1 H1) : TTo X as1 H1 Q QV :=
  fun y h' as2 H2 e l2 r => h y h' as2 H2 e (l.trans l2) r
theorem STo.later {X : Cx} {W : WX} {as as1 : List Addr} {H H1 : Hp} {D : Nx} {D' : Ends} (h : STo X W as H D D') (l : Later as H as1 H1) : STo X W as1 H1 D D' :=
  ⟨fun ρ h' σ as2 H2 e l2 => h.nx ρ h' σ as2 H2 e (l.trans l2), fun ρ h' σ as2 H2 e l2 => h.bk ρ h' σ as2 H2 e (l.trans l2), fun ρ h' σ as2 H2 e l2 => h.ct ρ h' σ as2 H2 e (l.trans l2),
    fun y h' v as2 H2 e l2 => h.rt y h' v as2 H2 e (l.trans l2), fun x ρ h' cls dd σ as2 H2 e l2 => h.ex x ρ h' cls dd σ as2 H2 e (l.trans l2)⟩

/-- soundness: the reading t asks no more than f does -/
def SpE (X : Cx) (W : WX) (t : TE) (f : WE) : Prop := ∀ σ H as ρ h Q E QV, EnvR X.K as H ρ σ → HeapR X.K as H h → f ρ h Q E → KTo X as H Q QV → XTo X W as H σ E → t σ H QV
def SpT (X : Cx) (W : WX) (t : TT) (f : WT) : Prop := ∀ σ H as ρ h Q E QV, EnvR X.K as H ρ σ → HeapR X.K as H h → f ρ h Q E → TTo X as H Q QV → XTo X W as H σ E → t σ H QV
def SpA (X : Cx) (W : WX) (t : TA) (f : WA) : Prop := ∀ σ H as ρ h Q E QV, EnvR X.K as H ρ σ → HeapR X.K as H h → f ρ h Q E → ATo X as H Q QV → XTo X W as H σ E → t σ H QV
def SpS (X : Cx) (W : WX) (t : TS) (f : WS) : Prop := ∀ σ H as ρ h D D', EnvR X.K as H ρ σ → HeapR X.K as H h → f ρ h D → STo X W as H D D' → t D' σ H
def SE (X : Cx) (W : WX) (e : Expr) (f : WE) : Prop := ∃ t, PE X e t ∧ SpE X W t f
def ST (X : Cx) (W : WX) (e : Expr) (f : WT) : Prop := ∃ t, PT X e t ∧ SpT X W t f
def SW (X : Cx) (W : WX) (e : Expr) (f : WT) : Prop := ∃ t, PW X e t ∧ SpT X W t f
def SA (X : Cx) (W : WX) (e : List Expr) (f : WA) : Prop := ∃ t, PA X e t ∧ SpA X W t f
def SS (X : Cx) (W : WX) (s : Stmt) (f : WS) : Prop := ∃ t, PS X s t ∧ SpS X W t f
def SB (X : Cx) (W : WX) (s : List Stmt) (f : WS) : Prop := ∃ t, PSs X s t ∧ SpS X W t f
end V2
set_option Elab.async false
set_option linter.all false
set_option maxRecDepth 100000
set_option maxHeartbeats 4000000
namespace V2
open PySem PySem.Spec PyProof.Rows L2
open PySem.W (Frag)
section
variable {X : Cx} {W : WX} {as : List Addr} {H : Hp} {h : Ho} {Q : KD} {QV : VK}
theorem KTo.q (k : KTo X as H Q QV) (r : HeapR X.K as H h) {v : V} {y : D} (q : Q y h) (rv : Rel X.K as H v y) : QV v H := k _ _ _ _ _ q (Later.refl _ _) r rv
theorem KTo.qd (k : KTo X as H Q QV) (r : HeapR X.K as H h) {v : V} {y : PyData} (q : Q (.d y) h) (rv : Dv X.K as H v y) : QV v H := k.q r q (.d rv)
/-- a new tuple or list, by value -/
theorem KTo.newTup (k : KTo X as H Q QV) (r : HeapR X.K as H h) {vs : List V} {ps : List PyData} (q : Q (.d (.tuple ps)) h) (rv : DvAll X.K as H vs ps) {p : Addr} (hp : H p = none) : QV (.ref p) (upd H p (.tup vs)) := by
  have l : Later as H as (upd H p (.tup vs)) := Later.new _ hp
  refine k _ _ _ _ _ q l (r.new _ hp) (.d (.tup (.inl ⟨.inl upd_same, fun hm => ?_⟩) (rv.later l)))
  obtain ⟨u, e⟩ := r.there hm
  rw [hp] at e
  cases e
theorem KTo.newLst (k : KTo X as H Q QV) (r : HeapR X.K as H h) {vs : List V} {ps : List PyData} (q : Q (.d (.list ps)) h) (rv : DvAll X.K as H vs ps) {p : Addr} (hp : H p = none) : QV (.ref p) (upd H p (.lst vs)) := by
  have l : Later as H as (upd H p (.lst vs)) := Later.new _ hp
  refine k _ _ _ _ _ q l (r.new _ hp) (.d (.lst (.inl ⟨.inl upd_same, fun hm => ?_⟩) (rv.later l)))
  obtain ⟨u, e⟩ := r.there hm
  rw [hp] at e
  cases e
/-- a new list, a place -/
theorem KTo.newLoc (k : KTo X as H Q QV) (r : HeapR X.K as H h) {vs : List V} {xs : List D} (q : Q (.loc h.length) (h ++ [.lst xs])) (rv : RelAll X.K as H vs xs) {p : Addr} (hp : H p = none) : QV (.ref p) (upd H p (.lst vs)) := by
  obtain ⟨r1, e⟩ := r.place hp rv
  exact k _ _ _ _ _ q (Later.place _ hp) r1 (.loc e)
end

/-! ### names and constants -/
def fVar (i : Nat) : WE := fun ρ h Q _ => match ρ[i]? with
  | some (some d) => Q d h
  | _ => False
def fC (p : PyData) : WE := fun _ h Q _ => Q (.d p) h
section
variable {X : Cx} {W : WX} {pos : Pos}
theorem SE.var (i : Nat) {x : Str} (hN : X.N[i]? = some x := by rfl) (hv : Vis X.env.scope x := by first | exact Or.inl rfl | exact Or.inr (Or.inl rfl) | exact Or.inr (Or.inr rfl)) (hd : (x == ("__debug__" : Str)) = false := by decide)
    (hcd : (x == ("__classdict__" : Str)) = false := by decide) : SE X W (.Name x pos) (fVar i) := by
  refine ⟨_, pe_var hN hv hd hcd, fun σ H as ρ h Q E QV eR hR hq k _ => ?_⟩
  unfold fVar at hq
  split at hq
  · rename_i d e
    obtain ⟨v, e2, r⟩ := eR.2 i d e
    exact ⟨v, e2, k.q hR hq r⟩
  · exact hq.elim
theorem SE.int {i : Int} {j} : SE X W (.Constant (.int i) j pos) (fC (.int i)) := ⟨_, pe_int, fun _ _ _ _ _ _ _ _ _ hR hq k _ => k.qd hR hq (.int i)⟩
theorem SE.bl {b : Bool} {j} : SE X W (.Constant (.bool b) j pos) (fC (.bool b)) := ⟨_, pe_bl, fun _ _ _ _ _ _ _ _ _ hR hq k _ => k.qd hR hq (.bl b)⟩
theorem SE.non {j} : SE X W (.Constant .none j pos) (fC .none) := ⟨_, pe_non, fun _ _ _ _ _ _ _ _ _ hR hq k _ => k.qd hR hq .non⟩
theorem SE.str {x : Str} {j} : SE X W (.Constant (.str x) j pos) (fC (.str x)) := ⟨_, pe_str, fun _ _ _ _ _ _ _ _ _ hR hq k _ => k.qd hR hq (.str x)⟩
/-- a constant of the module that is a tuple of the written part -/
theorem SE.glob {x : Str} {v : V} {u : Value} {p : PyData} (hg : Gl X x) (hm : X.mg x = some u) (r : RelV v u) (hv : ∀ as H, Dv X.K as H v p) (hd : (x == ("__debug__" : Str)) = false := by decide) : SE X W (.Name x pos) (fC p) :=
  ⟨_, pe_glob hg hm r hd, fun _ H as _ _ _ _ _ _ hR hq k _ => k.qd hR hq (hv as H)⟩
end

/-! ### arguments -/
def aNil : WA := fun _ h Q _ => Q [] h
def aCons (f : WE) (g : WA) : WA := fun ρ h Q E => f ρ h (fun x h1 => g ρ h1 (fun xs h2 => Q (x :: xs) h2) E) E
section
variable {X : Cx} {W : WX} {e : Expr} {es : List Expr} {f : WE} {g : WA} {pos : Pos}
theorem SA.nil : SA X W [] aNil := ⟨_, pa_nil, fun _ _ _ _ _ _ _ _ _ hR hq k _ => k _ _ _ _ _ hq (Later.refl _ _) hR .nil⟩
theorem SA.cons (he : SE X W e f) (hr : SA X W es g) (hs : starEach (e :: es) X.env = (false, eval e X.env) :: starEach es X.env := by rfl) : SA X W (e :: es) (aCons f g) := by
  obtain ⟨te, pe, se⟩ := he
  obtain ⟨ta, pa, sa⟩ := hr
  refine ⟨_, pa_cons pe pa hs, fun σ H as ρ h Q E QV eR hR hq k kx => ?_⟩
  refine se σ H as ρ h _ E _ eR hR hq (fun x h1 v as1 H1 hq1 l1 r1 rv => ?_) kx
  refine sa σ H1 as1 ρ h1 _ E _ (eR.later l1) r1 hq1 (fun xs h2 vs as2 H2 hq2 l2 r2 rvs => ?_) (kx.later l1)
  exact k _ _ _ _ _ hq2 (l1.trans l2) r2 (.cons (rv.later l2) rvs)
end

/-! ### operators of two -/
abbrev WR2 := D → D → Ho → KD → Prop
def fBin (r : WR2) (fa fb : WE) : WE := fun ρ h Q E => fa ρ h (fun x h1 => fb ρ h1 (fun y h2 => r x y h2 Q) E) E
def Cp2 (X : Cx) (rV : R2) (r : WR2) : Prop := ∀ x y h Q v w as H QV, Rel X.K as H v x → Rel X.K as H w y → HeapR X.K as H h → r x y h Q → KTo X as H Q QV → rV v w H QV
section
variable {X : Cx} {W : WX} {a b : Expr} {fa fb : WE} {pos : Pos}
theorem sp_op {rV : R2} {r : WR2} {ta tb : TE} (c : Cp2 X rV r) (ha : SpE X W ta fa) (hb : SpE X W tb fb) : SpE X W (tOp rV ta tb) (fBin r fa fb) := by
  intro σ H as ρ h Q E QV eR hR hq k kx
  refine ha σ H as ρ h _ E _ eR hR hq (fun x h1 v as1 H1 hq1 l1 r1 rv => ?_) kx
  refine hb σ H1 as1 ρ h1 _ E _ (eR.later l1) r1 hq1 (fun y h2 w as2 H2 hq2 l2 r2 rw' => ?_) (kx.later l1)
  exact c x y h2 Q v w as2 H2 QV (rv.later l2) rw' r2 hq2 (k.later (l1.trans l2))
theorem SE.bin {op : Operator} {rV : R2} {r : WR2} (ho : OpR X (binaryOp op) rV) (c : Cp2 X rV r) (ha : SE X W a fa) (hb : SE X W b fb) : SE X W (.BinOp a op b pos) (fBin r fa fb) := by
  obtain ⟨ta, pa, sa⟩ := ha
  obtain ⟨tb, pb, sb⟩ := hb
  exact ⟨_, pe_op ho pa pb, sp_op c sa sb⟩
theorem SE.cmp {op : CmpOp} {rV : R2} {r : WR2} (ho : OpR X (compareOp op) rV) (c : Cp2 X rV r) (ha : SE X W a fa) (hb : SE X W b fb) (hm : behindInMarks op b = false) : SE X W (.Compare a [op] [b] pos) (fBin r fa fb) := by
  obtain ⟨ta, pa, sa⟩ := ha
  obtain ⟨tb, pb, sb⟩ := hb
  exact ⟨_, pe_cmpR ho pa pb hm, sp_op c sa sb⟩
end
/-- two ints -/
def rInts (C : Int → Int → Prop) (g : Int → Int → PyData) : WR2 := fun x y h Q => match x, y with
  | .d (.int i), .d (.int j) => C i j ∧ Q (.d (g i j)) h
  | _, _ => False
section
variable {X : Cx}
theorem cp_ints {C : Int → Int → Prop} {gV : Int → Int → V} {g : Int → Int → PyData} (hg : ∀ K as H i j, Dv K as H (gV i j) (g i j)) : Cp2 X (rI C gV) (rInts C g) := by
  intro x y h Q v w as H QV rx ry hR hq k
  unfold rInts at hq
  split at hq
  · rename_i i j
    cases rx with | d rx =>
    cases ry with | d ry =>
    cases rx
    cases ry
    exact ⟨i, j, rfl, rfl, hq.1, k.qd hR hq.2 (hg _ _ _ _ _)⟩
  · exact hq.elim
theorem cp_ints0 {gV : Int → Int → V} {g : Int → Int → PyData} (hg : ∀ K as H i j, Dv K as H (gV i j) (g i j)) : Cp2 X (rI0 gV) (rInts (fun _ _ => True) g) := by
  intro x y h Q v w as H QV rx ry hR hq k
  unfold rInts at hq
  split at hq
  · rename_i i j
    cases rx with | d rx =>
    cases ry with | d ry =>
    cases rx
    cases ry
    exact ⟨i, j, rfl, rfl, k.qd hR hq.2 (hg _ _ _ _ _)⟩
  · exact hq.elim
def CDivA (_ j : Int) : Prop := j ≠ 0 ∧ j.natAbs.log2 < 9000
theorem op_fdivA : OpR X (binaryOp .FloorDiv) (rI CDivA fun i j => .int (i.fdiv j)) := opI fun i j _ _ _ _ _ hc q => floordiv_int hc.1 q (.inl (PyProof.noPylong_of_log2 hc.2))
end

/-- the items of a list or tuple -/
def items (h : Ho) : D → Option (List D)
  | .d (.list ps) => some (ps.map D.d)
  | .d (.tuple ps) => some (ps.map D.d)
  | .d _ => none
  | .loc n => match h[n]? with
    | some (.lst xs) => some xs
    | _ => none
theorem items_rel {K : Frag} {as : List Addr} {H : Hp} {h : Ho} {v : V} {x : D} {xs : List D} (r : Rel K as H v x) (hR : HeapR K as H h) (e : items h x = some xs) :
    ∃ a vs, v = .ref a ∧ (SqL K H a vs ∨ SqT K H a vs) ∧ RelAll K as H vs xs := by
  cases r with
  | d r =>
    cases r with
    | lst s al =>
      simp only [items, Option.some.injEq] at e
      subst e
      exact ⟨_, _, rfl, .inl s.sq, al.rel⟩
    | tup s al =>
      simp only [items, Option.some.injEq] at e
      subst e
      exact ⟨_, _, rfl, .inr s.sq, al.rel⟩
    | non => simp [items] at e
    | bl => simp [items] at e
    | int => simp [items] at e
    | str => simp [items] at e
  | loc ha =>
    rename_i a n
    simp only [items] at e
    split at e
    · rename_i ys en
      cases e
      obtain ⟨b, hb, ob⟩ := hR.at en
      rw [ha] at hb
      cases hb
      obtain ⟨vs, e1, e2⟩ := ob
      exact ⟨a, vs, rfl, .inl (SqL.of e1), e2⟩
    · cases e
/-- the items of a list -/
def litems (h : Ho) : D → Option (List D)
  | .d (.list ps) => some (ps.map D.d)
  | .d _ => none
  | .loc n => match h[n]? with
    | some (.lst xs) => some xs
    | _ => none
theorem litems_rel {K : Frag} {as : List Addr} {H : Hp} {h : Ho} {v : V} {x : D} {xs : List D} (r : Rel K as H v x) (hR : HeapR K as H h) (e : litems h x = some xs) :
    ∃ a vs, v = .ref a ∧ SqL K H a vs ∧ RelAll K as H vs xs := by
  cases r with
  | d r =>
    cases r with
    | lst s al =>
      simp only [litems, Option.some.injEq] at e
      subst e
      exact ⟨_, _, rfl, s.sq, al.rel⟩
    | tup s al => simp [litems] at e
    | non => simp [litems] at e
    | bl => simp [litems] at e
    | int => simp [litems] at e
    | str => simp [litems] at e
  | loc ha =>
    rename_i a n
    simp only [litems] at e
    split at e
    · rename_i ys en
      cases e
      obtain ⟨b, hb, ob⟩ := hR.at en
      rw [ha] at hb
      cases hb
      obtain ⟨vs, e1, e2⟩ := ob
      exact ⟨a, vs, rfl, SqL.of e1, e2⟩
    · cases e
/-- data, or a place that holds data -/
def datum (h : Ho) : D → Option PyData
  | .d p => some p
  | .loc n => match h[n]? with
    | some (.lst xs) => (allD xs).map PyData.list
    | _ => none
theorem datum_dp {K : Frag} {as : List Addr} {H : Hp} {h : Ho} {v : V} {x : D} {p : PyData} (r : Rel K as H v x) (hR : HeapR K as H h) (e : datum h x = some p) : Dp K H v p := by
  cases r with
  | d r =>
    simp only [datum, Option.some.injEq] at e
    subst e
    exact r.dp
  | loc ha =>
    simp only [datum] at e
    split at e
    · rename_i ys en
      simp only [Option.map_eq_some_iff] at e
      obtain ⟨ps, e1, rfl⟩ := e
      obtain ⟨b, hb, ob⟩ := hR.at en
      rw [ha] at hb
      cases hb
      obtain ⟨vs, e2, e3⟩ := ob
      exact .lst (SqL.of e2) (DvAll.dp (e3.ofAllD e1))
    · cases e

/-! ### + -/
/-- list + list, also of what is only read -/
def rCatR (K : Frag) : R2 := fun x y H Q => ∃ l b xs zs, x = .ref l ∧ y = .ref b ∧ SqL K H l xs ∧ SqL K H b zs ∧ xs.length + zs.length ≤ sizeLine ∧ ∀ p, H p = none → Q (.ref p) (upd H p (.lst (xs ++ zs)))
theorem op_catR {X : Cx} : OpR X (binaryOp .Add) (rCatR X.K) := by
  intro pins s σ H x y v u Q I rx ry h
  obtain ⟨l, b, xs, zs, rfl, rfl, h1, h2, hz, q⟩ := h
  cases rx; cases ry
  obtain ⟨i1, r1, ⟨⟨c1, d1, t1, s1⟩, n1, g1, k1, m1, e1⟩, z1⟩ := I.list h1
  obtain ⟨i2, r2, ⟨⟨c2, d2, t2, s2⟩, n2, g2, k2, m2, e2⟩, z2⟩ := I.list h2
  simp only at k1 e1 k2 e2
  subst k1; subst e1; subst k2; subst e2
  have hsz : i1.toArray.size + i2.toArray.size ≤ sizeLine := by
    rw [List.size_toArray, List.size_toArray, ← r1.length, ← r2.length]; exact hz
  refine concat_meets ⟨_, g1, rfl⟩ ⟨_, g2, rfl⟩ noFill_list_add seq_list_add F.slot_list_add F.entry_list_add (F.args_list_add_2 _ _)
    (list_addW l b i1.toArray i2.toArray n1 n2 d1 d2 s1 s2 hsz) ⟨g1, g2, ?_⟩
  have ea : i1.toArray ++ i2.toArray = (i1 ++ i2).toArray := by simp
  rw [ea]
  exact ⟨.ref _, _, I.lnew (t' := s.toks) (r1.append r2) (by rw [List.length_append]; exact hz), rfl, q _ I.fresh⟩
def rAdd2 : WR2 := fun x y h Q => match x, y with
  | .d (.int i), .d (.int j) => Q (.d (.int (i + j))) h
  | .d (.str a), .d (.str b) => a.length + b.length ≤ sizeLine ∧ Q (.d (.str (a ++ b))) h
  | .d (.list ps), .d (.list qs) => ps.length + qs.length ≤ sizeLine ∧ Q (.d (.list (ps ++ qs))) h
  | .d (.tuple ps), .d (.tuple qs) => ps.length + qs.length ≤ sizeLine ∧ Q (.d (.tuple (ps ++ qs))) h
  | _, _ => False
def rAddV (K : Frag) : R2 := fun x y H Q => rI0 (fun i j => .int (i + j)) x y H Q ∨ (∃ i j, x = .str i ∧ y = .str j ∧ i.length + j.length ≤ sizeLine ∧ Q (.str (i ++ j)) H) ∨ rCatR K x y H Q ∨ rCatA K x y H Q
section
variable {X : Cx}
theorem op_addV : OpR X (binaryOp .Add) (rAddV X.K) := op_add.or (op_add_str.or (op_catR.or op_catA))
theorem cp_add : Cp2 X (rAddV X.K) rAdd2 := by
  intro x y h Q v w as H QV rx ry hR hq k
  unfold rAdd2 at hq
  split at hq
  · cases rx with | d rx =>
    cases ry with | d ry =>
    cases rx
    cases ry
    exact .inl ⟨_, _, rfl, rfl, k.qd hR hq (.int _)⟩
  · cases rx with | d rx =>
    cases ry with | d ry =>
    cases rx
    cases ry
    exact .inr (.inl ⟨_, _, rfl, rfl, hq.1, k.qd hR hq.2 (.str _)⟩)
  · cases rx with | d rx =>
    cases ry with | d ry =>
    cases rx with | lst sx ax =>
    cases ry with | lst sy ay =>
    refine .inr (.inr (.inl ⟨_, _, _, _, rfl, rfl, sx.sq, sy.sq, by rw [ax.length, ay.length]; exact hq.1, fun p hp => ?_⟩))
    exact k.newLst hR hq.2 (ax.append ay) hp
  · cases rx with | d rx =>
    cases ry with | d ry =>
    cases rx with | tup sx ax =>
    cases ry with | tup sy ay =>
    refine .inr (.inr (.inr ⟨_, _, _, _, rfl, rfl, sx.sq, sy.sq, by rw [ax.length, ay.length]; exact hq.1, fun e => ?_, fun _ e => ?_, fun _ _ p hp => ?_⟩))
    · subst e
      cases ax
      exact k.qd hR hq.2 (.tup sy ay)
    · subst e
      cases ay
      have := hq.2
      rw [List.append_nil] at this
      exact k.qd hR this (.tup sx ax)
    · exact k.newTup hR hq.2 (ax.append ay) hp
  · exact hq.elim
theorem SE.add {W : WX} {a b : Expr} {fa fb : WE} {pos : Pos} (ha : SE X W a fa) (hb : SE X W b fb) : SE X W (.BinOp a .Add b pos) (fBin rAdd2 fa fb) := .bin op_addV cp_add ha hb
abbrev rSub2 : WR2 := rInts (fun _ _ => True) fun i j => .int (i - j)
abbrev rMul2 : WR2 := rInts CMulW fun i j => .int (i * j)
abbrev rDiv2 : WR2 := rInts CDivA fun i j => .int (i.fdiv j)
abbrev rMod2 : WR2 := rInts (fun _ j => 0 < j) fun i j => .int (i % j)
abbrev rPow2 : WR2 := rInts CPow fun i j => .int (i ^ j.toNat)
theorem SE.sub {W : WX} {a b : Expr} {fa fb : WE} {pos : Pos} (ha : SE X W a fa) (hb : SE X W b fb) : SE X W (.BinOp a .Sub b pos) (fBin rSub2 fa fb) := .bin op_sub (cp_ints0 fun _ _ _ _ _ => .int _) ha hb
theorem SE.mul {W : WX} {a b : Expr} {fa fb : WE} {pos : Pos} (ha : SE X W a fa) (hb : SE X W b fb) : SE X W (.BinOp a .Mult b pos) (fBin rMul2 fa fb) := .bin op_mulW (cp_ints fun _ _ _ _ _ => .int _) ha hb
theorem SE.div {W : WX} {a b : Expr} {fa fb : WE} {pos : Pos} (ha : SE X W a fa) (hb : SE X W b fb) : SE X W (.BinOp a .FloorDiv b pos) (fBin rDiv2 fa fb) := .bin op_fdivA (cp_ints fun _ _ _ _ _ => .int _) ha hb
theorem SE.mod {W : WX} {a b : Expr} {fa fb : WE} {pos : Pos} (ha : SE X W a fa) (hb : SE X W b fb) : SE X W (.BinOp a .Mod b pos) (fBin rMod2 fa fb) := .bin op_mod (cp_ints fun _ _ _ _ _ => .int _) ha hb
theorem SE.pow {W : WX} {a b : Expr} {fa fb : WE} {pos : Pos} (ha : SE X W a fa) (hb : SE X W b fb) : SE X W (.BinOp a .Pow b pos) (fBin rPow2 fa fb) := .bin op_pow (cp_ints fun _ _ _ _ _ => .int _) ha hb

/-! ### comparisons -/
abbrev rCmp2 (p : Int → Int → Bool) : WR2 := rInts (fun _ _ => True) fun i j => .bool (p i j)
variable {W : WX} {a b : Expr} {fa fb : WE} {pos : Pos}
theorem SE.lt (ha : SE X W a fa) (hb : SE X W b fb) : SE X W (.Compare a [.Lt] [b] pos) (fBin (rCmp2 fun i j => decide (i < j)) fa fb) := .cmp op_lt (cp_ints0 fun _ _ _ _ _ => .bl _) ha hb (nomark _)
theorem SE.le (ha : SE X W a fa) (hb : SE X W b fb) : SE X W (.Compare a [.LtE] [b] pos) (fBin (rCmp2 fun i j => decide (i ≤ j)) fa fb) := .cmp op_le (cp_ints0 fun _ _ _ _ _ => .bl _) ha hb (nomark _)
theorem SE.gt (ha : SE X W a fa) (hb : SE X W b fb) : SE X W (.Compare a [.Gt] [b] pos) (fBin (rCmp2 fun i j => decide (j < i)) fa fb) := .cmp op_gt (cp_ints0 fun _ _ _ _ _ => .bl _) ha hb (nomark _)
theorem SE.ge (ha : SE X W a fa) (hb : SE X W b fb) : SE X W (.Compare a [.GtE] [b] pos) (fBin (rCmp2 fun i j => decide (j ≤ i)) fa fb) := .cmp op_ge (cp_ints0 fun _ _ _ _ _ => .bl _) ha hb (nomark _)
/-- == : ints at once, other data by the model's own comparison -/
def rEq2 : WR2 := fun x y h Q => match x, y with
  | .d (.int i), .d (.int j) => Q (.d (.bool (decide (i = j)))) h
  | .d (.str i), .d (.str j) => Q (.d (.bool (decide (i = j)))) h
  | _, _ => match datum h x, datum h y with
    | some p, some q => SeqAt.shaped p = true ∧ SeqAt.shaped q = true ∧ Q (.d (.bool (PyData.eqv p q))) h
    | _, _ => False
def rNe2 : WR2 := fun x y h Q => match x, y with
  | .d (.int i), .d (.int j) => Q (.d (.bool (!decide (i = j)))) h
  | .d (.str i), .d (.str j) => Q (.d (.bool (!decide (i = j)))) h
  | _, _ => match datum h x, datum h y with
    | some p, some q => SeqAt.shaped p = true ∧ SeqAt.shaped q = true ∧ Q (.d (.bool (!PyData.eqv p q))) h
    | _, _ => False
theorem int_vdec (i j : Int) : decide (V.int i = V.int j) = decide (i = j) := by
  by_cases e : i = j
  · subst e; simp
  · rw [decide_eq_false e, decide_eq_false fun z => e (V.int.inj z)]
theorem str_vdec (i j : Str) : decide (V.str i = V.str j) = decide (i = j) := by
  by_cases e : i = j
  · subst e; simp
  · rw [decide_eq_false e, decide_eq_false fun z => e (V.str.inj z)]
theorem cp_eq : Cp2 X (fun x y H Q => rEq x y H Q ∨ rEqD X.K x y H Q) rEq2 := by
  intro x y h Q v w as H QV rx ry hR hq k
  unfold rEq2 at hq
  split at hq
  · cases rx with | d rx =>
    cases ry with | d ry =>
    cases rx
    cases ry
    exact .inl ⟨rfl, by rw [int_vdec]; exact k.qd hR hq (.bl _)⟩
  · cases rx with | d rx =>
    cases ry with | d ry =>
    cases rx
    cases ry
    exact .inl ⟨rfl, by rw [str_vdec]; exact k.qd hR hq (.bl _)⟩
  · split at hq
    · rename_i p q e1 e2
      exact .inr ⟨p, q, datum_dp rx hR e1, datum_dp ry hR e2, hq.1, hq.2.1, k.qd hR hq.2.2 (.bl _)⟩
    · exact hq.elim
theorem cp_ne : Cp2 X (fun x y H Q => rNe x y H Q ∨ rNeD X.K x y H Q) rNe2 := by
  intro x y h Q v w as H QV rx ry hR hq k
  unfold rNe2 at hq
  split at hq
  · cases rx with | d rx =>
    cases ry with | d ry =>
    cases rx
    cases ry
    exact .inl ⟨rfl, by rw [int_vdec]; exact k.qd hR hq (.bl _)⟩
  · cases rx with | d rx =>
    cases ry with | d ry =>
    cases rx
    cases ry
    exact .inl ⟨rfl, by rw [str_vdec]; exact k.qd hR hq (.bl _)⟩
  · split at hq
    · rename_i p q e1 e2
      exact .inr ⟨p, q, datum_dp rx hR e1, datum_dp ry hR e2, hq.1, hq.2.1, k.qd hR hq.2.2 (.bl _)⟩
    · exact hq.elim
theorem SE.eq (hu : X.A.units + 64 < cLine) (ha : SE X W a fa) (hb : SE X W b fb) : SE X W (.Compare a [.Eq] [b] pos) (fBin rEq2 fa fb) := .cmp (op_eq.or (op_eqD hu)) cp_eq ha hb (nomark _)
theorem SE.ne (hu : X.A.units + 64 < cLine) (ha : SE X W a fa) (hb : SE X W b fb) : SE X W (.Compare a [.NotEq] [b] pos) (fBin rNe2 fa fb) := .cmp (op_ne.or (op_neD hu)) cp_ne ha hb (nomark _)
/-- is None -/
def isNon : D → Bool
  | .d .none => true
  | _ => false
def rIsN2 : WR2 := fun x y h Q => match y with
  | .d .none => Q (.d (.bool (isNon x))) h
  | _ => False
def rNotN2 : WR2 := fun x y h Q => match y with
  | .d .none => Q (.d (.bool (!isNon x))) h
  | _ => False
theorem isnon_rel {K : Frag} {as : List Addr} {H : Hp} {v : V} {x : D} (r : Rel K as H v x) : decide (v = V.non) = isNon x := by
  cases r with
  | d r => cases r <;> first | rfl | exact decide_eq_false (fun z => by cases z)
  | loc _ => exact decide_eq_false (fun z => by cases z)
theorem cp_isN : Cp2 X (fun x y H Q => y = .non ∧ Q (.bl (decide (x = .non))) H) rIsN2 := by
  intro x y h Q v w as H QV rx ry hR hq k
  unfold rIsN2 at hq
  split at hq
  · cases ry with | d ry =>
    cases ry
    refine ⟨rfl, ?_⟩
    rw [isnon_rel rx]
    exact k.qd hR hq (.bl _)
  · exact hq.elim
theorem cp_notN : Cp2 X (fun x y H Q => y = .non ∧ Q (.bl (!decide (x = .non))) H) rNotN2 := by
  intro x y h Q v w as H QV rx ry hR hq k
  unfold rNotN2 at hq
  split at hq
  · cases ry with | d ry =>
    cases ry
    refine ⟨rfl, ?_⟩
    rw [isnon_rel rx]
    exact k.qd hR hq (.bl _)
  · exact hq.elim
theorem SE.isN (ha : SE X W a fa) (hb : SE X W b fb) : SE X W (.Compare a [.Is] [b] pos) (fBin rIsN2 fa fb) := .cmp op_isN cp_isN ha hb (nomark _)
theorem SE.notN (ha : SE X W a fa) (hb : SE X W b fb) : SE X W (.Compare a [.IsNot] [b] pos) (fBin rNotN2 fa fb) := .cmp op_notN cp_notN ha hb (nomark _)
end

/-! ### one -/
def fUn (g : Int → PyData) (fa : WE) : WE := fun ρ h Q E => fa ρ h (fun x h1 => match x with
  | .d (.int i) => Q (.d (g i)) h1
  | _ => False) E
section
variable {X : Cx} {W : WX} {a b : Expr} {fa fb : WE} {pos : Pos}
theorem SE.neg (ha : SE X W a fa) : SE X W (.UnaryOp .USub a pos) (fUn (fun i => .int (-i)) fa) := by
  obtain ⟨ta, pa, sa⟩ := ha
  refine ⟨_, pe_un un_neg pa, fun σ H as ρ h Q E QV eR hR hq k kx => ?_⟩
  refine sa σ H as ρ h _ E _ eR hR hq (fun x h1 v as1 H1 hq1 l1 r1 rv => ?_) kx
  split at hq1
  · cases rv with | d rv =>
    cases rv
    exact ⟨_, rfl, (k.later l1).qd r1 hq1 (.int _)⟩
  · exact hq1.elim
/-! ### tests -/
/-- a value that is True or False -/
def tVal (fa : WE) : WT := fun ρ h Q E => fa ρ h (fun x h1 => match x with
  | .d (.bool b) => Q b h1
  | _ => False) E
theorem sp_val {t : TE} (sa : SpE X W t fa) : SpT X W (tB t) (tVal fa) := by
  intro σ H as ρ h Q E QV eR hR hq k kx
  refine sa σ H as ρ h _ E _ eR hR hq (fun x h1 v as1 H1 hq1 l1 r1 rv => ?_) kx
  split at hq1
  · cases rv with | d rv =>
    cases rv
    exact ⟨_, rfl, k _ _ _ _ hq1 l1 r1⟩
  · exact hq1.elim
def tAnd2 (f g : WT) : WT := fun ρ h Q E => f ρ h (fun b h1 => if b = true then g ρ h1 Q E else Q false h1) E
def tOr2 (f g : WT) : WT := fun ρ h Q E => f ρ h (fun b h1 => if b = true then Q true h1 else g ρ h1 Q E) E
def tNot2 (f : WT) : WT := fun ρ h Q E => f ρ h (fun b h1 => Q (!b) h1) E
end

section
variable {X : Cx} {W : WX} {a b : Expr} {rest : List Expr} {fa fb : WE} {f g : WT} {pos : Pos}
theorem ST.val (ha : SE X W a fa) (he : ∀ whole, isTrue a X.env whole = (do let v ← whole; standAt a.pos; holding [v] (truthy v)) := by intro _; rfl) : ST X W a (tVal fa) := by
  obtain ⟨ta, pa, sa⟩ := ha
  exact ⟨_, pt_val pa he, sp_val sa⟩
theorem sp_test {t : TE} (sa : SpE X W t fa) : SpT X W (tTest t) (tVal fa) := sp_val sa
/-- a comparison as a test -/
theorem ST.cmp {op : CmpOp} {rV : R2} {r : WR2} (ho : OpR X (compareOp op) rV) (c : Cp2 X rV r) (ha : SE X W a fa) (hb : SE X W b fb) (hm : behindInMarks op b = false) : ST X W (.Compare a [op] [b] pos) (tVal (fBin r fa fb)) := by
  obtain ⟨ta, pa, sa⟩ := ha
  obtain ⟨tb, pb, sb⟩ := hb
  exact ⟨_, pt_cmpR ho pa pb hm, sp_test (sp_op c sa sb)⟩
theorem ST.lt (ha : SE X W a fa) (hb : SE X W b fb) : ST X W (.Compare a [.Lt] [b] pos) (tVal (fBin (rCmp2 fun i j => decide (i < j)) fa fb)) := .cmp op_lt (cp_ints0 fun _ _ _ _ _ => .bl _) ha hb (nomark _)
theorem ST.le (ha : SE X W a fa) (hb : SE X W b fb) : ST X W (.Compare a [.LtE] [b] pos) (tVal (fBin (rCmp2 fun i j => decide (i ≤ j)) fa fb)) := .cmp op_le (cp_ints0 fun _ _ _ _ _ => .bl _) ha hb (nomark _)
theorem ST.gt (ha : SE X W a fa) (hb : SE X W b fb) : ST X W (.Compare a [.Gt] [b] pos) (tVal (fBin (rCmp2 fun i j => decide (j < i)) fa fb)) := .cmp op_gt (cp_ints0 fun _ _ _ _ _ => .bl _) ha hb (nomark _)
theorem ST.ge (ha : SE X W a fa) (hb : SE X W b fb) : ST X W (.Compare a [.GtE] [b] pos) (tVal (fBin (rCmp2 fun i j => decide (j ≤ i)) fa fb)) := .cmp op_ge (cp_ints0 fun _ _ _ _ _ => .bl _) ha hb (nomark _)
theorem ST.eq (hu : X.A.units + 64 < cLine) (ha : SE X W a fa) (hb : SE X W b fb) : ST X W (.Compare a [.Eq] [b] pos) (tVal (fBin rEq2 fa fb)) := .cmp (op_eq.or (op_eqD hu)) cp_eq ha hb (nomark _)
theorem ST.ne (hu : X.A.units + 64 < cLine) (ha : SE X W a fa) (hb : SE X W b fb) : ST X W (.Compare a [.NotEq] [b] pos) (tVal (fBin rNe2 fa fb)) := .cmp (op_ne.or (op_neD hu)) cp_ne ha hb (nomark _)
theorem ST.isN (ha : SE X W a fa) (hb : SE X W b fb) : ST X W (.Compare a [.Is] [b] pos) (tVal (fBin rIsN2 fa fb)) := .cmp op_isN cp_isN ha hb (nomark _)
theorem ST.notN (ha : SE X W a fa) (hb : SE X W b fb) : ST X W (.Compare a [.IsNot] [b] pos) (tVal (fBin rNotN2 fa fb)) := .cmp op_notN cp_notN ha hb (nomark _)
theorem SW.and1 (ha : ST X W a f) : SW X W (.BoolOp .And [a] pos) f := let ⟨_, p, s⟩ := ha; ⟨_, pw_and1 p, s⟩
theorem SW.or1 (ha : ST X W a f) : SW X W (.BoolOp .Or [a] pos) f := let ⟨_, p, s⟩ := ha; ⟨_, pw_or1 p, s⟩
theorem SW.and (ha : ST X W a f) (hb : SW X W (.BoolOp .And (b :: rest) pos) g) : SW X W (.BoolOp .And (a :: b :: rest) pos) (tAnd2 f g) := by
  obtain ⟨_, pa, sa⟩ := ha
  obtain ⟨_, pb, sb⟩ := hb
  refine ⟨_, pw_and pa pb, fun σ H as ρ h Q E QV eR hR hq k kx => ?_⟩
  refine sa σ H as ρ h _ E _ eR hR hq (fun c h1 as1 H1 hq1 l1 r1 => ?_) kx
  cases c with
  | true => exact iteT (sb σ H1 as1 ρ h1 Q E QV (eR.later l1) r1 hq1 (k.later l1) (kx.later l1))
  | false => exact iteF (k _ _ _ _ hq1 l1 r1)
theorem SW.or (ha : ST X W a f) (hb : SW X W (.BoolOp .Or (b :: rest) pos) g) : SW X W (.BoolOp .Or (a :: b :: rest) pos) (tOr2 f g) := by
  obtain ⟨_, pa, sa⟩ := ha
  obtain ⟨_, pb, sb⟩ := hb
  refine ⟨_, pw_or pa pb, fun σ H as ρ h Q E QV eR hR hq k kx => ?_⟩
  refine sa σ H as ρ h _ E _ eR hR hq (fun c h1 as1 H1 hq1 l1 r1 => ?_) kx
  cases c with
  | true => exact iteT (k _ _ _ _ hq1 l1 r1)
  | false => exact iteF (sb σ H1 as1 ρ h1 Q E QV (eR.later l1) r1 hq1 (k.later l1) (kx.later l1))
theorem SW.pt {e : Expr} (hs : SW X W e f) : ST X W e f := let ⟨_, p, s⟩ := hs; ⟨_, p.pt, s⟩
theorem ST.not (ha : ST X W a f) : ST X W (.UnaryOp .Not a pos) (tNot2 f) := by
  obtain ⟨_, pa, sa⟩ := ha
  refine ⟨_, pt_not pa, fun σ H as ρ h Q E QV eR hR hq k kx => ?_⟩
  exact sa σ H as ρ h _ E _ eR hR hq (fun c h1 as1 H1 hq1 l1 r1 => k _ _ _ _ hq1 l1 r1) kx
/-- .. as values: the first ones are True or False -/
def fAnd (fa fb : WE) : WE := fun ρ h Q E => fa ρ h (fun x h1 => match x with
  | .d (.bool true) => fb ρ h1 Q E
  | .d (.bool false) => Q (.d (.bool false)) h1
  | _ => False) E
def fOr (fa fb : WE) : WE := fun ρ h Q E => fa ρ h (fun x h1 => match x with
  | .d (.bool false) => fb ρ h1 Q E
  | .d (.bool true) => Q (.d (.bool true)) h1
  | _ => False) E
def fNot (fa : WE) : WE := fun ρ h Q E => fa ρ h (fun x h1 => match x with
  | .d (.bool b) => Q (.d (.bool (!b))) h1
  | _ => False) E
theorem SE.one {op} (ha : SE X W a fa) : SE X W (.BoolOp op [a] pos) fa := let ⟨_, p, s⟩ := ha; ⟨_, pe_one p, s⟩
theorem SE.and (ha : SE X W a fa) (hb : SE X W (.BoolOp .And (b :: rest) pos) fb) : SE X W (.BoolOp .And (a :: b :: rest) pos) (fAnd fa fb) := by
  obtain ⟨_, pa, sa⟩ := ha
  obtain ⟨_, pb, sb⟩ := hb
  refine ⟨_, pe_and pa pb, fun σ H as ρ h Q E QV eR hR hq k kx => ?_⟩
  refine sa σ H as ρ h _ E _ eR hR hq (fun x h1 v as1 H1 hq1 l1 r1 rv => ?_) kx
  split at hq1
  · cases rv with | d rv =>
    cases rv
    exact ⟨true, rfl, iteT (sb σ H1 as1 ρ h1 Q E QV (eR.later l1) r1 hq1 (k.later l1) (kx.later l1))⟩
  · cases rv with | d rv =>
    cases rv
    exact ⟨false, rfl, iteF ((k.later l1).qd r1 hq1 (.bl _))⟩
  · exact hq1.elim
theorem SE.or (ha : SE X W a fa) (hb : SE X W (.BoolOp .Or (b :: rest) pos) fb) : SE X W (.BoolOp .Or (a :: b :: rest) pos) (fOr fa fb) := by
  obtain ⟨_, pa, sa⟩ := ha
  obtain ⟨_, pb, sb⟩ := hb
  refine ⟨_, pe_or pa pb, fun σ H as ρ h Q E QV eR hR hq k kx => ?_⟩
  refine sa σ H as ρ h _ E _ eR hR hq (fun x h1 v as1 H1 hq1 l1 r1 rv => ?_) kx
  split at hq1
  · cases rv with | d rv =>
    cases rv
    exact ⟨false, rfl, iteF (sb σ H1 as1 ρ h1 Q E QV (eR.later l1) r1 hq1 (k.later l1) (kx.later l1))⟩
  · cases rv with | d rv =>
    cases rv
    exact ⟨true, rfl, iteT ((k.later l1).qd r1 hq1 (.bl _))⟩
  · exact hq1.elim
theorem SE.not (ha : SE X W a fa) : SE X W (.UnaryOp .Not a pos) (fNot fa) := by
  obtain ⟨_, pa, sa⟩ := ha
  refine ⟨_, pe_not pa, fun σ H as ρ h Q E QV eR hR hq k kx => ?_⟩
  refine sa σ H as ρ h _ E _ eR hR hq (fun x h1 v as1 H1 hq1 l1 r1 rv => ?_) kx
  split at hq1
  · cases rv with | d rv =>
    cases rv
    exact ⟨_, rfl, (k.later l1).qd r1 hq1 (.bl _)⟩
  · exact hq1.elim
def fIf (t : WT) (fa fb : WE) : WE := fun ρ h Q E => t ρ h (fun b h1 => if b = true then fa ρ h1 Q E else fb ρ h1 Q E) E
theorem SE.ifExp {c : Expr} {t : WT} (hc : ST X W c t) (ha : SE X W a fa) (hb : SE X W b fb) : SE X W (.IfExp c a b pos) (fIf t fa fb) := by
  obtain ⟨_, pc, sc⟩ := hc
  obtain ⟨_, pa, sa⟩ := ha
  obtain ⟨_, pb, sb⟩ := hb
  refine ⟨_, pe_ifExp pc pa pb, fun σ H as ρ h Q E QV eR hR hq k kx => ?_⟩
  refine sc σ H as ρ h _ E _ eR hR hq (fun c h1 as1 H1 hq1 l1 r1 => ?_) kx
  cases c with
  | true => exact iteT (sa σ H1 as1 ρ h1 Q E QV (eR.later l1) r1 hq1 (k.later l1) (kx.later l1))
  | false => exact iteF (sb σ H1 as1 ρ h1 Q E QV (eR.later l1) r1 hq1 (k.later l1) (kx.later l1))

/-! ### displays -/
variable {es : List Expr} {ga : WA}
/-- a tuple of data -/
def fTup (ga : WA) : WE := fun ρ h Q E => ga ρ h (fun xs h1 => match allD xs with
  | some ps => ps.length ≤ sizeLine ∧ Q (.d (.tuple ps)) h1
  | none => False) E
/-- a list of data that is never changed -/
def fLst (ga : WA) : WE := fun ρ h Q E => ga ρ h (fun xs h1 => match allD xs with
  | some ps => ps.length ≤ sizeLine ∧ Q (.d (.list ps)) h1
  | none => False) E
/-- a list that may be changed -/
def fLoc (ga : WA) : WE := fun ρ h Q E => ga ρ h (fun xs h1 => xs.length ≤ sizeLine ∧ Q (.loc h1.length) (h1 ++ [.lst xs])) E
theorem SE.tup {x1} (ha : SA X W es ga) : SE X W (.Tuple es x1 pos) (fTup ga) := by
  obtain ⟨_, pa, sa⟩ := ha
  refine ⟨_, pe_tup pa, fun σ H as ρ h Q E QV eR hR hq k kx => ?_⟩
  refine sa σ H as ρ h _ E _ eR hR hq (fun xs h1 vs as1 H1 hq1 l1 r1 rv => ?_) kx
  split at hq1
  · rename_i ps e
    have dv := rv.ofAllD e
    exact ⟨by rw [dv.length]; exact hq1.1, fun p hp => (k.later l1).newTup r1 hq1.2 dv hp⟩
  · exact hq1.elim
theorem SE.lst (ha : SA X W es ga) : SE X W (.List es pos) (fLst ga) := by
  obtain ⟨_, pa, sa⟩ := ha
  refine ⟨_, pe_lst pa, fun σ H as ρ h Q E QV eR hR hq k kx => ?_⟩
  refine sa σ H as ρ h _ E _ eR hR hq (fun xs h1 vs as1 H1 hq1 l1 r1 rv => ?_) kx
  split at hq1
  · rename_i ps e
    have dv := rv.ofAllD e
    exact ⟨by rw [dv.length]; exact hq1.1, fun p hp => (k.later l1).newLst r1 hq1.2 dv hp⟩
  · exact hq1.elim
theorem SE.loc (ha : SA X W es ga) : SE X W (.List es pos) (fLoc ga) := by
  obtain ⟨_, pa, sa⟩ := ha
  refine ⟨_, pe_lst pa, fun σ H as ρ h Q E QV eR hR hq k kx => ?_⟩
  refine sa σ H as ρ h _ E _ eR hR hq (fun xs h1 vs as1 H1 hq1 l1 r1 rv => ?_) kx
  exact ⟨by rw [rv.length]; exact hq1.1, fun p hp => (k.later l1).newLoc r1 hq1.2 rv hp⟩

/-! ### subscripts -/
def rIx2 : WR2 := fun x y h Q => match y with
  | .d (.int i) => match items h x with
    | some xs => match atI xs i with
      | some v => Q v h
      | none => False
    | none => False
  | _ => False
theorem RelAll.atI {K : Frag} {as : List Addr} {H : Hp} {vs : List V} {xs : List D} (r : RelAll K as H vs xs) {i : Int} {x : D} (e : L2.atI xs i = some x) : ∃ v, L2.atI vs i = some v ∧ Rel K as H v x := by
  unfold L2.atI at e
  cases q : ixN xs.length i with
  | none => rw [q] at e; cases e
  | some j =>
    rw [q] at e
    obtain ⟨v, e1, e2⟩ := r.get (show xs[j]? = some x from e)
    refine ⟨v, ?_, e2⟩
    unfold L2.atI
    rw [r.length, q]
    exact e1
theorem cp_ix : Cp2 X (fun x y H Q => rIxL X.K x y H Q ∨ rIxT X.K x y H Q) rIx2 := by
  intro x y h Q v w as H QV rx ry hR hq k
  unfold rIx2 at hq
  split at hq
  · rename_i i
    cases ry with | d ry =>
    cases ry
    split at hq
    · rename_i xs e
      split at hq
      · rename_i z ez
        obtain ⟨a, vs, rfl, s, ra⟩ := items_rel rx hR e
        obtain ⟨u, e1, e2⟩ := ra.atI ez
        rcases s with s | s
        · exact .inl ⟨a, vs, i, u, rfl, rfl, s, e1, k.q hR hq e2⟩
        · exact .inr ⟨a, vs, i, u, rfl, rfl, s, e1, k.q hR hq e2⟩
      · exact hq.elim
    · exact hq.elim
  · exact hq.elim
theorem SE.ix (ha : SE X W a fa) (hb : SE X W b fb) (hs : PlainIx b := by exact fun _ _ => rfl) : SE X W (.Subscript a b pos) (fBin rIx2 fa fb) := by
  obtain ⟨ta, pa, sa⟩ := ha
  obtain ⟨tb, pb, sb⟩ := hb
  exact ⟨_, pe_ix (ix_list.or ix_tup) pa pb hs, sp_op cp_ix sa sb⟩

/-! ### slices -/
def SO (X : Cx) (W : WX) (e : Option Expr) (f : En → Ho → (Option Int → Ho → Prop) → XD → Prop) : Prop :=
  ∃ t, PO X e t ∧ ∀ σ H as ρ h Q E (QV : Option Int → Hp → Prop), EnvR X.K as H ρ σ → HeapR X.K as H h → f ρ h Q E →
    (∀ o h' as1 H', Q o h' → Later as H as1 H' → HeapR X.K as1 H' h' → QV o H') → XTo X W as H σ E → t σ H QV
def oNone : En → Ho → (Option Int → Ho → Prop) → XD → Prop := fun _ h Q _ => Q none h
def oSome (f : WE) : En → Ho → (Option Int → Ho → Prop) → XD → Prop := fun ρ h Q E => f ρ h (fun x h1 => match x with
  | .d (.int i) => Q (some i) h1
  | _ => False) E
theorem SO.none : SO X W none oNone := ⟨_, po_none, fun σ H as ρ h Q E QV _ hR hq k _ => k _ _ _ _ hq (Later.refl _ _) hR⟩
theorem SO.some (ha : SE X W a fa) : SO X W (some a) (oSome fa) := by
  obtain ⟨_, pa, sa⟩ := ha
  refine ⟨_, po_some pa, fun σ H as ρ h Q E QV eR hR hq k kx => ?_⟩
  refine sa σ H as ρ h _ E _ eR hR hq (fun x h1 v as1 H1 hq1 l1 r1 rv => ?_) kx
  split at hq1
  · cases rv with | d rv =>
    cases rv
    exact ⟨_, rfl, k _ _ _ _ hq1 l1 r1⟩
  · exact hq1.elim
def cut {α : Type} (xs : List α) (lo hi : Option Int) : List α := (xs.drop (HT.sIx xs.length 0 lo)).take (HT.sIx xs.length xs.length hi - HT.sIx xs.length 0 lo)
theorem DvAll.cut {K : Frag} {as : List Addr} {H : Hp} {vs : List V} {ps : List PyData} (r : DvAll K as H vs ps) (lo hi : Option Int) : DvAll K as H (cutV vs lo hi) (V2.cut ps lo hi) := by
  unfold cutV V2.cut
  rw [r.length]
  exact (r.drop _).take _
def fSl (fa : WE) (lo hi : En → Ho → (Option Int → Ho → Prop) → XD → Prop) : WE := fun ρ h Q E => fa ρ h (fun x h1 => lo ρ h1 (fun l h2 => hi ρ h2 (fun u h3 => match x with
  | .d (.list ps) => Q (.d (.list (cut ps l u))) h3
  | .d (.tuple ps) => Q (.d (.tuple (cut ps l u))) h3
  | _ => False) E) E) E
theorem SE.slice {lo hi : Option Expr} {fl fu} {p2 : Pos} (ha : SE X W a fa) (hl : SO X W lo fl) (hu : SO X W hi fu) : SE X W (.Subscript a (.Slice lo hi Option.none p2) pos) (fSl fa fl fu) := by
  obtain ⟨_, pa, sa⟩ := ha
  obtain ⟨_, pl, sl⟩ := hl
  obtain ⟨_, pu, su⟩ := hu
  refine ⟨_, pe_slice (sl_list.or sl_tupA) pa pl pu, fun σ H as ρ h Q E QV eR hR hq k kx => ?_⟩
  refine sa σ H as ρ h _ E _ eR hR hq (fun x h1 v as1 H1 hq1 l1 r1 rv => ?_) kx
  refine sl σ H1 as1 ρ h1 _ E _ (eR.later l1) r1 hq1 (fun lo h2 as2 H2 hq2 l2 r2 => ?_) (kx.later l1)
  refine su σ H2 as2 ρ h2 _ E _ ((eR.later l1).later l2) r2 hq2 (fun hi h3 as3 H3 hq3 l3 r3 => ?_) ((kx.later l1).later l2)
  have k3 := ((k.later l1).later l2).later l3
  have rv3 := (rv.later l2).later l3
  split at hq3
  · cases rv3 with | d rv3 =>
    cases rv3 with | lst sx ax =>
    exact .inl ⟨_, _, rfl, sx.sq, fun p hp => k3.newLst r3 hq3 (ax.cut _ _) hp⟩
  · cases rv3 with | d rv3 =>
    cases rv3 with | tup sx ax =>
    rename_i ps _ _
    refine .inr ⟨_, _, rfl, sx.sq, fun e => ?_, fun _ p hp => k3.newTup r3 hq3 (ax.cut _ _) hp⟩
    have ee : V2.cut ps lo hi = ps := by
      rw [ax.length] at e
      unfold V2.cut
      rw [e.1, e.2]
      simp
    rw [ee] at hq3
    exact k3.qd r3 hq3 (.tup sx ax)
  · exact hq3.elim
/-- xs[::-1]: a new list; a place, or data -/
def fRevLoc (fa : WE) : WE := fun ρ h Q E => fa ρ h (fun x h1 => match litems h1 x with
  | some xs => Q (.loc h1.length) (h1 ++ [.lst xs.reverse])
  | none => False) E
def fRev (fa : WE) : WE := fun ρ h Q E => fa ρ h (fun x h1 => match x with
  | .d (.list ps) => Q (.d (.list ps.reverse)) h1
  | _ => False) E
theorem SE.revLoc {e : Expr} {k : Nat} {p1 p2 p3 : Pos} (ha : SE X W e fa) : SE X W (.Subscript e (.Slice Option.none Option.none (Option.some (.UnaryOp .USub (.Constant (.int 1) k p1) p2)) p3) pos) (fRevLoc fa) := by
  obtain ⟨_, pa, sa⟩ := ha
  refine ⟨_, pe_revL pa, fun σ H as ρ h Q E QV eR hR hq k kx => ?_⟩
  refine sa σ H as ρ h _ E _ eR hR hq (fun x h1 v as1 H1 hq1 l1 r1 rv => ?_) kx
  split at hq1
  · rename_i xs e
    obtain ⟨a, vs, rfl, s, ra⟩ := litems_rel rv r1 e
    exact ⟨a, vs, rfl, s, fun p hp => (k.later l1).newLoc r1 hq1 ra.reverse hp⟩
  · exact hq1.elim
theorem SE.rev {e : Expr} {k : Nat} {p1 p2 p3 : Pos} (ha : SE X W e fa) : SE X W (.Subscript e (.Slice Option.none Option.none (Option.some (.UnaryOp .USub (.Constant (.int 1) k p1) p2)) p3) pos) (fRev fa) := by
  obtain ⟨_, pa, sa⟩ := ha
  refine ⟨_, pe_revL pa, fun σ H as ρ h Q E QV eR hR hq k kx => ?_⟩
  refine sa σ H as ρ h _ E _ eR hR hq (fun x h1 v as1 H1 hq1 l1 r1 rv => ?_) kx
  split at hq1
  · cases rv with | d rv =>
    cases rv with | lst sx ax =>
    exact ⟨_, _, rfl, sx.sq, fun p hp => (k.later l1).newLst r1 hq1 ax.reverse hp⟩
  · exact hq1.elim
end
end V2
set_option Elab.async false
set_option linter.all false
set_option maxRecDepth 100000
set_option maxHeartbeats 4000000
namespace V2
open PySem PySem.Spec PyProof.Rows L2
open PySem.W (Frag)
mutual
theorem dp_noDict {K : Frag} {H : Hp} : ∀ {p : PyData} {v : V}, Dp K H v p → p.hasDict = false
  | .none, _, _ => by simp [PyData.hasDict]
  | .bool _, _, _ => by simp [PyData.hasDict]
  | .int _, _, _ => by simp [PyData.hasDict]
  | .str _, _, _ => by simp [PyData.hasDict]
  | .list ds, _, h => by
    cases h with
    | lst _ ha => simp only [PyData.hasDict]; exact dpAll_noDict ha
  | .tuple ds, _, h => by
    cases h with
    | tup _ ha => simp only [PyData.hasDict]; exact dpAll_noDict ha
  | .dict _, _, h => by cases h
theorem dpAll_noDict {K : Frag} {H : Hp} : ∀ {ps : List PyData} {vs : List V}, DpAll K H vs ps → PyData.hasDictAll ps = false
  | [], _, _ => by simp [PyData.hasDictAll]
  | d :: ds, _, h => by
    cases h with
    | cons h1 h2 => simp only [PyData.hasDictAll, dp_noDict h1, dpAll_noDict h2, Bool.or_self]
end
section
variable {X : Cx} {W : WX} {a : Expr} {es : List Expr} {ga : WA} {pos p : Pos}
abbrev WR := List D → Ho → KD → Prop
def CpA (X : Cx) (rV : List V → Hp → VK → Prop) (r : WR) : Prop := ∀ xs h Q vs as H QV, RelAll X.K as H vs xs → HeapR X.K as H h → r xs h Q → KTo X as H Q QV → rV vs H QV
def fCall (r : WR) (ga : WA) : WE := fun ρ h Q E => ga ρ h (fun xs h1 => r xs h1 Q) E
theorem sp_call {rV : List V → Hp → VK → Prop} {r : WR} {t : TA} (c : CpA X rV r) (sa : SpA X W t ga) : SpE X W (tCB rV t) (fCall r ga) := by
  intro σ H as ρ h Q E QV eR hR hq k kx
  exact sa σ H as ρ h _ E _ eR hR hq (fun xs h1 vs as1 H1 hq1 l1 r1 rv => c xs h1 Q vs as1 H1 QV rv r1 hq1 (k.later l1)) kx
/-- a built-in function by its name -/
theorem SE.callB {id : String} {x : Str} {rV : List V → Hp → VK → Prop} {r : WR} (hc : CallR X (.builtin id) rV) (c : CpA X rV r) (hg : Gl X x) (hm : X.mg x = none) (hv : bootBuiltins x = some (.builtin id)) (ha : SA X W (a :: es) ga)
    (hn : x ≠ "__name__" := by decide) (hdb : (x == ("__debug__" : Str)) = false := by decide)
    (he : starEach (a :: es) X.env = (false, eval a X.env) :: starEach es X.env := by rfl) (hpl : (backTo pos (starEach es X.env)).any (·.1) = false := by rfl) : SE X W (.Call (.Name x p) (a :: es) [] pos) (fCall r ga) := by
  obtain ⟨_, pa, sa⟩ := ha
  exact ⟨_, pe_callB hc hg hm hv pa hn hdb he hpl, sp_call c sa⟩
theorem SE.callTy {T : String} {x : Str} {rV : List V → Hp → VK → Prop} {r : WR} (hc : CallR X (.type T) rV) (c : CpA X rV r) (hg : Gl X x) (hm : X.mg x = none) (hv : bootBuiltins x = some (.type T)) (ha : SA X W (a :: es) ga)
    (hn : x ≠ "__name__" := by decide) (hdb : (x == ("__debug__" : Str)) = false := by decide)
    (he : starEach (a :: es) X.env = (false, eval a X.env) :: starEach es X.env := by rfl) (hpl : (backTo pos (starEach es X.env)).any (·.1) = false := by rfl) : SE X W (.Call (.Name x p) (a :: es) [] pos) (fCall r ga) := by
  obtain ⟨_, pa, sa⟩ := ha
  exact ⟨_, pe_callTy hc hg hm hv pa hn hdb he hpl, sp_call c sa⟩
/-- a module's name for a built-in function -/
theorem SE.callM {id : String} {x : Str} {rV : List V → Hp → VK → Prop} {r : WR} (hc : CallR X (.builtin id) rV) (c : CpA X rV r) (hg : Gl X x) (hm : X.mg x = some (.builtin id)) (ha : SA X W (a :: es) ga) (hdb : (x == ("__debug__" : Str)) = false := by decide)
    (he : starEach (a :: es) X.env = (false, eval a X.env) :: starEach es X.env := by rfl) (hpl : (backTo pos (starEach es X.env)).any (·.1) = false := by rfl) : SE X W (.Call (.Name x p) (a :: es) [] pos) (fCall r ga) := by
  obtain ⟨_, pa, sa⟩ := ha
  exact ⟨_, pe_callBfun hc hg hm pa hdb he hpl, sp_call c sa⟩

/-! ### the built-in functions -/
def rAbs : WR := fun xs h Q => match xs with
  | [.d (.int i)] => Q (.d (.int (if i < 0 then -i else i))) h
  | _ => False
theorem rel_int {K : Frag} {as : List Addr} {H : Hp} {v : V} {i : Int} (r : Rel K as H v (.d (.int i))) : v = .int i := by
  cases r with | d r => cases r; rfl
theorem rel_bl {K : Frag} {as : List Addr} {H : Hp} {v : V} {i : Bool} (r : Rel K as H v (.d (.bool i))) : v = .bl i := by
  cases r with | d r => cases r; rfl
theorem rel_str {K : Frag} {as : List Addr} {H : Hp} {v : V} {i : Str} (r : Rel K as H v (.d (.str i))) : v = .str i := by
  cases r with | d r => cases r; rfl
theorem rel_non {K : Frag} {as : List Addr} {H : Hp} {v : V} (r : Rel K as H v (.d .none)) : v = .non := by
  cases r with | d r => cases r; rfl
theorem relAll1 {K : Frag} {as : List Addr} {H : Hp} {vs : List V} {x : D} (r : RelAll K as H vs [x]) : ∃ v, vs = [v] ∧ Rel K as H v x := by
  cases r with | cons r t => cases t; exact ⟨_, rfl, r⟩
theorem relAll2 {K : Frag} {as : List Addr} {H : Hp} {vs : List V} {x y : D} (r : RelAll K as H vs [x, y]) : ∃ v w, vs = [v, w] ∧ Rel K as H v x ∧ Rel K as H w y := by
  cases r with | cons r t => cases t with | cons r2 t => cases t; exact ⟨_, _, rfl, r, r2⟩
theorem cp_abs : CpA X (fun xs H Q => ∃ i, xs = [.int i] ∧ Q (.int (if i < 0 then -i else i)) H) rAbs := by
  intro xs h Q vs as H QV rv hR hq k
  unfold rAbs at hq
  split at hq
  · obtain ⟨v, rfl, r⟩ := relAll1 rv
    rw [rel_int r]
    exact ⟨_, rfl, k.qd hR hq (.int _)⟩
  · exact hq.elim
def rInt1 : WR := fun xs h Q => match xs with
  | [.d (.int i)] => Q (.d (.int i)) h
  | [.d (.bool b)] => Q (.d (.int (if b then 1 else 0))) h
  | _ => False
theorem cp_int1 : CpA X (fun xs H Q => (∃ i, xs = [.int i] ∧ Q (.int i) H) ∨ ∃ k, xs = [.bl k] ∧ Q (.int (if k then 1 else 0)) H) rInt1 := by
  intro xs h Q vs as H QV rv hR hq k
  unfold rInt1 at hq
  split at hq
  · obtain ⟨v, rfl, r⟩ := relAll1 rv
    rw [rel_int r]
    exact .inl ⟨_, rfl, k.qd hR hq (.int _)⟩
  · obtain ⟨v, rfl, r⟩ := relAll1 rv
    rw [rel_bl r]
    exact .inr ⟨_, rfl, k.qd hR hq (.int _)⟩
  · exact hq.elim
def rGcd2 : WR := fun xs h Q => match xs with
  | [.d (.int i), .d (.int j)] => Q (.d (.int (Nat.gcd i.natAbs j.natAbs : Nat))) h
  | _ => False
theorem cp_gcd : CpA X rGcd rGcd2 := by
  intro xs h Q vs as H QV rv hR hq k
  unfold rGcd2 at hq
  split at hq
  · obtain ⟨v, w, rfl, r1, r2⟩ := relAll2 rv
    rw [rel_int r1, rel_int r2]
    exact ⟨_, _, rfl, k.qd hR hq (.int _)⟩
  · exact hq.elim
def rLen : WR := fun xs h Q => match xs with
  | [x] => match items h x with
    | some ys => Q (.d (.int ys.length)) h
    | none => False
  | _ => False
theorem cp_len : CpA X (fun xs H Q => ∃ p ys, xs = [.ref p] ∧ (SqL X.K H p ys ∨ SqT X.K H p ys) ∧ Q (.int ys.length) H) rLen := by
  intro xs h Q vs as H QV rv hR hq k
  unfold rLen at hq
  split at hq
  · split at hq
    · rename_i ys e
      obtain ⟨v, rfl, r⟩ := relAll1 rv
      obtain ⟨a, us, rfl, s, ra⟩ := items_rel r hR e
      exact ⟨a, us, rfl, s, by rw [ra.length]; exact k.qd hR hq (.int _)⟩
    · exact hq.elim
  · exact hq.elim
def rMax2 : WR := fun xs h Q => match xs with
  | [.d (.int i), .d (.int j)] => Q (.d (.int (if j > i then j else i))) h
  | _ => False
theorem cp_max2 : CpA X (fun xs H Q => ∃ i j, xs = [.int i, .int j] ∧ Q (.int (if j > i then j else i)) H) rMax2 := by
  intro xs h Q vs as H QV rv hR hq k
  unfold rMax2 at hq
  split at hq
  · obtain ⟨v, w, rfl, r1, r2⟩ := relAll2 rv
    rw [rel_int r1, rel_int r2]
    exact ⟨_, _, rfl, k.qd hR hq (.int _)⟩
  · exact hq.elim
def rMin2 : WR := fun xs h Q => match xs with
  | [.d (.int i), .d (.int j)] => Q (.d (.int (if j < i then j else i))) h
  | _ => False
theorem cp_min2 : CpA X (fun xs H Q => ∃ i j, xs = [.int i, .int j] ∧ Q (.int (if j < i then j else i)) H) rMin2 := by
  intro xs h Q vs as H QV rv hR hq k
  unfold rMin2 at hq
  split at hq
  · obtain ⟨v, w, rfl, r1, r2⟩ := relAll2 rv
    rw [rel_int r1, rel_int r2]
    exact ⟨_, _, rfl, k.qd hR hq (.int _)⟩
  · exact hq.elim
/-- repr of data at any depth -/
def rReprV (K : Frag) : List V → Hp → VK → Prop := fun xs H Q => ∃ v d, xs = [v] ∧ Dp K H v d ∧ d.showable = true ∧ d.depth < 60 ∧ d.shown.length ≤ sizeLine ∧ Q (.str d.shown) H
theorem call_reprD (hg : X.A.guards = some []) (hu : X.A.units + 64 < cLine) : CallR X (.builtin "repr") (rReprV X.K) := by
  intro pins s σ H xs us Q I r h
  obtain ⟨v, d, rfl, hd, hs, hdep, hz, q⟩ := h
  obtain ⟨u, rfl, ru⟩ := vals1 r
  have fin : ∀ tk t, EP X pins σ Q (.str d.shown t) { s with toks := tk } := fun tk t => ⟨.str d.shown, H, I.tok _, ⟨_, rfl⟩, q⟩
  cases hd with
  | non =>
    cases ru
    exact P.repr_of_none (by simp only [PyData.shown] at fin; exact fin _ _)
  | bl b =>
    cases ru
    exact P.repr_of_bool (by simp only [PyData.shown] at fin; cases b <;> exact fin _ _)
  | int i =>
    obtain ⟨t, rfl⟩ := ru
    simp only [PyData.showable, decide_eq_true_eq] at hs
    exact P.repr_of_int hs (by simp only [PyData.shown] at fin; exact fin _ _)
  | str x =>
    obtain ⟨t, rfl⟩ := ru
    simp only [PyData.shown] at hz
    exact P.repr_of_str (by simp only [PyData.shown] at fin; exact fin _ _) hz
  | lst h1 h2 =>
    have hd' : Dp X.K H _ _ := .lst h1 h2
    obtain ⟨as, rd⟩ := Dp.reads I _ _ u hd' ru
    cases ru
    refine repr_of_reads' rd hs (fun e => by rw [dp_noDict hd'] at e; cases e) hg (by omega) (fun _ _ e => e) (fun h' t tk kp => ?_) hz
    exact ⟨.str _, H, I.kept kp, ⟨_, rfl⟩, q⟩
  | tup h1 h2 =>
    have hd' : Dp X.K H _ _ := .tup h1 h2
    obtain ⟨as, rd⟩ := Dp.reads I _ _ u hd' ru
    cases ru
    refine repr_of_reads' rd hs (fun e => by rw [dp_noDict hd'] at e; cases e) hg (by omega) (fun _ _ e => e) (fun h' t tk kp => ?_) hz
    exact ⟨.str _, H, I.kept kp, ⟨_, rfl⟩, q⟩
def rRepr : WR := fun xs h Q => match xs with
  | [x] => match datum h x with
    | some p => p.showable = true ∧ p.depth < 60 ∧ p.shown.length ≤ sizeLine ∧ Q (.d (.str p.shown)) h
    | none => False
  | _ => False
theorem cp_repr : CpA X (rReprV X.K) rRepr := by
  intro xs h Q vs as H QV rv hR hq k
  unfold rRepr at hq
  split at hq
  · split at hq
    · rename_i p e
      obtain ⟨v, rfl, r⟩ := relAll1 rv
      exact ⟨v, p, rfl, datum_dp r hR e, hq.1, hq.2.1, hq.2.2.1, k.qd hR hq.2.2.2 (.str _)⟩
    · exact hq.elim
  · exact hq.elim
/-- sum of ints -/
def intsOf : List D → Option (List Int)
  | [] => some []
  | .d (.int i) :: xs => (intsOf xs).map (i :: ·)
  | _ :: _ => none
theorem intsOf_map : ∀ ns : List Int, intsOf (ns.map fun i => D.d (.int i)) = some ns
  | [] => rfl
  | n :: ns => by simp [intsOf, intsOf_map ns]
theorem intsOf_some : ∀ {xs : List D} {ns : List Int}, intsOf xs = some ns → xs = ns.map fun i => D.d (.int i)
  | [], ns, h => by simp [intsOf] at h; subst h; rfl
  | .d (.int i) :: xs, ns, h => by
    simp only [intsOf, Option.map_eq_some_iff] at h
    obtain ⟨q, h1, rfl⟩ := h
    rw [intsOf_some h1]; rfl
  | .d .none :: _, _, h => by simp [intsOf] at h
  | .d (.bool _) :: _, _, h => by simp [intsOf] at h
  | .d (.str _) :: _, _, h => by simp [intsOf] at h
  | .d (.list _) :: _, _, h => by simp [intsOf] at h
  | .d (.tuple _) :: _, _, h => by simp [intsOf] at h
  | .d (.dict _) :: _, _, h => by simp [intsOf] at h
  | .loc _ :: _, _, h => by simp [intsOf] at h
theorem RelAll.ints {K : Frag} {as : List Addr} {H : Hp} : ∀ {ns : List Int} {vs : List V}, RelAll K as H vs (ns.map fun i => D.d (.int i)) → vs = ns.map V.int
  | [], _, h => by cases h; rfl
  | n :: ns, _, h => by
    cases h with
    | cons h1 h2 => rw [rel_int h1, RelAll.ints h2]; rfl
def rSum : WR := fun xs h Q => match xs with
  | [x] => match litems h x with
    | some ys => match intsOf ys with
      | some ns => Q (.d (.int ns.sum)) h
      | none => False
    | none => False
  | _ => False
theorem cp_sum : CpA X (L2.rSum X.K) rSum := by
  intro xs h Q vs as H QV rv hR hq k
  unfold rSum at hq
  split at hq
  · split at hq
    · split at hq
      · rename_i e _ ns en
        obtain ⟨v, rfl, r⟩ := relAll1 rv
        obtain ⟨a, us, rfl, s, ra⟩ := litems_rel r hR e
        rw [intsOf_some en] at ra
        rw [ra.ints] at s
        exact ⟨a, ns, rfl, s, k.qd hR hq (.int _)⟩
      · exact hq.elim
    · exact hq.elim
  · exact hq.elim
variable {es : List Expr}
theorem SE.abs (hg : Gl X "abs") (hm : X.mg "abs" = none) (ha : SA X W [a] ga) (he : starEach [a] X.env = (false, eval a X.env) :: starEach [] X.env := by rfl) : SE X W (.Call (.Name "abs" p) [a] [] pos) (fCall rAbs ga) := .callB call_abs cp_abs hg hm (by decide +kernel) ha (he := he) (hpl := rfl)
theorem SE.int1 (hg : Gl X "int") (hm : X.mg "int" = none) (ha : SA X W [a] ga) (he : starEach [a] X.env = (false, eval a X.env) :: starEach [] X.env := by rfl) : SE X W (.Call (.Name "int" p) [a] [] pos) (fCall rInt1 ga) := .callTy call_int1 cp_int1 hg hm (by decide +kernel) ha (he := he) (hpl := rfl)
theorem SE.len (hg : Gl X "len") (hm : X.mg "len" = none) (ha : SA X W [a] ga) (he : starEach [a] X.env = (false, eval a X.env) :: starEach [] X.env := by rfl) : SE X W (.Call (.Name "len" p) [a] [] pos) (fCall rLen ga) := .callB call_len_seq cp_len hg hm (by decide +kernel) ha (he := he) (hpl := rfl)
theorem SE.repr (hgu : X.A.guards = some []) (hu : X.A.units + 64 < cLine) (hg : Gl X "repr") (hm : X.mg "repr" = none) (ha : SA X W [a] ga) (he : starEach [a] X.env = (false, eval a X.env) :: starEach [] X.env := by rfl) : SE X W (.Call (.Name "repr" p) [a] [] pos) (fCall rRepr ga) := .callB (call_reprD hgu hu) cp_repr hg hm (by decide +kernel) ha (he := he) (hpl := rfl)
theorem SE.sum (hg : Gl X "sum") (hm : X.mg "sum" = none) (hc : X.calm = true) (ha : SA X W [a] ga) (he : starEach [a] X.env = (false, eval a X.env) :: starEach [] X.env := by rfl) : SE X W (.Call (.Name "sum" p) [a] [] pos) (fCall rSum ga) := .callB (cr_sum hc) cp_sum hg hm (by decide +kernel) ha (he := he) (hpl := rfl)
theorem SE.gcd (hg : Gl X "gcd") (hm : X.mg "gcd" = some (.builtin "math.gcd")) (ha : SA X W (a :: es) ga) (he : starEach (a :: es) X.env = (false, eval a X.env) :: starEach es X.env := by rfl) (hpl : (backTo pos (starEach es X.env)).any (·.1) = false := by rfl) : SE X W (.Call (.Name "gcd" p) (a :: es) [] pos) (fCall rGcd2 ga) := .callM cr_gcd cp_gcd hg hm ha (he := he) (hpl := hpl)

/-! ### methods that change a list of the store -/
variable {o : Expr} {fo : WE} {apos cpos : Pos}
/-- xs.append(e) -/
def fAppend (fo : WE) (ga : WA) : WE := fun ρ h Q E => fo ρ h (fun x h1 => match x with
  | .loc n => match h1[n]? with
    | some (.lst _) => ga ρ h1 (fun ys h2 => match ys, h2[n]? with
      | [y], some (.lst xs) => xs.length < sizeLine ∧ Q (.d .none) (h2.set n (.lst (xs ++ [y])))
      | _, _ => False) E
    | _ => False
  | _ => False) E
theorem KTo.write {as : List Addr} {H : Hp} {h : Ho} {Q : KD} {QV : VK} (k : KTo X as H Q QV) (r : HeapR X.K as H h) {n : Nat} {b : Addr} {vs : List V} {xs : List D} {y : D} {v : V} (hb : as[n]? = some b) (q : Q y (h.set n (.lst xs))) (rv : RelAll X.K as H vs xs)
    (ry : Rel X.K as H v y) : QV v (upd H b (.lst vs)) := by
  have l : Later as H as (upd H b (.lst vs)) := Later.write _ (List.mem_of_getElem? hb)
  exact k _ _ _ _ _ q l (r.write hb rv) (ry.later l)
theorem SE.append {e : Expr} (ho : SE X W o fo) (ha : SA X W [e] ga) (hbase : attributeBase o "append" X.env (eval o X.env) = eval o X.env := by rfl)
    (hfew : ((backTo cpos (starEach [e] X.env)).all (fun x => !x.1) && (backToKw cpos (keywordEach [] X.env)).all (fun x => x.1.isSome)
      && decide ([e].length + ([] : List Keyword).length + (if ([] : List Keyword).isEmpty then 0 else 1) < 30)) = true := by rfl)
    (hline : (apos.endLine == cpos.line) = true := by rfl) (hs : starEach [e] X.env = (false, eval e X.env) :: starEach [] X.env := by rfl) : SE X W (.Call (.Attribute o "append" apos) [e] [] cpos) (fAppend fo ga) := by
  obtain ⟨_, po, so⟩ := ho
  obtain ⟨_, pa, sa⟩ := ha
  refine ⟨_, pe_bm PySem.F.plainAttrs_list PySem.F.slot_list_append PySem.F.type_list_append mt_append po pa hbase hfew hline hs rfl, fun σ H as ρ h Q E QV eR hR hq k kx => ?_⟩
  refine so σ H as ρ h _ E _ eR hR hq (fun x h1 v as1 H1 hq1 l1 r1 rv => ?_) kx
  split at hq1
  · rename_i n
    split at hq1
    · rename_i xs0 e0
      cases rv with | loc hn =>
      obtain ⟨b, hb, vs0, o1, o2⟩ := r1.at e0
      rw [hn] at hb
      cases hb
      refine ⟨.inl ⟨rfl, _, SqL.of o1⟩, ?_⟩
      refine sa σ H1 as1 ρ h1 _ E _ (eR.later l1) r1 hq1 (fun ys h2 us as2 H2 hq2 l2 r2 rvs => ?_) (kx.later l1)
      split at hq2
      · rename_i y xs e2
        obtain ⟨u, rfl, ru⟩ := relAll1 rvs
        obtain ⟨b, hb, vs, o3, o4⟩ := r2.at e2
        rw [l2.at hn] at hb
        cases hb
        refine ⟨_, vs, u, rfl, rfl, o3, by rw [o4.length]; exact hq2.1, ?_⟩
        exact ((k.later l1).later l2).write r2 (l2.at hn) hq2.2 (o4.append (.cons ru .nil)) (.d .non)
      · exact hq2.elim
    · exact hq1.elim
  · exact hq1.elim
/-- xs.pop() -/
def fPop (fo : WE) : WE := fun ρ h Q E => fo ρ h (fun x h1 => match x with
  | .loc n => match h1[n]? with
    | some (.lst xs) => match xs[xs.length - 1]? with
      | some y => Q y (h1.set n (.lst xs.dropLast))
      | none => False
    | _ => False
  | _ => False) E
theorem SE.pop (ho : SE X W o fo) (hbase : attributeBase o "pop" X.env (eval o X.env) = eval o X.env := by rfl) (hline : (apos.endLine == cpos.line) = true := by rfl) : SE X W (.Call (.Attribute o "pop" apos) [] [] cpos) (fPop fo) := by
  obtain ⟨_, po, so⟩ := ho
  refine ⟨_, pe_bm0 PySem.F.plainAttrs_list PySem.F.slot_list_pop PySem.F.type_list_pop mt_pop po hbase hline, fun σ H as ρ h Q E QV eR hR hq k kx => ?_⟩
  refine so σ H as ρ h _ E _ eR hR hq (fun x h1 v as1 H1 hq1 l1 r1 rv => ?_) kx
  split at hq1
  · split at hq1
    · rename_i n _ xs e0
      split at hq1
      · rename_i _ y ey
        cases rv with | loc hn =>
        obtain ⟨b, hb, vs, o1, o2⟩ := r1.at e0
        rw [hn] at hb
        cases hb
        obtain ⟨u, eu, ru⟩ := o2.get ey
        exact ⟨.inl ⟨rfl, _, SqL.of o1⟩, _, vs, u, rfl, rfl, o1, by rw [o2.length]; exact eu, (k.later l1).write r1 hn hq1 o2.dropLast ru⟩
      · exact hq1.elim
    · exact hq1.elim
  · exact hq1.elim

end
end V2
set_option Elab.async false
set_option linter.all false
set_option maxRecDepth 100000
set_option maxHeartbeats 4000000
namespace V2
open PySem PySem.Spec PyProof.Rows L2
open PySem.W (Frag)

/-! ### what is walked -/
/-- the items, and what must stay so of the store while it is walked -/
abbrev WI := En → Ho → (List D → (Ho → Prop) → Ho → Prop) → XD → Prop
/-- the walk J of the items xs, from the state as1 H1 on, while st holds -/
def Walks (K : Frag) (as1 : List Addr) (H1 : Hp) (xs : List D) (st : Ho → Prop) (J : It) : Prop :=
  ∀ i as2 H2 h2, Later as1 H1 as2 H2 → HeapR K as2 H2 h2 → st h2 → (i < xs.length → J.go i H2) ∧ (i = xs.length → J.stop i H2) ∧
    ∀ v H3, J.yld i H2 v H3 → ∀ x, xs[i]? = some x → Later as2 H2 as2 H3 ∧ HeapR K as2 H3 h2 ∧ Rel K as2 H3 v x
def SI (X : Cx) (W : WX) (tg it : Expr) (f : WI) : Prop :=
  ∃ wi : TI, PI X tg it wi ∧ ∀ σ H as ρ h Q E (R : It → Hp → Prop), EnvR X.K as H ρ σ → HeapR X.K as H h → f ρ h Q E →
    (∀ xs st h1 as1 H1 (J : It), Q xs st h1 → st h1 → Later as H as1 H1 → HeapR X.K as1 H1 h1 → Walks X.K as1 H1 xs st J → R J H1) → XTo X W as H σ E → wi σ H R
section
variable {X : Cx} {W : WX} {tg a : Expr} {fa : WE} {ga : WA} {pos p : Pos}
/-- a list or a tuple, data or a place -/
def stay (x : D) (xs : List D) : Ho → Prop := fun h => match x with
  | .loc n => h[n]? = some (.lst xs)
  | _ => True
theorem stay_items {x : D} {xs : List D} {h : Ho} (e : items h x = some xs) : stay x xs h := by
  unfold stay
  split
  · rename_i n
    simp only [items] at e
    split at e
    · rename_i ys en
      cases e
      exact en
    · cases e
  · trivial
theorem items_stay {x : D} {xs : List D} {h h2 : Ho} (e : items h x = some xs) (s : stay x xs h2) : items h2 x = some xs := by
  cases x with
  | d p => cases p <;> exact e
  | loc n =>
    have s' : h2[n]? = some (.lst xs) := s
    simp only [items, s']
def iSeq (fa : WE) : WI := fun ρ h Q E => fa ρ h (fun x h1 => match items h1 x with
  | some xs => Q xs (stay x xs) h1
  | none => False) E
def tSeqI (K : Frag) (tl : TE) : TI := fun σ H R => tl σ H fun x H1 => ∃ b, x = .ref b ∧ (((∃ xs, SqL K H1 b xs) ∧ R (Itl K b) H1) ∨ ((∃ xs, SqT K H1 b xs) ∧ R (Itt K b) H1))
theorem pi_seqI {l : Expr} {tl : TE} (hl : PE X l tl) : PI X tg l (tSeqI X.K tl) := by
  refine ⟨fun pins s σ H R I hw => ?_⟩
  refine thn (hl.run pins s σ H _ I hw) fun v s1 ⟨x, H1, I1, r1, b, eb, q1⟩ => ?_
  subst eb
  cases r1
  rcases q1 with ⟨⟨xs, hq⟩, q⟩ | ⟨⟨xs, hq⟩, q⟩
  · obtain ⟨its, rv, pl, hz⟩ := I1.list hq
    exact wpAny_pyIter_list pl.isList (pi_one (tk := s1.toks) I1 _ (turn_list b _) ⟨_, Heap.get?_push_size _ rfl, rfl, rfl⟩ q)
  · obtain ⟨its, rv, pl, hz⟩ := I1.tuple hq
    exact wpAny_pyIter_tuple (show s1.heap.IsTuple b its.toArray from pl) (pi_one (tk := s1.toks) I1 _ (turn_tuple b _) ⟨_, Heap.get?_push_size _ rfl, rfl, rfl⟩ q)
/-- the vs of a D that has items, at a later state: the same place -/
theorem walks_list {K : Frag} {as1 : List Addr} {H1 : Hp} {h1 : Ho} {x : D} {xs : List D} {b : Addr} (r : Rel K as1 H1 (.ref b) x) (hR : HeapR K as1 H1 h1) (e : items h1 x = some xs) {vs : List V} (s : SqL K H1 b vs)
    (nt : ∀ ps, x ≠ .d (.tuple ps)) : Walks K as1 H1 xs (stay x xs) (Itl K b) := by
  have key : ∀ as2 H2 h2, Later as1 H1 as2 H2 → HeapR K as2 H2 h2 → stay x xs h2 → ∃ us, SqL K H2 b us ∧ RelAll K as2 H2 us xs := by
    intro as2 H2 h2 l r2 st
    cases r with
    | d r =>
      cases r with
      | lst sx ax =>
        simp only [items, Option.some.injEq] at e
        subst e
        exact ⟨_, (sx.later l).sq, (ax.later l).rel⟩
      | tup sx ax => exact absurd rfl (nt _)
    | @loc _ n hb =>
      have st' : h2[n]? = some (O.lst xs) := st
      obtain ⟨c, hc, us, o1, o2⟩ := r2.at st'
      rw [l.at hb] at hc
      cases hc
      exact ⟨us, SqL.of o1, o2⟩
  intro i as2 H2 h2 l r2 st
  obtain ⟨us, q1, q2⟩ := key as2 H2 h2 l r2 st
  refine ⟨fun hi => ⟨us, us[i]'(by rw [q2.length]; exact hi), q1, List.getElem?_eq_getElem _⟩, fun hi => ⟨us, q1, by rw [q2.length]; exact Nat.le_of_eq hi.symm⟩, fun v H3 y z ez => ?_⟩
  obtain ⟨rfl, y⟩ := y
  obtain ⟨u, eu, ru⟩ := q2.get ez
  have := y us q1
  rw [eu] at this
  cases this
  exact ⟨Later.refl _ _, r2, ru⟩
theorem walks_tup {K : Frag} {as1 : List Addr} {H1 : Hp} {b : Addr} {vs : List V} {ps : List PyData} {st : Ho → Prop} (s : TupR K as1 H1 b vs) (al : DvAll K as1 H1 vs ps) : Walks K as1 H1 (ps.map D.d) st (Itt K b) := by
  intro i as2 H2 h2 l r2 _
  have q1 := (s.later l).sq
  have q2 := (al.later l).rel
  refine ⟨fun hi => ⟨vs, vs[i]'(by rw [q2.length]; exact hi), q1, List.getElem?_eq_getElem _⟩, fun hi => ⟨vs, q1, by rw [q2.length]; exact Nat.le_of_eq hi.symm⟩, fun v H3 y z ez => ?_⟩
  obtain ⟨rfl, y⟩ := y
  obtain ⟨u, eu, ru⟩ := q2.get ez
  have := y vs q1
  rw [eu] at this
  cases this
  exact ⟨Later.refl _ _, r2, ru⟩
theorem SI.seq (ha : SE X W a fa) : SI X W tg a (iSeq fa) := by
  obtain ⟨_, pa, sa⟩ := ha
  refine ⟨_, pi_seqI pa, fun σ H as ρ h Q E R eR hR hq k kx => ?_⟩
  refine sa σ H as ρ h _ E _ eR hR hq (fun x h1 v as1 H1 hq1 l1 r1 rv => ?_) kx
  split at hq1
  · rename_i xs e
    have st := stay_items e
    obtain ⟨b, vs, rfl, s, ra⟩ := items_rel rv r1 e
    refine ⟨b, rfl, ?_⟩
    by_cases nt : ∀ ps, x ≠ .d (.tuple ps)
    · have hl : ∃ us, SqL X.K H1 b us := by
        cases rv with
        | d r =>
          cases r with
          | lst sx ax => exact ⟨_, sx.sq⟩
          | tup sx ax => exact absurd rfl (nt _)
        | loc hb =>
          simp only [items] at e
          split at e
          · rename_i ys en
            obtain ⟨c, hc, us, o1, o2⟩ := r1.at en
            rw [hb] at hc
            cases hc
            exact ⟨us, SqL.of o1⟩
          · cases e
      obtain ⟨us, hl⟩ := hl
      exact .inl ⟨⟨us, hl⟩, k xs _ h1 as1 H1 _ hq1 st l1 r1 (walks_list rv r1 e hl nt)⟩
    · have nt' : ∃ ps, x = .d (.tuple ps) := Classical.byContradiction fun z => nt fun ps e => z ⟨ps, e⟩
      obtain ⟨ps, rfl⟩ := nt'
      cases rv with | d r =>
      cases r with | tup sx ax =>
      simp only [items, Option.some.injEq] at e
      subst e
      exact .inr ⟨⟨_, sx.sq⟩, k _ _ h1 as1 H1 _ hq1 st l1 r1 (walks_tup sx ax)⟩
  · exact hq1.elim
/-- range(n), range(a, b) -/
def rangeD (lo : Int) (n : Nat) : List D := (List.range n).map fun i => D.d (.int (lo + (i : Nat)))
theorem walks_range {K : Frag} {as1 : List Addr} {H1 : Hp} {lo : Int} {n : Nat} {st : Ho → Prop} : Walks K as1 H1 (rangeD lo n) st (Itr lo n) := by
  intro i as2 H2 h2 l r2 _
  have hlen : (rangeD lo n).length = n := by simp [rangeD]
  refine ⟨fun hi => by rw [hlen] at hi; exact hi, fun hi => by rw [hlen] at hi; exact Nat.le_of_eq hi.symm, fun v H3 y z ez => ?_⟩
  obtain ⟨rfl, rfl⟩ := y
  refine ⟨Later.refl _ _, r2, ?_⟩
  unfold rangeD at ez
  rw [List.getElem?_map] at ez
  cases q : (List.range n)[i]? with
  | none => rw [q] at ez; cases ez
  | some j =>
    rw [q] at ez
    cases ez
    have : j = i := by
      obtain ⟨h1, h2⟩ := List.getElem?_eq_some_iff.mp q
      simpa using h2.symm
    subst this
    exact .d (.int _)
def iRange1 (ga : WA) : WI := fun ρ h Q E => ga ρ h (fun ys h1 => match ys with
  | [.d (.int j)] => -(2 ^ 62) ≤ j ∧ j < 2 ^ 62 ∧ Q (rangeD 0 j.toNat) (fun _ => True) h1
  | _ => False) E
def iRange2 (ga : WA) : WI := fun ρ h Q E => ga ρ h (fun ys h1 => match ys with
  | [.d (.int i), .d (.int j)] => (-(2 ^ 62) ≤ i ∧ i < 2 ^ 62 ∧ -(2 ^ 62) ≤ j ∧ j < 2 ^ 62) ∧ Q (rangeD i (j - i).toNat) (fun _ => True) h1
  | _ => False) E
theorem SI.range1 (hg : Gl X "range") (hm : X.mg "range" = none) (ha : SA X W [a] ga) (hs : starEach [a] X.env = [(false, eval a X.env)] := by rfl) : SI X W tg (.Call (.Name "range" p) [a] [] pos) (iRange1 ga) := by
  obtain ⟨_, pa, sa⟩ := ha
  refine ⟨_, pi_range1 hg hm pa hs, fun σ H as ρ h Q E R eR hR hq k kx => ?_⟩
  refine sa σ H as ρ h _ E _ eR hR hq (fun ys h1 vs as1 H1 hq1 l1 r1 rv => ?_) kx
  split at hq1
  · obtain ⟨v, rfl, r⟩ := relAll1 rv
    rw [rel_int r]
    exact ⟨_, rfl, hq1.1, hq1.2.1, k _ _ h1 as1 H1 _ hq1.2.2 trivial l1 r1 walks_range⟩
  · exact hq1.elim
theorem SI.range2 {b : Expr} (hg : Gl X "range") (hm : X.mg "range" = none) (ha : SA X W [a, b] ga) (hs : starEach [a, b] X.env = [(false, eval a X.env), (false, eval b X.env)] := by rfl) (hs2 : starEach [b] X.env = [(false, eval b X.env)] := by rfl) :
    SI X W tg (.Call (.Name "range" p) [a, b] [] pos) (iRange2 ga) := by
  obtain ⟨_, pa, sa⟩ := ha
  refine ⟨_, pi_range2 hg hm pa hs hs2, fun σ H as ρ h Q E R eR hR hq k kx => ?_⟩
  refine sa σ H as ρ h _ E _ eR hR hq (fun ys h1 vs as1 H1 hq1 l1 r1 rv => ?_) kx
  split at hq1
  · obtain ⟨v, w, rfl, r, r'⟩ := relAll2 rv
    rw [rel_int r, rel_int r']
    exact ⟨_, _, rfl, hq1.1, k _ _ h1 as1 H1 _ hq1.2 trivial l1 r1 walks_range⟩
  · exact hq1.elim
end

/-! ### targets: names and tuples of names -/
abbrev WG := D → Ho → En → Option En
def SG (X : Cx) (tg : Expr) (g : WG) (sl : List Nat) : Prop :=
  ∃ t, PG X tg t ∧ ∀ (v : V) x σ H as ρ h ρ' (Q : L2.St → Hp → Prop), EnvR X.K as H ρ σ → HeapR X.K as H h → Rel X.K as H v x → g x h ρ = some ρ' →
    (∀ σ', EnvR X.K as H ρ' σ' → (∀ vs : List Nat, (∀ i ∈ sl, i ∈ vs) → L2.wipe σ' vs = L2.wipe σ vs) → Q σ' H) → t v σ H Q
abbrev WGs := List D → Ho → En → Option En
def SGs (X : Cx) (tg : List Expr) (g : WGs) (sl : List Nat) : Prop :=
  ∃ t, PGs X tg t ∧ ∀ (v : List V) x σ H as ρ h ρ' (Q : L2.St → Hp → Prop), EnvR X.K as H ρ σ → HeapR X.K as H h → RelAll X.K as H v x → g x h ρ = some ρ' →
    (∀ σ', EnvR X.K as H ρ' σ' → (∀ vs : List Nat, (∀ i ∈ sl, i ∈ vs) → L2.wipe σ' vs = L2.wipe σ vs) → Q σ' H) → t v σ H Q
theorem wipe_set {σ : L2.St} {i : Nat} {o : Option V} : ∀ {vs : List Nat}, i ∈ vs → L2.wipe (σ.set i o) vs = L2.wipe σ vs
  | v :: vs, hm => by
    unfold L2.wipe
    by_cases hv : i ∈ vs
    · rw [wipe_set hv]
    · have e : v = i := by
        rcases List.mem_cons.mp hm with e | e
        · exact e.symm
        · exact absurd e hv
      subst e
      have key : ∀ (ws : List Nat), v ∉ ws → L2.wipe (σ.set v o) ws = (L2.wipe σ ws).set v o := by
        intro ws
        induction ws with
        | nil => intro _; rfl
        | cons w ws ih =>
          intro hn
          simp only [List.mem_cons, not_or] at hn
          unfold L2.wipe
          rw [ih hn.2, List.set_comm _ _ (fun e => hn.1 e)]
      rw [key vs hv, List.set_set]
def gNm (i : Nat) : WG := fun x _ ρ => some (ρ.set i (some x))
def gsNil : WGs := fun ps _ ρ => match ps with
  | [] => some ρ
  | _ => none
def gsCons (g : WG) (gs : WGs) : WGs := fun ps h ρ => match ps with
  | p :: ps => (g p h ρ).bind fun ρ' => gs ps h ρ'
  | [] => none
def gTp (n : Nat) (gs : WGs) : WG := fun x h ρ => match items h x with
  | some xs => if xs.length = n then gs xs h ρ else none
  | none => none
theorem pg_or {X : Cx} {e : Expr} {t u : TG} (h1 : PG X e t) (h2 : PG X e u) : PG X e (fun v σ H Q => t v σ H Q ∨ u v σ H Q) :=
  ⟨fun pins s σ H v w Q I r hw => hw.elim (fun a => h1.run pins s σ H v w Q I r a) fun a => h2.run pins s σ H v w Q I r a⟩
section
variable {X : Cx} {pos : Pos}
theorem SG.name (i : Nat) {x : Str} (hN : X.N.Nodup) (hi : X.N[i]? = some x) (hx : Loc X.env.scope x) (hf : X.fn x = true ∨ X.env.scope.names.lookup x = some .local := by first | exact .inl rfl | exact .inr rfl | assumption) : SG X (.Name x pos) (gNm i) [i] := by
  refine ⟨_, pg_name hN hi hx hf, fun v x σ H as ρ h ρ' Q eR hR r e k => ?_⟩
  simp only [gNm, Option.some.injEq] at e
  subst e
  exact k _ (eR.set i r) fun vs hv => wipe_set (hv i (by simp))
theorem SGs.nil : SGs X [] gsNil [] := by
  refine ⟨_, pgs_nil, fun v x σ H as ρ h ρ' Q eR hR r e k => ?_⟩
  unfold gsNil at e
  split at e
  · cases e
    cases r
    exact ⟨rfl, k _ eR fun _ _ => rfl⟩
  · cases e
theorem SGs.cons {e : Expr} {es : List Expr} {g : WG} {gs : WGs} {sl sls : List Nat} (h1 : SG X e g sl) (h2 : SGs X es gs sls)
    (hs : (assignEach (e :: es) X.env).map (·.2) = assign e X.env :: (assignEach es X.env).map (·.2) := by rfl) : SGs X (e :: es) (gsCons g gs) (sl ++ sls) := by
  obtain ⟨_, p1, s1⟩ := h1
  obtain ⟨_, p2, s2⟩ := h2
  refine ⟨_, pgs_cons p1 p2 hs, fun v x σ H as ρ h ρ' Q eR hR r e k => ?_⟩
  unfold gsCons at e
  split at e
  · rename_i p ps
    cases r with
    | cons r rs =>
      rw [Option.bind_eq_some_iff] at e
      obtain ⟨ρ1, e1, e2⟩ := e
      refine ⟨_, _, rfl, s1 _ _ σ H as ρ h ρ1 _ eR hR r e1 fun σ1 eR1 w1 => ?_⟩
      refine s2 _ _ σ1 H as ρ1 h ρ' Q eR1 hR rs e2 fun σ2 eR2 w2 => k _ eR2 fun vs hv => ?_
      rw [w2 vs fun i hi => hv i (List.mem_append_right _ hi), w1 vs fun i hi => hv i (List.mem_append_left _ hi)]
  · cases e
theorem SG.tup {es : List Expr} {k n : Nat} {gs : WGs} {sl : List Nat} (hc : X.calm = true) (h : SGs X es gs sl) (hn : (assignEach es X.env).length = n := by rfl) (hst : (assignEach es X.env).findIdx? (·.1) = none := by rfl) : SG X (.Tuple es k pos) (gTp n gs) sl := by
  obtain ⟨_, p, s⟩ := h
  refine ⟨_, pg_or (pg_tup hc p hn hst) (pg_unl hc p hn hst), fun v x σ H as ρ h ρ' Q eR hR r e k => ?_⟩
  unfold gTp at e
  split at e
  · rename_i xs ei
    split at e
    · rename_i hl
      obtain ⟨a, vs, rfl, sq, ra⟩ := items_rel r hR ei
      rcases sq with sq | sq
      · exact .inr ⟨_, _, rfl, sq, by rw [ra.length]; exact hl, s _ _ σ H as ρ h ρ' Q eR hR ra e k⟩
      · exact .inl ⟨_, _, rfl, sq, by rw [ra.length]; exact hl, s _ _ σ H as ρ h ρ' Q eR hR ra e k⟩
    · cases e
  · cases e

/-! ### statements -/
variable {W : WX} {a e c : Expr} {fa fe : WE} {t : WT} {st : Stmt} {rest body orelse : List Stmt} {f g : WS}
def sNext : WS := fun ρ h D => D.nx ρ h
def sSeq (f g : WS) : WS := fun ρ h D => f ρ h { D with nx := fun ρ1 h1 => g ρ1 h1 D }
theorem SB.nil : SB X W [] sNext := ⟨_, pss_nil, fun σ H as ρ h D D' eR hR hq k => k.nx _ _ _ _ _ hq (Later.refl _ _) hR eR⟩
theorem SB.one (h : SS X W st f) : SB X W [st] f := let ⟨_, p, s⟩ := h; ⟨_, pss_one p, s⟩
theorem SB.cons (h : SS X W st f) (h2 : SB X W rest g) : SB X W (st :: rest) (sSeq f g) := by
  obtain ⟨_, p, s⟩ := h
  obtain ⟨_, p2, s2⟩ := h2
  refine ⟨_, pss_cons p p2, fun σ H as ρ h D D' eR hR hq k => ?_⟩
  refine s σ H as ρ h _ _ eR hR hq ⟨fun ρ1 h1 σ1 as1 H1 q l r eR1 => ?_, fun ρ1 h1 σ1 as1 H1 q l r eR1 => k.bk _ _ _ _ _ q l r eR1, fun ρ1 h1 σ1 as1 H1 q l r eR1 => k.ct _ _ _ _ _ q l r eR1, fun y h1 v as1 H1 q l r rv => k.rt _ _ _ _ _ q l r rv,
    fun x ρ1 h1 cls dd σ1 as1 H1 q l r eR1 xr => k.ex _ _ _ _ _ _ _ _ q l r eR1 xr⟩
  exact s2 σ1 H1 as1 ρ1 h1 D D' eR1 r q (k.later l)
def exOf (D : Nx) (ρ : En) : XD := fun x h => D.ex x ρ h
theorem STo.x {as : List Addr} {H : Hp} {D : Nx} {D' : Ends} (k : STo X W as H D D') {ρ : En} {σ : L2.St} (eR : EnvR X.K as H ρ σ) : XTo X W as H σ (exOf D ρ) :=
  fun x h' cls dd as1 H1 q l r xr => k.ex x ρ h' cls dd σ as1 H1 q l r (eR.later l) xr
/-- target = e -/
def sAsg (fe : WE) (g : WG) : WS := fun ρ h D => fe ρ h (fun x h1 => match g x h1 ρ with
  | some ρ1 => D.nx ρ1 h1
  | none => False) (exOf D ρ)
theorem sp_asg {te : TE} {tg : TG} {g : WG} {sl : List Nat} (se : SpE X W te fe)
    (sg : ∀ (v : V) x σ H as ρ h ρ' (Q : L2.St → Hp → Prop), EnvR X.K as H ρ σ → HeapR X.K as H h → Rel X.K as H v x → g x h ρ = some ρ' → (∀ σ', EnvR X.K as H ρ' σ' → (∀ vs : List Nat, (∀ i ∈ sl, i ∈ vs) → L2.wipe σ' vs = L2.wipe σ vs) → Q σ' H) → tg v σ H Q) :
    SpS X W (tAsg te tg) (sAsg fe g) := by
  intro σ H as ρ h D D' eR hR hq k
  refine se σ H as ρ h _ _ _ eR hR hq (fun x h1 v as1 H1 hq1 l1 r1 rv => ?_) (k.x eR)
  split at hq1
  · rename_i ρ1 e1
    exact sg v x σ H1 as1 ρ h1 ρ1 _ (eR.later l1) r1 rv e1 fun σ' eR' _ => k.nx _ _ _ _ _ hq1 l1 r1 eR'
  · exact hq1.elim
theorem SS.set (i : Nat) {x : Str} {pos' : Pos} (hN : X.N.Nodup) (hi : X.N[i]? = some x) (hx : Loc X.env.scope x) (he : SE X W e fe) (hs : swapsWith e (some (.Name x pos')) pos.line X.env = pure false := by rfl) (hf : X.fn x = true ∨ X.env.scope.names.lookup x = some .local := by first | exact .inl rfl | exact .inr rfl | assumption) :
    SS X W (.Assign [.Name x pos'] e pos) (sAsg fe (gNm i)) := by
  obtain ⟨_, p, s⟩ := he
  refine ⟨_, ps_set hN hi hx p hs hf, sp_asg (sl := [i]) s fun v x σ H as ρ h ρ' Q eR hR r e k => ?_⟩
  simp only [gNm, Option.some.injEq] at e
  subst e
  exact k _ (eR.set i r) fun vs hv => wipe_set (hv i (by simp))
theorem SS.asg {tg : Expr} {g : WG} {sl : List Nat} (he : SE X W e fe) (hg : SG X tg g sl) (hs : swapsWithSole [tg] e pos.line X.env = pure false := by rfl) (hw : swappedStores [tg] e X.env = pure none := by rfl)
    (h1 : (assignEach [tg] X.env).map (·.2) = [assign tg X.env] := by rfl) : SS X W (.Assign [tg] e pos) (sAsg fe g) := by
  obtain ⟨_, p, s⟩ := he
  obtain ⟨_, p2, s2⟩ := hg
  exact ⟨_, ps_asg p p2 hs hw h1, sp_asg s s2⟩
/-- a, b = x, y (local names) -/
def sPar (i j : Nat) (ga : WA) : WS := fun ρ h D => ga ρ h (fun xs h1 => match xs with
  | [x, y] => D.nx ((ρ.set i (some x)).set j (some y)) h1
  | _ => False) (exOf D ρ)
theorem SS.par (i j : Nat) {x y : Str} {b : Expr} {ga : WA} {px py pt : Pos} {kt k2 pt2} (hc : X.calm = true) (hN : X.N.Nodup) (hi : X.N[i]? = some x) (hj : X.N[j]? = some y) (hij : i ≠ j)
    (hx : X.env.scope.names.lookup x = some .local) (hy : X.env.scope.names.lookup y = some .local) (ha : SA X W [a, b] ga)
    (hw : swappedStores [.Tuple [.Name x px, .Name y py] kt pt] (.Tuple [a, b] k2 pt2) X.env = pure (some [x, y]))
    (hs : swapsWithSole [.Tuple [.Name x px, .Name y py] kt pt] (.Tuple [a, b] k2 pt2) pos.line X.env = pure false := by rfl) :
    SS X W (.Assign [.Tuple [.Name x px, .Name y py] kt pt] (.Tuple [a, b] k2 pt2) pos) (sPar i j ga) := by
  obtain ⟨_, p, s⟩ := ha
  refine ⟨_, ps_par hc hN hi hj hij hx hy p hw hs, fun σ H as ρ h D D' eR hR hq k => ?_⟩
  refine s σ H as ρ h _ _ _ eR hR hq (fun xs h1 vs as1 H1 hq1 l1 r1 rv => ?_) (k.x eR)
  split at hq1
  · obtain ⟨v, w, rfl, r, r'⟩ := relAll2 rv
    exact ⟨v, w, rfl, k.nx _ _ _ _ _ hq1 l1 r1 (((eR.later l1).set i r).set j r')⟩
  · exact hq1.elim
def sPar3 (i j l : Nat) (ga : WA) : WS := fun ρ h D => ga ρ h (fun xs h1 => match xs with
  | [x, y, z] => D.nx (((ρ.set i (some x)).set j (some y)).set l (some z)) h1
  | _ => False) (exOf D ρ)
/-- o[i] = e, o a list of the store -/
def sSub (fe fo fi : WE) : WS := fun ρ h D => fe ρ h (fun y h1 => fo ρ h1 (fun x h2 => fi ρ h2 (fun z h3 => match x, z with
  | .loc n, .d (.int k) => match h3[n]? with
    | some (.lst xs) => match ixN xs.length k with
      | some j => D.nx ρ (h3.set n (.lst (xs.set j y)))
      | none => False
    | _ => False
  | _, _ => False) (exOf D ρ)) (exOf D ρ)) (exOf D ρ)
theorem STo.kx {as : List Addr} {H : Hp} {D : Nx} {D' : Ends} (k : STo X W as H D D') {ρ : En} {σ : L2.St} (eR : EnvR X.K as H ρ σ) {as1 : List Addr} {H1 : Hp} (l : Later as H as1 H1) : XTo X W as1 H1 σ (exOf D ρ) := (k.later l).x (eR.later l)
theorem SS.sub {o i : Expr} {fo fi : WE} {pos' : Pos} (he : SE X W e fe) (ho : SE X W o fo) (hi : SE X W i fi)
    (ha : ∀ v, assign (.Subscript o i pos') X.env v = (do
      let ov ← holding [v] (eval o X.env)
      let iv ← holding [v, ov] (eval i X.env)
      standAt pos'
      holding [v, ov, iv] (setItem ov iv v)
      release [v, ov, iv] []) := by intro _; rfl) (hs : swapsWithSole [.Subscript o i pos'] e pos.line X.env = pure false := by rfl) (hw : swappedStores [.Subscript o i pos'] e X.env = pure none := by rfl)
    (h1 : (assignEach [.Subscript o i pos'] X.env).map (·.2) = [assign (.Subscript o i pos') X.env] := by rfl) : SS X W (.Assign [.Subscript o i pos'] e pos) (sSub fe fo fi) := by
  obtain ⟨_, pe, se⟩ := he
  obtain ⟨_, po, so⟩ := ho
  obtain ⟨_, pi, si⟩ := hi
  refine ⟨_, ps_asg pe (pg_sub po pi set_list ha) hs hw h1, fun σ H as ρ h D D' eR hR hq k => ?_⟩
  refine se σ H as ρ h _ _ _ eR hR hq (fun y h1 v as1 H1 hq1 l1 r1 rv => ?_) (k.x eR)
  refine so σ H1 as1 ρ h1 _ _ _ (eR.later l1) r1 hq1 (fun x h2 u as2 H2 hq2 l2 r2 ru => ?_) (k.kx eR l1)
  have l12 := l1.trans l2
  refine si σ H2 as2 ρ h2 _ _ _ (eR.later l12) r2 hq2 (fun z h3 w as3 H3 hq3 l3 r3 rw' => ?_) (k.kx eR l12)
  have l13 := l12.trans l3
  split at hq3
  · rename_i n kk
    split at hq3
    · rename_i xs en
      split at hq3
      · rename_i j ej
        have ru3 := ru.later l3
        cases ru3 with | loc hb =>
        rw [rel_int rw']
        obtain ⟨b, hb', vs, o1, o2⟩ := r3.at en
        rw [hb] at hb'
        cases hb'
        have rv3 := (rv.later l2).later l3
        refine ⟨_, vs, kk, j, rfl, rfl, o1, by rw [o2.length]; exact ej, ?_⟩
        have lw : Later as3 H3 as3 (upd H3 _ (.lst (vs.set j v))) := Later.write _ (List.mem_of_getElem? hb)
        exact k.nx _ _ _ _ _ hq3 (l13.trans lw) (r3.write hb (o2.set j rv3)) (eR.later (l13.trans lw))
      · exact hq3.elim
    · exact hq3.elim
  · exact hq3.elim
/-- x op= e, ints -/
def sAug (i : Nat) (r : WR2) (fe : WE) : WS := fun ρ h D => match ρ[i]? with
  | some (some x) => fe ρ h (fun y h1 => r x y h1 (fun z h2 => D.nx (ρ.set i (some z)) h2)) (exOf D ρ)
  | _ => False
theorem SS.aug (i : Nat) {x : Str} {op : Operator} {rV : R2} {r : WR2} {pos' : Pos} (hN : X.N.Nodup) (hi : X.N[i]? = some x) (hx : Loc X.env.scope x) (he : SE X W e fe) (ho : OpR X (inplaceOp op) rV) (cp : Cp2 X rV r) (hf : X.fn x = true ∨ X.env.scope.names.lookup x = some .local := by first | exact .inl rfl | exact .inr rfl | assumption) :
    SS X W (.AugAssign (.Name x pos') op e pos) (sAug i r fe) := by
  obtain ⟨_, p, s⟩ := he
  refine ⟨_, ps_aug hN hi hx p ho hf, fun σ H as ρ h D D' eR hR hq k => ?_⟩
  unfold sAug at hq
  split at hq
  · rename_i x0 e0
    obtain ⟨v, ev, rv⟩ := eR.2 i x0 e0
    refine ⟨v, ev, ?_⟩
    refine s σ H as ρ h _ _ _ eR hR hq (fun y h1 w as1 H1 hq1 l1 r1 rw' => ?_) (k.x eR)
    refine cp x0 y h1 _ v w as1 H1 _ (rv.later l1) rw' r1 hq1 (fun z h2 u as2 H2 hq2 l2 r2 ru => ?_)
    exact k.nx _ _ _ _ _ hq2 (l1.trans l2) r2 ((eR.later (l1.trans l2)).set i ru)
  · exact hq.elim
def sDrop (fe : WE) : WS := fun ρ h D => fe ρ h (fun _ h1 => D.nx ρ h1) (exOf D ρ)
theorem SS.expr (he : SE X W e fe) (hs : swapsWith e none pos.line X.env = pure false := by rfl) : SS X W (.Expr e pos) (sDrop fe) := by
  obtain ⟨_, p, s⟩ := he
  refine ⟨_, ps_expr p hs, fun σ H as ρ h D D' eR hR hq k => ?_⟩
  exact s σ H as ρ h _ _ _ eR hR hq (fun y h1 w as1 H1 hq1 l1 r1 rw' => k.nx _ _ _ _ _ hq1 l1 r1 (eR.later l1)) (k.x eR)
def sRet (fe : WE) : WS := fun ρ h D => fe ρ h D.rt (exOf D ρ)
theorem SS.ret (he : SE X W e fe) : SS X W (.Return (some e) pos) (sRet fe) := by
  obtain ⟨_, p, s⟩ := he
  refine ⟨_, ps_ret p, fun σ H as ρ h D D' eR hR hq k => ?_⟩
  exact s σ H as ρ h _ _ _ eR hR hq (fun y h1 w as1 H1 hq1 l1 r1 rw' => k.rt _ _ _ _ _ hq1 l1 r1 rw') (k.x eR)
def sRetN : WS := fun _ h D => D.rt (.d .none) h
theorem SS.retN : SS X W (.Return none pos) sRetN := ⟨_, ps_retN, fun σ H as ρ h D D' eR hR hq k => k.rt _ _ _ _ _ hq (Later.refl _ _) hR (.d .non)⟩
theorem SS.pass : SS X W (.Pass pos) sNext := ⟨_, ps_pass, fun σ H as ρ h D D' eR hR hq k => k.nx _ _ _ _ _ hq (Later.refl _ _) hR eR⟩
def sBrk : WS := fun ρ h D => D.bk ρ h
def sCnt : WS := fun ρ h D => D.ct ρ h
theorem SS.brk : SS X W (.Break pos) sBrk := ⟨_, ps_break, fun σ H as ρ h D D' eR hR hq k => k.bk _ _ _ _ _ hq (Later.refl _ _) hR eR⟩
theorem SS.cnt : SS X W (.Continue pos) sCnt := ⟨_, ps_continue, fun σ H as ρ h D D' eR hR hq k => k.ct _ _ _ _ _ hq (Later.refl _ _) hR eR⟩
def sIf (t : WT) (f g : WS) : WS := fun ρ h D => t ρ h (fun b h1 => if b = true then f ρ h1 D else g ρ h1 D) (exOf D ρ)
theorem SS.ifS (hc : ST X W c t) (hb : SB X W body f) (ho : SB X W orelse g) : SS X W (.If c body orelse pos) (sIf t f g) := by
  obtain ⟨_, pc, sc⟩ := hc
  obtain ⟨_, pb, sb⟩ := hb
  obtain ⟨_, po, so⟩ := ho
  refine ⟨_, ps_if pc pb po, fun σ H as ρ h D D' eR hR hq k => ?_⟩
  refine sc σ H as ρ h _ _ _ eR hR hq (fun b h1 as1 H1 hq1 l1 r1 => ?_) (k.x eR)
  cases b with
  | true => exact iteT (sb σ H1 as1 ρ h1 D D' (eR.later l1) r1 hq1 (k.later l1))
  | false => exact iteF (so σ H1 as1 ρ h1 D D' (eR.later l1) r1 hq1 (k.later l1))
/-- while -/
def sWhile (t : WT) (f : WS) : WS := fun ρ h D => ∃ I : Nat → En → Ho → Prop, (∃ m, I m ρ h) ∧ ∀ m ρ h, I m ρ h → t ρ h (fun b h1 => if b = true then
    f ρ h1 { D with nx := fun ρ' h' => ∃ m', m' < m ∧ I m' ρ' h', ct := fun ρ' h' => ∃ m', m' < m ∧ I m' ρ' h', bk := D.nx } else D.nx ρ h1) (exOf D ρ)
theorem SS.whileS (hp : PassesOwn (model X.prog X.w) X.A X.env X.xe) (hc : ST X W c t) (hb : SB X W body f) : SS X W (.While c body [] pos) (sWhile t f) := by
  obtain ⟨_, pc, sc⟩ := hc
  obtain ⟨_, pb, sb⟩ := hb
  refine ⟨_, ps_while hp pc pb, fun σ H as ρ h D D' eR hR hq k => ?_⟩
  obtain ⟨I, ⟨m0, i0⟩, turn⟩ := hq
  refine ⟨fun m σ' H' => ∃ as' ρ' h', Later as H as' H' ∧ HeapR X.K as' H' h' ∧ EnvR X.K as' H' ρ' σ' ∧ I m ρ' h', ⟨m0, as, ρ, h, Later.refl _ _, hR, eR, i0⟩, ?_⟩
  rintro m σ1 H1 ⟨as1, ρ1, h1, l1, r1, eR1, i1⟩
  refine sc σ1 H1 as1 ρ1 h1 _ _ _ eR1 r1 (turn m ρ1 h1 i1) (fun b h2 as2 H2 hq2 l2 r2 => ?_) ((k.later l1).x eR1)
  have l12 := l1.trans l2
  cases b with
  | true =>
    refine iteT ⟨fun σ' H' => ∃ m', m' < m ∧ ∃ as' ρ' h', Later as H as' H' ∧ HeapR X.K as' H' h' ∧ EnvR X.K as' H' ρ' σ' ∧ I m' ρ' h', fun _ _ z => z, ?_⟩
    refine sb σ1 H2 as2 ρ1 h2 _ _ (eR1.later l2) r2 hq2 ⟨?_, ?_, ?_, ?_, ?_⟩
    · rintro ρ3 h3 σ3 as3 H3 ⟨m', hm, i3⟩ l3 r3 eR3
      exact ⟨m', hm, as3, ρ3, h3, l12.trans l3, r3, eR3, i3⟩
    · intro ρ3 h3 σ3 as3 H3 q l3 r3 eR3
      exact k.nx _ _ _ _ _ q (l12.trans l3) r3 eR3
    · rintro ρ3 h3 σ3 as3 H3 ⟨m', hm, i3⟩ l3 r3 eR3
      exact ⟨m', hm, as3, ρ3, h3, l12.trans l3, r3, eR3, i3⟩
    · intro y h3 v as3 H3 q l3 r3 rv
      exact k.rt _ _ _ _ _ q (l12.trans l3) r3 rv
    · intro x ρ3 h3 cls dd σ3 as3 H3 q l3 r3 eR3 xr
      exact k.ex _ _ _ _ _ _ _ _ q (l12.trans l3) r3 eR3 xr
  | false => exact iteF (k.nx _ _ _ _ _ hq2 l12 r2 (eR1.later l2))
/-- for -/
def forGo (g : WG) (f : WS) (N : Nx) (st : Ho → Prop) : List D → En → Ho → Prop
  | [], ρ, h => N.nx ρ h
  | x :: xs, ρ, h => match g x h ρ with
    | some ρ1 => f ρ1 h { N with nx := fun ρ2 h2 => st h2 ∧ forGo g f N st xs ρ2 h2, ct := fun ρ2 h2 => st h2 ∧ forGo g f N st xs ρ2 h2, bk := N.nx }
    | none => False
def sFor (wi : WI) (g : WG) (f : WS) : WS := fun ρ h D => wi ρ h (fun xs st h1 => forGo g f D st xs ρ h1) (exOf D ρ)
theorem SS.forS {tg it : Expr} {wi : WI} {g : WG} {sl : List Nat} (hp : PassesOwn (model X.prog X.w) X.A X.env X.xe) (hc : X.calm = true) (hi : SI X W tg it wi) (hg : SG X tg g sl) (hb : SB X W body f)
    (hs : ∀ x, foldedSetIterable it X.env x = pure x := by intro _; rfl) : SS X W (.For tg it body [] pos) (sFor wi g f) := by
  obtain ⟨_, pi, si⟩ := hi
  obtain ⟨_, pg, sg⟩ := hg
  obtain ⟨_, pb, sb⟩ := hb
  refine ⟨_, ps_for hp hc pi pg pb hs, fun σ H as ρ h D D' eR hR hq k => ?_⟩
  refine si σ H as ρ h _ _ _ eR hR hq (fun xs st h1 as1 H1 J hq1 st1 l1 r1 wk => ?_) (k.x eR)
  refine ⟨fun i m σ' H' => m = xs.length - i ∧ i ≤ xs.length ∧ ∃ as' ρ' h', Later as1 H1 as' H' ∧ HeapR X.K as' H' h' ∧ EnvR X.K as' H' ρ' σ' ∧ st h' ∧ forGo g f D st (xs.drop i) ρ' h',
    ⟨xs.length, by simp, Nat.zero_le _, as1, ρ, h1, Later.refl _ _, r1, eR.later l1, st1, hq1⟩, ?_⟩
  rintro i m σ2 H2 ⟨rfl, hi, as2, ρ2, h2, l2, r2, eR2, st2, fg⟩
  obtain ⟨w1, w2, w3⟩ := wk i as2 H2 h2 l2 r2 st2
  have l12 := l1.trans l2
  by_cases hlt : i < xs.length
  · refine .inr ⟨w1 hlt, fun σ' H' => i + 1 ≤ xs.length ∧ ∃ as' ρ' h', Later as1 H1 as' H' ∧ HeapR X.K as' H' h' ∧ EnvR X.K as' H' ρ' σ' ∧ st h' ∧ forGo g f D st (xs.drop (i + 1)) ρ' h',
      fun σ' H' z => ⟨xs.length - (i + 1), by omega, rfl, z.1, z.2⟩, fun v H3 y => ?_⟩
    obtain ⟨l3, r3, rv⟩ := w3 v H3 y xs[i] (List.getElem?_eq_getElem hlt)
    rw [List.drop_eq_getElem_cons hlt] at fg
    unfold forGo at fg
    split at fg
    · rename_i ρ3 e3
      have l23 := l2.trans l3
      have l13 := l12.trans l3
      refine sg v _ σ2 H3 as2 ρ2 h2 ρ3 _ (eR2.later l3) r3 rv e3 fun σ3 eR3 _ => ?_
      refine sb σ3 H3 as2 ρ3 h2 _ _ eR3 r3 fg ⟨?_, ?_, ?_, ?_, ?_⟩
      · rintro ρ4 h4 σ4 as4 H4 ⟨q1, q2⟩ l4 r4 eR4
        exact ⟨hlt, as4, ρ4, h4, l23.trans l4, r4, eR4, q1, q2⟩
      · intro ρ4 h4 σ4 as4 H4 q l4 r4 eR4
        exact k.nx _ _ _ _ _ q (l13.trans l4) r4 eR4
      · rintro ρ4 h4 σ4 as4 H4 ⟨q1, q2⟩ l4 r4 eR4
        exact ⟨hlt, as4, ρ4, h4, l23.trans l4, r4, eR4, q1, q2⟩
      · intro y h4 v as4 H4 q l4 r4 rv
        exact k.rt _ _ _ _ _ q (l13.trans l4) r4 rv
      · intro x ρ4 h4 cls dd σ4 as4 H4 q l4 r4 eR4 xr
        exact k.ex _ _ _ _ _ _ _ _ q (l13.trans l4) r4 eR4 xr
    · exact fg.elim
  · have e : i = xs.length := by omega
    subst e
    rw [List.drop_length] at fg
    unfold forGo at fg
    exact .inl ⟨w2 rfl, k.nx _ _ _ _ _ fg l12 r2 eR2⟩
end
end V2
set_option Elab.async false
set_option linter.all false
set_option maxRecDepth 100000
set_option maxHeartbeats 4000000
namespace V2
open PySem PySem.Spec PyProof.Rows L2
open PySem.W (Frag)

/-! ### defs and their calls -/
abbrev WF := List D → Ho → KD → XD → Prop
/-- the promise over data -/
def spD (K : Frag) (mg : Str → Option Value) (m : Nat) (F : WF) : Sp := fun vs H Q E => ∃ as xs h Q0 E0, vs.length = m ∧ RelAll K as H vs xs ∧ HeapR K as H h ∧ F xs h Q0 E0 ∧
  (∀ y h' v as1 H1, Q0 y h' → Later as H as1 H1 → HeapR K as1 H1 h' → Rel K as1 H1 v y → Q v H1) ∧
  (∀ x h' cls dd as1 H1, E0 x h' → Later as H as1 H1 → HeapR K as1 H1 h' → ExR K mg as1 H1 cls dd x → E cls dd H1)
structure FnG (P : Program) (w : World) (K : Frag) (mg : Str → Option Value) (base : Heap) (k : Nat) (f : Addr) (fd : FuncData) (ps : List Str) (F : WF) : Prop where
  run : ∀ (A : Around) (outer : List Env) (s : Shared) (H : Hp) (args : Args) (us : List Value) (vs : List V) (Q : VK) (E : XK), Room k A → A.guards = some [] → Env0 P w K mg base A outer s H → BindsTo s fd args (ps.zip us) → Vals vs us →
    spD K mg ps.length F vs H Q E → codeAny (model P w) A (.call (.ref f) args) (CR (L2.CX P w) outer P w H s Q E) s
theorem FnG.mono {P : Program} {w : World} {K : Frag} {mg : Str → Option Value} {base : Heap} {j k : Nat} {f : Addr} {fd : FuncData} {ps : List Str} {F : WF} (g : FnG P w K mg base j f fd ps F) (h : j ≤ k) : FnG P w K mg base k f fd ps F :=
  ⟨fun A outer s H args us vs Q E hr => g.run A outer s H args us vs Q E (hr.mono h)⟩
/-- another reading that asks more -/
theorem FnG.imp {P : Program} {w : World} {K : Frag} {mg : Str → Option Value} {base : Heap} {k : Nat} {f : Addr} {fd : FuncData} {ps : List Str} {F G : WF} (g : FnG P w K mg base k f fd ps F) (h : ∀ xs ho Q E, G xs ho Q E → F xs ho Q E) : FnG P w K mg base k f fd ps G :=
  ⟨fun A outer s H args us vs Q E hr hg e0 hb hv ⟨as, xs, ho, Q0, E0, h1, h2, h3, h4, h5, h6⟩ => g.run A outer s H args us vs Q E hr hg e0 hb hv ⟨as, xs, ho, Q0, E0, h1, h2, h3, h _ _ _ _ h4, h5, h6⟩⟩
def bodyN (rt : KD) (E : XD) : Nx := { nx := fun _ h => rt (.d .none) h, rt := rt, bk := fun _ _ => False, ct := fun _ _ => False, ex := fun x _ h => E x h }
/-- a def of n names, m of them parameters -/
def mir (n m : Nat) (f : WS) : WF := fun xs h Q E => xs.length = m ∧ f (xs.map some ++ List.replicate (n - m) none) h (bodyN Q E)
theorem env_start {K : Frag} {as : List Addr} {H : Hp} {N : List Str} {vs : List V} {xs : List D} (r : RelAll K as H vs xs) : EnvR K as H (xs.map some ++ List.replicate (N.length - xs.length) none) (L2.start N vs) := by
  unfold L2.start
  refine ⟨by simp [r.length], fun i x e => ?_⟩
  have hl := r.length
  by_cases hi : i < xs.length
  · rw [List.getElem?_append_left (by simpa using hi), List.getElem?_map] at e
    cases q : xs[i]? with
    | none => rw [q] at e; cases e
    | some y =>
      rw [q] at e
      cases e
      obtain ⟨v, e1, e2⟩ := r.get q
      exact ⟨v, by rw [List.getElem?_append_left (by simpa [hl] using hi), List.getElem?_map, e1]; rfl, e2⟩
  · rw [List.getElem?_append_right (by simpa using hi), List.getElem?_replicate] at e
    split at e <;> cases e
section
variable {P : Program} {w : World} {K : Frag} {mg : Str → Option Value} {base : Heap}
theorem fnG_of {x qual : Str} {st : Stmt} {f : Addr} {fd : FuncData} {N ps : List Str} {k : Nat} {fb : WS} (F : Fun K x qual st f fd) (S : FnScope N ps (defScope st))
    (hb : ∀ (cdv : Value) (A : Around) (outer : List Env) (s : Shared) (H : Hp) (E : XK), Room k (A.deeper (envOfC qual (defScope st) s.heap.objs.size f cdv)) → A.guards = some [] →
      SB (cxOf (L2.CX P w) P w K mg base N qual (defScope st) f cdv A outer s H E) (fun cls d _ H => E cls d H) (defBody st) fb) :
    FnG P w K mg base (k + 1) f fd ps (mir N.length ps.length fb) := by
  obtain ⟨oc, od, kV, doc, pm, an, cdv, ct, osl, rfl, lk, hcd⟩ := F.ex
  refine ⟨fun A outer s H args us vs Q E hr hgu e0 hbind rv hsp => ?_⟩
  obtain ⟨as, xs, ho, Q0, E0, hm, rel, hp, ⟨hxl, hf⟩, kq, kx⟩ := hsp
  have hpar : ∀ y ∈ ps.zip us, (defScope st).names.lookup y.1 = some .local ∨ ((defScope st).names.lookup y.1 = some .cell ∧ ((cellsFrom (s.heap.objs.size + 1) (defScope st).names []).lookup y.1).isSome = true) := by
    intro y hy
    rcases S.par y.1 (List.of_mem_zip hy).1 with q | q
    · exact .inl q
    · exact .inr ⟨q, PySem.W.cellsFrom_some _ _ _ (.inl q)⟩
  have inK := e0.mod.kin.keeps (fun b o e => (e0.bs b o e).1)
  refine codeAny_call_function hr.depth (inK _ _ lk) rfl S.co S.gen rfl (PySem.W.codeRec_of inK hcd) (hbind _ _ _ _ ?_)
  refine wpAny_newFunctionEnv_cells S.kind hpar fun env eenv s1 ic => ?_
  subst eenv
  refine ⟨(e0.mod.nolimit.keeps fun b o e => (e0.bs b o e).1).keeps ic.toInCall.keep, codeAny_func ?_⟩
  obtain ⟨t, pt, spt⟩ := hb cdv A outer s H E (hr.deeper _) hgu
  have J : Inv (cxOf (L2.CX P w) P w K mg base N qual (defScope st) f cdv A outer s H E) [] (L2.start N vs) H s1 := inv_start S hr.hd e0 hm rv ic
  have en := env_start (N := N) rel
  rw [hxl] at en
  refine wpAny_mono (pt.run [] s1 _ H { nx := fun _ H' => Q .non H', rt := Q } J (spt _ H as _ ho _ _ en hp hf ⟨?_, ?_, ?_, ?_, ?_⟩)) (fun fl s' hs => ?_) fun e s' hs => hs
  · intro ρ h' σ as1 H1 q l r _
    exact kq _ _ _ _ _ q l r (.d .non)
  · exact fun _ _ _ _ _ q _ _ _ => q.elim
  · exact fun _ _ _ _ _ q _ _ _ => q.elim
  · exact fun y h' v as1 H1 q l r rr => kq _ _ _ _ _ q l r rr
  · exact fun x ρ h' cls dd σ as1 H1 q l r _ xr => kx _ _ _ _ _ _ q l r xr
  · cases fl with
    | ret u =>
      obtain ⟨v, σ', H', J', rv', q⟩ := hs
      exact ⟨v, H', J'.os, J'.bare, J'.base, J'.hok, rv', q⟩
    | next =>
      obtain ⟨σ', H', J', q⟩ := hs
      exact ⟨.non, H', J'.os, J'.bare, J'.base, J'.hok, rfl, q⟩
    | brk =>
      obtain ⟨_, _, _, q⟩ := hs
      exact False.elim q
    | cont =>
      obtain ⟨_, _, _, q⟩ := hs
      exact False.elim q
end
def fFn (F : WF) (ga : WA) : WE := fun ρ h Q E => ga ρ h (fun xs h1 => F xs h1 Q E) E
section
variable {X : Cx} {W : WX} {k : Nat} {f : Addr} {fd : FuncData} {ps : List Str} {F : WF} {x : Str} {p pos : Pos} {e : Expr} {es : List Expr} {ga : WA}
theorem run_fnG {pins : List (Addr × Obj)} {σ : L2.St} {H : Hp} {s : Shared} {Q : VK} {args : Args} {us : List Value} {vs : List V} (G : FnG X.prog X.w X.K X.mg X.base k f fd ps F) (hr : Room k X.A) (hgu : X.A.guards = some []) (tk : Takes X W)
    (I : Inv X pins σ H s) (hb : BindsTo s fd args (ps.zip us)) (r : Vals vs us) (h : spD X.K X.mg ps.length F vs H Q (fun cls d H' => W cls d σ H')) : wpAny (model X.prog X.w) X.A (call (.ref f) args.pos args.kw) (EP X pins σ Q) X.xe s := by
  refine wpAny_call (codeAny_mono (G.run X.A X.stack s H args us vs Q _ hr hgu I.env0 hb r h) fun r s' hq => ?_)
  cases r with
  | error e => exact passAt tk σ pins H s e s' I hq
  | ok fl =>
    cases fl with
    | ret u => exact I.after hq
    | next => exact hq.elim
    | brk => exact hq.elim
    | cont => exact hq.elim
def tFn (X : Cx) (W : WX) (m : Nat) (F : WF) (t : TA) : TE := fun σ H Q => t σ H fun vs H1 => spD X.K X.mg m F vs H1 Q (fun cls d H' => W cls d σ H')
theorem sp_fn {t : TA} {m : Nat} (hlen : ∀ xs ho Q E, F xs ho Q E → xs.length = m) (sa : SpA X W t ga) : SpE X W (tFn X W m F t) (fFn F ga) := by
  intro σ H as ρ h Q E QV eR hR hq kq kx
  refine sa σ H as ρ h _ E _ eR hR hq (fun xs h1 vs as1 H1 hq1 l1 r1 rv => ?_) kx
  exact ⟨as1, xs, h1, Q, E, by rw [rv.length]; exact hlen _ _ _ _ hq1, rv, r1, hq1, fun y h' v as2 H2 q l r rr => kq.later l1 y h' v as2 H2 q l r rr, fun x h' cls dd as2 H2 q l r xr => kx.later l1 x h' cls dd as2 H2 q l r xr⟩
/-- f(e, ..) -/
theorem SE.call (G : FnG X.prog X.w X.K X.mg X.base k f fd ps F) (hlen : ∀ xs ho Q E, F xs ho Q E → xs.length = ps.length) (hr : Room k X.A) (hgu : X.A.guards = some []) (tk : Takes X W) (hg : Gl X x) (hm : X.mg x = some (.ref f)) (hk : PySem.W.keepIn X.K (.ref f) = true)
    (hb : Binds X.K fd ps []) (ha : SA X W (e :: es) ga) (hdb : (x == ("__debug__" : Str)) = false := by decide) (he : starEach (e :: es) X.env = (false, eval e X.env) :: starEach es X.env := by rfl)
    (hpl : (backTo pos (starEach es X.env)).any (·.1) = false := by rfl) : SE X W (.Call (.Name x p) (e :: es) [] pos) (fFn F ga) := by
  obtain ⟨t, pa, sa⟩ := ha
  refine ⟨tFn X W ps.length F t, ⟨fun pins s σ H Q I hw => ?_⟩, sp_fn hlen sa⟩
  refine wpAny_Call_Name_kw (ld_glob I hg hm ?_ hdb)
  refine PySem.W.callWith_K (h₀ := X.base) I.ok.mod.kin hk (thn (pa.run pos pins s σ H _ I hw) fun us s1 ⟨vs, H1, I1, r, q⟩ => ⟨I1.kIn, ?_⟩) he hpl
  have hl : us.length = ps.length := by
    obtain ⟨as, xs, h, Q0, E0, hm', _⟩ := q
    rw [← r.length, hm']
  have b := hb s1 us I1.kIn (by rw [List.append_nil]; exact hl)
  rw [List.append_nil] at b
  exact run_fnG (args := ⟨us, []⟩) G hr hgu tk I1 b r q
/-- f() -/
theorem SE.call0 (G : FnG X.prog X.w X.K X.mg X.base k f fd [] F) (hlen : ∀ xs ho Q E, F xs ho Q E → xs.length = 0) (hr : Room k X.A) (hgu : X.A.guards = some []) (tk : Takes X W) (hg : Gl X x) (hm : X.mg x = some (.ref f)) (hk : PySem.W.keepIn X.K (.ref f) = true)
    (hb : Binds X.K fd [] []) (hdb : (x == ("__debug__" : Str)) = false := by decide) : SE X W (.Call (.Name x p) [] [] pos) (fFn F aNil) := by
  obtain ⟨t, pa, sa⟩ := (SA.nil : SA X W [] aNil)
  refine ⟨tFn X W 0 F tNil, ⟨fun pins s σ H Q I hw => ?_⟩, sp_fn hlen (fun σ H as ρ h Q E QV eR hR hq k kx => k _ _ _ _ _ hq (Later.refl _ _) hR .nil)⟩
  refine wpAny_Call_Name_kw (ld_glob I hg hm ?_ hdb)
  refine PySem.W.callWith_K0 I.kIn hk ?_
  have b := hb s [] I.kIn rfl
  exact run_fnG (args := ⟨[], []⟩) G hr hgu tk I b .nil hw
/-! keywords -/
def SKw (X : Cx) (W : WX) (kws : List Keyword) (g : WA) : Prop := ∃ t, PK X kws t ∧ SpA X W t g
theorem SKw.nil : SKw X W [] aNil := ⟨_, pk_nil, fun _ _ _ _ _ _ _ _ _ hR hq k _ => k _ _ _ _ _ hq (Later.refl _ _) hR .nil⟩
theorem SKw.cons {nm : Option Str} {kpos : Pos} {fe : WE} {kws : List Keyword} {g : WA} (he : SE X W e fe) (hr : SKw X W kws g) : SKw X W (⟨nm, e, kpos⟩ :: kws) (aCons fe g) := by
  obtain ⟨te, pe, se⟩ := he
  obtain ⟨ta, pa, sa⟩ := hr
  refine ⟨_, pk_cons pe pa, fun σ H as ρ h Q E QV eR hR hq k kx => ?_⟩
  refine se σ H as ρ h _ E _ eR hR hq (fun x h1 v as1 H1 hq1 l1 r1 rv => ?_) kx
  refine sa σ H1 as1 ρ h1 _ E _ (eR.later l1) r1 hq1 (fun xs h2 vs as2 H2 hq2 l2 r2 rvs => ?_) (kx.later l1)
  exact k _ _ _ _ _ hq2 (l1.trans l2) r2 (.cons (rv.later l2) rvs)
/-- a permutation of the keywords into the parameters' order: place i of the parameters is keyword at ix[i] -/
def pick {α : Type} (ix : List Nat) (xs : List α) : List α := ix.filterMap fun i => xs[i]?
theorem RelAll.pick {K : Frag} {as : List Addr} {H : Hp} {vs : List V} {xs : List D} (r : RelAll K as H vs xs) : ∀ ix : List Nat, RelAll K as H (V2.pick ix vs) (V2.pick ix xs)
  | [] => .nil
  | i :: ix => by
    have ih := RelAll.pick r ix
    unfold V2.pick at ih ⊢
    rw [List.filterMap_cons, List.filterMap_cons]
    cases q : xs[i]? with
    | none =>
      have : vs[i]? = none := by
        rw [List.getElem?_eq_none_iff] at q ⊢
        rw [r.length]; exact q
      rw [this]
      exact ih
    | some y =>
      obtain ⟨v, e1, e2⟩ := r.get q
      rw [e1]
      exact .cons e2 ih
theorem vals_pick {vs : List V} {us : List Value} (r : Vals vs us) : ∀ ix : List Nat, Vals (V2.pick ix vs) (V2.pick ix us)
  | [] => .nil
  | i :: ix => by
    have ih := vals_pick r ix
    unfold V2.pick at ih ⊢
    rw [List.filterMap_cons, List.filterMap_cons]
    cases q : vs[i]? with
    | none =>
      have : us[i]? = none := by
        rw [List.getElem?_eq_none_iff] at q ⊢
        rw [← r.length]; exact q
      rw [this]
      exact ih
    | some y =>
      obtain ⟨v, e1, e2⟩ := r.get q
      rw [e1]
      exact .cons e2 ih
/-- how keywords bind: all parameters by keywords ks -/
def KwB (K : Frag) (fd : FuncData) (ps ks : List Str) (ix : List Nat) : Prop := ∀ (s : Shared) (us : List Value), K.In s.heap → us.length = ks.length → BindsTo s fd ⟨[], ks.zip us⟩ (ps.zip (V2.pick ix us))
def fFnK (ix : List Nat) (n : Nat) (F : WF) (ga : WA) : WE := fun ρ h Q E => ga ρ h (fun xs h1 => xs.length = n ∧ F (V2.pick ix xs) h1 Q E) E
/-- f(k = e, ..), all by keywords -/
theorem SE.callK {kws : List Keyword} {g : WA} {ks : List Str} {ix : List Nat} (G : FnG X.prog X.w X.K X.mg X.base k f fd ps F) (hlen : ∀ xs ho Q E, F xs ho Q E → xs.length = ps.length) (hr : Room k X.A) (hgu : X.A.guards = some []) (tk : Takes X W) (hg : Gl X x) (hm : X.mg x = some (.ref f))
    (hk : PySem.W.keepIn X.K (.ref f) = true) (hb : KwB X.K fd ps ks ix) (ha : SKw X W kws g)
    (hall : (backToKw pos (keywordEach kws X.env)).all (·.1.isSome) = true := by rfl) (hks : (backToKw pos (keywordEach kws X.env)).filterMap (·.1) = ks := by rfl)
    (hdb : (x == ("__debug__" : Str)) = false := by decide)
    (hpl : ((backTo pos (starEach [] X.env)).any (·.1) || (backToKw pos (keywordEach kws X.env)).any (·.1.isNone)) = false := by rfl) : SE X W (.Call (.Name x p) [] kws pos) (fFnK ix ks.length F g) := by
  obtain ⟨t, pa, sa⟩ := ha
  refine ⟨fun σ H Q => t σ H fun vs H1 => vs.length = ks.length ∧ spD X.K X.mg ps.length F (V2.pick ix vs) H1 Q (fun cls d H' => W cls d σ H'), ⟨fun pins s σ H Q I hw => ?_⟩, ?_⟩
  · refine wpAny_Call_Name_kw (ld_glob I hg hm ?_ hdb)
    refine PySem.W.callWith_KW0 (h₀ := X.base) I.ok.mod.kin hk hall (thn (pa.run pos pins s σ H _ I hw) fun us s1 ⟨vs, H1, I1, r, hl, q⟩ => ⟨I1.kIn, ?_⟩) hpl
    rw [hks]
    have b := hb s1 us I1.kIn (by rw [← r.length]; exact hl)
    exact run_fnG (args := ⟨[], ks.zip us⟩) G hr hgu tk I1 b (vals_pick r ix) q
  · intro σ H as ρ h Q E QV eR hR hq kq kx
    refine sa σ H as ρ h _ E _ eR hR hq (fun xs h1 vs as1 H1 hq1 l1 r1 rv => ?_) kx
    have rp := rv.pick ix
    refine ⟨by rw [rv.length, hq1.1], as1, _, h1, Q, E, by rw [rp.length]; exact hlen _ _ _ _ hq1.2, rp, r1, hq1.2, fun y h' v as2 H2 q l r rr => kq.later l1 y h' v as2 H2 q l r rr, fun x h' cls dd as2 H2 q l r xr => kx.later l1 x h' cls dd as2 H2 q l r xr⟩
end
theorem mir_len {n m : Nat} {f : WS} : ∀ xs ho Q E, mir n m f xs ho Q E → xs.length = m := fun _ _ _ _ h => h.1
end V2
set_option Elab.async false
set_option linter.all false
set_option maxRecDepth 100000
set_option maxHeartbeats 4000000
namespace V2
open PySem PySem.Spec PyProof.Rows L2
open PySem.W (Frag)

/-! ### the reading over data, as a reading of the layer (the same in every context of one K, mg) -/
def cE (K : Frag) (mg : Str → Option Value) (W : WX) (f : WE) : TE := fun σ H QV => ∃ as ρ h Q E, EnvR K as H ρ σ ∧ HeapR K as H h ∧ f ρ h Q E ∧
  (∀ y h' v as1 H', Q y h' → Later as H as1 H' → HeapR K as1 H' h' → Rel K as1 H' v y → QV v H') ∧ (∀ x h' cls dd as1 H', E x h' → Later as H as1 H' → HeapR K as1 H' h' → ExR K mg as1 H' cls dd x → W cls dd σ H')
theorem SE.c {X : Cx} {W : WX} {e : Expr} {f : WE} (h : SE X W e f) : PE X e (cE X.K X.mg W f) := by
  obtain ⟨t, pt, st⟩ := h
  exact ⟨fun pins s σ H Q I ⟨as, ρ, ho, Q0, E0, h1, h2, h3, h4, h5⟩ => pt.run pins s σ H Q I (st σ H as ρ ho Q0 E0 Q h1 h2 h3 h4 h5)⟩
def cT (K : Frag) (mg : Str → Option Value) (W : WX) (f : WT) : TT := fun σ H QV => ∃ as ρ h Q E, EnvR K as H ρ σ ∧ HeapR K as H h ∧ f ρ h Q E ∧
  (∀ y h' as1 H', Q y h' → Later as H as1 H' → HeapR K as1 H' h' → QV y H') ∧ (∀ x h' cls dd as1 H', E x h' → Later as H as1 H' → HeapR K as1 H' h' → ExR K mg as1 H' cls dd x → W cls dd σ H')
theorem ST.c {X : Cx} {W : WX} {e : Expr} {f : WT} (h : ST X W e f) : PT X e (cT X.K X.mg W f) := by
  obtain ⟨t, pt, st⟩ := h
  exact ⟨fun pins s σ H Q I ⟨as, ρ, ho, Q0, E0, h1, h2, h3, h4, h5⟩ => pt.run pins s σ H Q I (st σ H as ρ ho Q0 E0 Q h1 h2 h3 h4 h5)⟩
def cG (K : Frag) (g : WG) (sl : List Nat) : TG := fun v σ H Q => ∃ as x ρ h ρ', EnvR K as H ρ σ ∧ HeapR K as H h ∧ Rel K as H v x ∧ g x h ρ = some ρ' ∧
    (∀ σ', EnvR K as H ρ' σ' → (∀ vs : List Nat, (∀ i ∈ sl, i ∈ vs) → L2.wipe σ' vs = L2.wipe σ vs) → Q σ' H)
theorem SG.c {X : Cx} {tg : Expr} {g : WG} {sl : List Nat} (h : SG X tg g sl) : PG X tg (cG X.K g sl) := by
  obtain ⟨t, pt, st⟩ := h
  exact ⟨fun pins s σ H v u Q I r ⟨as, x, ρ, ho, ρ', h1, h2, h3, h4, h5⟩ => pt.run pins s σ H v u Q I r (st v x σ H as ρ ho ρ' Q h1 h2 h3 h4 h5)⟩

/-! ### list comprehensions of one clause -/
def noX : XD := fun _ _ => False
/-- nothing leaves -/
def WF0 : WX := fun _ _ _ _ => False
/-- the turns: the items so far stand at place n -/
def lcGo (g : WG) (tt : WT) (te : WE) (st : Ho → Prop) (n : Nat) (ρ : En) (Q : Ho → Prop) : List D → Ho → Prop
  | [], h => Q h
  | x :: xs, h => match g x h ρ with
    | some ρ1 => tt ρ1 h (fun b h1 => if b = true then te ρ1 h1 (fun y h2 => match h2[n]? with
        | some (.lst acc) => acc.length < sizeLine ∧ st (h2.set n (.lst (acc ++ [y]))) ∧ lcGo g tt te st n ρ Q xs (h2.set n (.lst (acc ++ [y])))
        | _ => False) noX else st h1 ∧ lcGo g tt te st n ρ Q xs h1) noX
    | none => False
/-- the new list is a place -/
def fLcL (wi : WI) (g : WG) (tt : WT) (te : WE) (own : List Nat) : WE := fun ρ h Q E => wi ρ h (fun xs st h1 =>
  st (h1 ++ [.lst []]) ∧ lcGo g tt te st h1.length (wipeD ρ own) (fun h2 => Q (.loc h1.length) h2) xs (h1 ++ [.lst []])) E
/-- no place n stands in the store -/
def noRefD (n : Nat) : D → Bool
  | .loc m => m != n
  | _ => true
def noRef (n : Nat) (h : Ho) : Bool := h.all fun o => match o with
  | .lst xs => xs.all (noRefD n)
  | .keys _ => true
/-- the new list is data: the store behind is as long as ahead, and nothing in it leads to the list -/
def fLcV (wi : WI) (g : WG) (tt : WT) (te : WE) (own : List Nat) : WE := fun ρ h Q E => wi ρ h (fun xs st h1 =>
  st (h1 ++ [.lst []]) ∧ lcGo g tt te st h1.length (wipeD ρ own) (fun h2 => ∃ hh acc ps, h2 = hh ++ [.lst acc] ∧ hh.length = h1.length ∧ (hh = h1 ∨ noRef h1.length hh = true) ∧ allD acc = some ps ∧ Q (.d (.list ps)) hh) xs (h1 ++ [.lst []])) E
def tTrue : WT := fun _ h Q _ => Q true h
section
variable {X : Cx} {W : WX} {elt tg it : Expr} {ifs : List Expr} {scope : Scope} {own : List (Str × Nat)} {pos : Pos} {wi : WI} {g : WG} {sl : List Nat} {tt : WT} {te : WE}
def STs (X : Cx) (W : WX) (ifs : List Expr) (f : WT) : Prop := ∃ t, PTs X ifs t ∧ SpT X W t f
theorem STs.nil : STs X W [] tTrue := ⟨_, pts_nil, fun _ _ _ _ _ _ _ _ _ hR hq k _ => k _ _ _ _ hq (Later.refl _ _) hR⟩
theorem STs.one {c : Expr} {f : WT} (h : ST X W c f) : STs X W [c] f := let ⟨_, p, s⟩ := h; ⟨_, pts_one p, s⟩
theorem STs.c {f : WT} (h : STs X W ifs f) : PTs X ifs (cT X.K X.mg W f) := by
  obtain ⟨t, pt, st⟩ := h
  exact ⟨fun pins s σ H Q I ⟨as, ρ, ho, Q0, E0, h1, h2, h3, h4, h5⟩ => pt.run pins s σ H Q I (st σ H as ρ ho Q0 E0 Q h1 h2 h3 h4 h5)⟩
theorem wipe_wipe (σ : L2.St) (vs : List Nat) : L2.wipe (L2.wipe σ vs) vs = L2.wipe σ vs := by
  have key : ∀ (ws us : List Nat), (∀ i ∈ ws, i ∈ us) → ∀ τ, L2.wipe (L2.wipe τ ws) us = L2.wipe τ us := by
    intro ws
    induction ws with
    | nil => intro us _ τ; rfl
    | cons w ws ih =>
      intro us hs τ
      show L2.wipe ((L2.wipe τ ws).set w none) us = _
      rw [wipe_set (hs w (by simp)), ih us (fun i hi => hs i (List.mem_cons_of_mem _ hi))]
  exact key vs vs (fun _ h => h) σ
/-- the walk of the turns, in the layer -/
theorem lc_walk {K : Frag} {mg : Str → Option Value} {as1 : List Addr} {H1 : Hp} {h1 : Ho} {σ : L2.St} {ρ : En} {xs : List D} {st : Ho → Prop} {J : It} {Qf : Ho → Prop} {QV : VK} {ow : List Nat} (hsl : ∀ i ∈ sl, i ∈ ow)
    (r1 : HeapR K as1 H1 h1) (eR : EnvR K as1 H1 ρ σ) (wk : Walks K as1 H1 xs st J) (st1 : st (h1 ++ [.lst []])) (go : lcGo g tt te st h1.length (wipeD ρ ow) Qf xs (h1 ++ [.lst []]))
    (kq : ∀ p as2 H2 h2, H1 p = none → Qf h2 → Later as1 H1 as2 H2 → HeapR K as2 H2 h2 → as2[h1.length]? = some p → QV (.ref p) H2) :
    ∀ p, H1 p = none → ∃ Wm : Nat → Nat → Hp → Prop, (∃ m, Wm 0 m (upd H1 p (.lst []))) ∧ ∀ i m H, Wm i m H →
      (J.stop i H ∧ QV (.ref p) H) ∨ (J.go i H ∧ ∃ Nx : Hp → Prop, (∀ H', Nx H' → ∃ m', m' < m ∧ Wm (i + 1) m' H') ∧ ∀ x H', J.yld i H x H' → cG K g sl x (L2.wipe σ ow) H' fun σ2 H2 => L2.wipe σ2 ow = L2.wipe σ ow ∧ cT K mg WF0 tt σ2 H2 fun b H3 =>
        if b = true then cE K mg WF0 te σ2 H3 fun y H4 => ∃ acc, H4 p = some (.lst acc) ∧ acc.length < sizeLine ∧ Nx (upd H4 p (.lst (acc ++ [y]))) else Nx H3) := by
  intro p hp
  obtain ⟨rp, ep⟩ := r1.place (vs := []) (xs := []) hp .nil
  have lp : Later as1 H1 (as1 ++ [p]) (upd H1 p (.lst [])) := Later.place _ hp
  refine ⟨fun i m H => m = xs.length - i ∧ i ≤ xs.length ∧ ∃ as2 h2, Later as1 H1 as2 H ∧ as2[h1.length]? = some p ∧ HeapR K as2 H h2 ∧ st h2 ∧ lcGo g tt te st h1.length (wipeD ρ ow) Qf (xs.drop i) h2,
    ⟨xs.length, by simp, Nat.zero_le _, _, _, lp, ep, rp, st1, go⟩, ?_⟩
  rintro i m H ⟨rfl, hi, as2, h2, l2, e2, r2, st2, go2⟩
  obtain ⟨w1, w2, w3⟩ := wk i as2 H h2 l2 r2 st2
  by_cases hlt : i < xs.length
  · refine .inr ⟨w1 hlt, fun H' => i + 1 ≤ xs.length ∧ ∃ as3 h3, Later as1 H1 as3 H' ∧ as3[h1.length]? = some p ∧ HeapR K as3 H' h3 ∧ st h3 ∧ lcGo g tt te st h1.length (wipeD ρ ow) Qf (xs.drop (i + 1)) h3,
      fun H' z => ⟨xs.length - (i + 1), by omega, rfl, z.1, z.2⟩, fun v H' y => ?_⟩
    obtain ⟨l3, r3, rv⟩ := w3 v H' y xs[i] (List.getElem?_eq_getElem hlt)
    rw [List.drop_eq_getElem_cons hlt] at go2
    unfold lcGo at go2
    split at go2
    · rename_i ρ1 e1
      have l13 := l2.trans l3
      refine ⟨as2, _, _, h2, ρ1, (eR.later l13).wipe ow, r3, rv, e1, fun σ2 eR2 hw => ⟨?_, ?_⟩⟩
      · rw [hw ow hsl, wipe_wipe]
      · refine ⟨as2, ρ1, h2, _, _, eR2, r3, go2, fun b h3 as3 H3 q3 l4 r4 => ?_, fun _ _ _ _ _ _ z => z.elim⟩
        cases b with
        | false =>
          refine iteF ⟨hlt, as3, h3, l13.trans l4, l4.at e2, r4, ?_⟩
          exact q3
        | true =>
          refine iteT ⟨as3, ρ1, h3, _, _, eR2.later l4, r4, q3, fun y h4 w as4 H4 q4 l5 r5 rw' => ?_, fun _ _ _ _ _ _ z => z.elim⟩
          split at q4
          · rename_i acc ea
            have e4 := l5.at (l4.at e2)
            obtain ⟨b, hb, vs, o1, o2⟩ := r5.at ea
            rw [e4] at hb
            cases hb
            have lw : Later as4 H4 as4 (upd H4 p (.lst (vs ++ [w]))) := Later.write _ (List.mem_of_getElem? e4)
            exact ⟨vs, o1, by rw [o2.length]; exact q4.1, hlt, as4, _, ((l13.trans l4).trans l5).trans lw, e4, r5.write e4 (o2.append (.cons rw' .nil)), q4.2.1, q4.2.2⟩
          · exact q4.elim
    · exact go2.elim
  · have e : i = xs.length := by omega
    subst e
    rw [List.drop_length] at go2
    unfold lcGo at go2
    exact .inl ⟨w2 rfl, kq p as2 H h2 hp go2 l2 r2 e2⟩
variable (hc : X.calm = true) (hN : X.N.Nodup) (hi : SI X W tg it wi) (ok : BlkOk X.N X.env.scope scope own) (hsl : ∀ i ∈ sl, i ∈ own.map (·.2))
    (hg : ∀ (s : Shared) (H : Hp) (C : Addr) (cl : List (Str × Addr)) (fp : List Addr), SG (X.blk s H scope (compEnvC scope cl C X.env) fp) tg g sl)
    (ht : ∀ (s : Shared) (H : Hp) (C : Addr) (cl : List (Str × Addr)) (fp : List Addr), STs (X.blk s H scope (compEnvC scope cl C X.env) fp) WF0 ifs tt)
    (he : ∀ (s : Shared) (H : Hp) (C : Addr) (cl : List (Str × Addr)) (fp : List Addr), SE (X.blk s H scope (compEnvC scope cl C X.env) fp) WF0 elt te)
include hc hN hi ok hsl hg ht he
theorem sp_lc {t : TI} (st' : ∀ σ H as ρ h Q E (R : It → Hp → Prop), EnvR X.K as H ρ σ → HeapR X.K as H h → wi ρ h Q E →
    (∀ xs st h1 as1 H1 (J : It), Q xs st h1 → st h1 → Later as H as1 H1 → HeapR X.K as1 H1 h1 → Walks X.K as1 H1 xs st J → R J H1) → XTo X W as H σ E → t σ H R) :
    SpE X W (tLc t (cG X.K g sl) (cT X.K X.mg WF0 tt) (cE X.K X.mg WF0 te) (own.map (·.2))) (fLcL wi g tt te (own.map (·.2))) ∧
    SpE X W (tLc t (cG X.K g sl) (cT X.K X.mg WF0 tt) (cE X.K X.mg WF0 te) (own.map (·.2))) (fLcV wi g tt te (own.map (·.2))) := by
  constructor
  · intro σ H as ρ h Q E QV eR hR hq k kx
    refine st' σ H as ρ h _ E _ eR hR hq (fun xs st h1 as1 H1 J q1 s1 l1 r1 wk => ?_) kx
    refine lc_walk hsl r1 (eR.later l1) wk q1.1 q1.2 fun p as2 H2 h2 hp q2 l2 r2 e2 => ?_
    exact k _ _ _ _ _ q2 (l1.trans l2) r2 (.loc e2)
  · intro σ H as ρ h Q E QV eR hR hq k kx
    refine st' σ H as ρ h _ E _ eR hR hq (fun xs st h1 as1 H1 J q1 s1 l1 r1 wk => ?_) kx
    refine lc_walk hsl r1 (eR.later l1) wk q1.1 q1.2 fun p as2 H2 h2 hp q2 l2 r2 e2 => ?_
    obtain ⟨hh, acc, ps, rfl, hlen, hno, hps, q⟩ := q2
    -- the last place is taken away
    have hal : as2.length = hh.length + 1 := by rw [r2.len]; simp
    have al1 : as1.length = h1.length := r1.len
    obtain ⟨mo, hmo⟩ := l2.more
    have hmo1 : mo.length = 1 := by
      have := congrArg List.length hmo
      rw [List.length_append] at this
      omega
    obtain ⟨p', rfl⟩ : ∃ p', mo = [p'] := by
      cases mo with
      | nil => simp at hmo1
      | cons a t => cases t with
        | nil => exact ⟨a, rfl⟩
        | cons _ _ => simp at hmo1
    have ep : p' = p := by
      rw [hmo, ← al1] at e2
      simpa using e2
    subst ep
    subst hmo
    have hpn : p' ∉ as1 := fun hm => by
      obtain ⟨u, e⟩ := r1.there hm
      rw [hp] at e
      cases e
    obtain ⟨b, hb, vs, o1, o2⟩ := r2.at (n := hh.length) (o := .lst acc) (by simp)
    have ebp : b = p' := by
      rw [hlen, ← al1] at hb
      simpa using hb.symm
    subst ebp
    have l2' : Later as1 H1 as1 H2 := ⟨⟨[], by simp⟩, fun q o e n => ⟨(l2.keep q o e n).1, n⟩⟩
    have back : Later (as1 ++ [b]) H2 as1 H2 → True := fun _ => trivial
    have dvBack : ∀ {v : V} {d : PyData}, Dv X.K (as1 ++ [b]) H2 v d → Dv X.K as1 H2 v d := by
      have key : ∀ (q : Addr) (o : HO), H2 q = some o → q ∉ as1 ++ [b] → H2 q = some o ∧ q ∉ as1 := fun q o e n => ⟨e, fun m => n (List.mem_append_left _ m)⟩
      intro v d hd
      have tupB : ∀ {a : Addr} {ys : List V}, TupR X.K (as1 ++ [b]) H2 a ys → TupR X.K as1 H2 a ys := fun z => z.elim (fun z => .inl ⟨z.1, fun m => z.2 (List.mem_append_left _ m)⟩) .inr
      have lstB : ∀ {a : Addr} {ys : List V}, LstR X.K (as1 ++ [b]) H2 a ys → LstR X.K as1 H2 a ys := fun z => z.elim (fun z => .inl ⟨z.1, fun m => z.2 (List.mem_append_left _ m)⟩) .inr
      exact Dv.rec (motive_1 := fun v d _ => Dv X.K as1 H2 v d) (motive_2 := fun vs ds _ => DvAll X.K as1 H2 vs ds) .non (fun b => .bl b) (fun i => .int i) (fun x => .str x) (fun s _ ih => .lst (lstB s) ih) (fun s _ ih => .tup (tupB s) ih) .nil (fun _ _ ih1 ih2 => .cons ih1 ih2) hd
    have relBack : ∀ {v : V} {x : D}, Rel X.K (as1 ++ [b]) H2 v x → noRefD h1.length x = true → Rel X.K as1 H2 v x := by
      intro v x rx hn
      cases rx with
      | d rx => exact .d (dvBack rx)
      | @loc a m hm =>
        simp only [noRefD, bne_iff_ne, ne_eq] at hn
        have hlt := (List.getElem?_eq_some_iff.mp hm).1
        simp at hlt
        have : m < as1.length := by omega
        rw [List.getElem?_append_left this] at hm
        exact .loc hm
    have allBack : ∀ {vs : List V} {xs : List D}, RelAll X.K (as1 ++ [b]) H2 vs xs → (∀ x ∈ xs, noRefD h1.length x = true) → RelAll X.K as1 H2 vs xs := by
      intro vs xs ra
      induction ra with
      | nil => intro _; exact .nil
      | cons r t ih => intro hn; exact .cons (relBack r (hn _ (by simp))) (ih fun x hx => hn x (List.mem_cons_of_mem _ hx))
    have hclean : ∀ (i : Nat) (ys : List D), hh[i]? = some (.lst ys) → ∀ x ∈ ys, noRefD h1.length x = true := by
      intro i ys e x hx
      rcases hno with rfl | hno
      · -- the store as it was: each place within is an old one
        obtain ⟨a, ha, us, u1, u2⟩ := r1.at e
        obtain ⟨j, hj, ej⟩ := List.mem_iff_getElem.mp hx
        obtain ⟨v, _, rvx⟩ := u2.get (i := j) (x := x) (by rw [List.getElem?_eq_getElem hj, ej])
        cases rvx with
        | d _ => rfl
        | @loc a m hm =>
          have := (List.getElem?_eq_some_iff.mp hm).1
          simp only [noRefD, bne_iff_ne, ne_eq]
          omega
      · unfold noRef at hno
        rw [List.all_eq_true] at hno
        have := hno _ (List.mem_of_getElem? e)
        simp only [List.all_eq_true] at this
        exact this x hx
    have r2' : HeapR X.K as1 H2 hh := by
      refine ⟨by omega, r1.nd, fun i o a e1 e2 => ?_⟩
      have hi' : i < as1.length := (List.getElem?_eq_some_iff.mp e2).1
      have q2 := r2.ob i o a (by rw [List.getElem?_append_left (by omega)]; exact e1) (by rw [List.getElem?_append_left hi']; exact e2)
      cases o with
      | lst ys =>
        obtain ⟨us, u1, u2⟩ := q2
        exact ⟨us, u1, allBack u2 (hclean i ys e1)⟩
      | keys ks =>
        obtain ⟨h0, xs, u1, u2, u3⟩ := q2
        exact ⟨h0, xs, u1, u2, fun z hz => (u3 z hz).imp (fun t => ⟨t.1, fun hm => t.2 (List.mem_append_left _ hm)⟩) id⟩
    have dv := o2.ofAllD hps
    have dvl : DvAll X.K as1 H2 vs ps := by
      have := DvAll.rec (motive_1 := fun _ _ _ => True) (motive_2 := fun vs ds _ => DvAll X.K as1 H2 vs ds) (K := X.K) (as := as1 ++ [b]) (H := H2) trivial (fun _ => trivial) (fun _ => trivial) (fun _ => trivial) (fun _ _ _ => trivial) (fun _ _ _ => trivial) .nil (fun h1 _ _ ih2 => .cons (dvBack h1) ih2) dv
      exact this
    exact k _ _ _ _ _ q (l1.trans l2') r2' (.d (.lst (.inl ⟨.inl o1, hpn⟩) dvl))
theorem SE.lcL (hs : ∀ x, foldedSetIterable it X.env x = pure x := by intro _; rfl) : SE X W (.ListComp elt [⟨tg, it, ifs, 0⟩] scope pos) (fLcL wi g tt te (own.map (·.2))) := by
  obtain ⟨t, pi, st'⟩ := id hi
  exact ⟨_, pe_lc hc hN pi ok (fun s H C cl fp => (hg s H C cl fp).c) (fun s H C cl fp => (ht s H C cl fp).c) (fun s H C cl fp => (he s H C cl fp).c) hs, (sp_lc hc hN hi ok hsl hg ht he st').1⟩
theorem SE.lcV (hs : ∀ x, foldedSetIterable it X.env x = pure x := by intro _; rfl) : SE X W (.ListComp elt [⟨tg, it, ifs, 0⟩] scope pos) (fLcV wi g tt te (own.map (·.2))) := by
  obtain ⟨t, pi, st'⟩ := id hi
  exact ⟨_, pe_lc hc hN pi ok (fun s H C cl fp => (hg s H C cl fp).c) (fun s H C cl fp => (ht s H C cl fp).c) (fun s H C cl fp => (he s H C cl fp).c) hs, (sp_lc hc hN hi ok hsl hg ht he st').2⟩
/-- name = [..], on one row -/
theorem SS.setLcL {i : Nat} {y : Str} {py spos : Pos} (hy : X.N[i]? = some y) (hyl : X.env.scope.names.lookup y = some .local) (hsw : swapsWith (.ListComp elt [⟨tg, it, ifs, 0⟩] scope pos) (some (.Name y py)) spos.line X.env = pure true)
    (hs : ∀ x, foldedSetIterable it X.env x = pure x := by intro _; rfl) : SS X W (.Assign [.Name y py] (.ListComp elt [⟨tg, it, ifs, 0⟩] scope pos) spos) (sAsg (fLcL wi g tt te (own.map (·.2))) (gNm i)) := by
  obtain ⟨t, pi, st'⟩ := id hi
  refine ⟨_, ps_setLc hc hN hy hyl hsw pi ok (fun s H C cl fp => (hg s H C cl fp).c) (fun s H C cl fp => (ht s H C cl fp).c) (fun s H C cl fp => (he s H C cl fp).c) hs, sp_asg (sl := [i]) (sp_lc hc hN hi ok hsl hg ht he st').1 fun v x σ H as ρ h ρ' Q eR hR r e k => ?_⟩
  simp only [gNm, Option.some.injEq] at e
  subst e
  exact k _ (eR.set i r) fun vs hv => wipe_set (hv i (by simp))
theorem SS.setLcV {i : Nat} {y : Str} {py spos : Pos} (hy : X.N[i]? = some y) (hyl : X.env.scope.names.lookup y = some .local) (hsw : swapsWith (.ListComp elt [⟨tg, it, ifs, 0⟩] scope pos) (some (.Name y py)) spos.line X.env = pure true)
    (hs : ∀ x, foldedSetIterable it X.env x = pure x := by intro _; rfl) : SS X W (.Assign [.Name y py] (.ListComp elt [⟨tg, it, ifs, 0⟩] scope pos) spos) (sAsg (fLcV wi g tt te (own.map (·.2))) (gNm i)) := by
  obtain ⟨t, pi, st'⟩ := id hi
  refine ⟨_, ps_setLc hc hN hy hyl hsw pi ok (fun s H C cl fp => (hg s H C cl fp).c) (fun s H C cl fp => (ht s H C cl fp).c) (fun s H C cl fp => (he s H C cl fp).c) hs, sp_asg (sl := [i]) (sp_lc hc hN hi ok hsl hg ht he st').2 fun v x σ H as ρ h ρ' Q eR hR r e k => ?_⟩
  simp only [gNm, Option.some.injEq] at e
  subst e
  exact k _ (eR.set i r) fun vs hv => wipe_set (hv i (by simp))
end
end V2
set_option Elab.async false
set_option linter.all false
set_option maxRecDepth 100000
set_option maxHeartbeats 4000000
namespace V2
open PySem PySem.Spec PyProof.Rows L2
open PySem.W (Frag)
open PySem.Builtin PySem.Builtin.ObjectAttr

/-! ### own exceptions over Exception -/
/-- own classes, then Exception's chain -/
inductive Refs : List Value → Prop
  | nil : Refs [.type "Exception", .type "BaseException", .type "object"]
  | cons (c : Addr) {r : List Value} : Refs r → Refs (.ref c :: r)
theorem Refs.pass (self : Value) : ∀ {l : List Value}, Refs l → refuseLoop self "__setattr__" l = pure ()
  | _, .nil => F.store_Exception.passes self
  | _, .cons _ r => by rw [refuseLoop_ref]; exact Refs.pass self r
theorem Refs.has (n : String) : ∀ {l : List Value}, Refs l → l.contains (.type n) = ([.type "Exception", .type "BaseException", .type "object"] : List Value).contains (.type n)
  | _, .nil => rfl
  | _, .cons _ r => by rw [List.contains_cons, Refs.has n r]; rfl
theorem Refs.ne : ∀ {l : List Value}, Refs l → l.isEmpty = false
  | _, .nil => rfl
  | _, .cons _ _ => rfl
section
variable {prog : Program} {w : World} {A : Around} {E : Value → Shared → Prop} {R : Result → Shared → Prop} {hp : Heap} {g : Array GenState} {d : Drawn} {t : Nat} {os : OsState}
/-- self.name = v on an exception that has no dict yet -/
theorem refs_osa {K : Frag} {name : Str} {tk : Tok} {v : Value} {x C : Addr} {fv : Array Value} {cd : ClassData} (inK : K.In hp) (ox : hp.get? x = some { cls := .ref C, data := .fields fv }) (ecd : PySem.W.clsIn K C = some cd) (rf : Refs cd.mro)
    (edict : cd.hasDict = true) (noF : PySem.W.findIn K (.ref C) name = some none)
    (fin : ∀ h' tk' dx, (∀ b o, b ≠ x → hp.get? b = some o → h'.get? b = some o) → hp.objs.size ≤ dx → dx ≠ x → h'.get? x = some { cls := .ref C, dict := some dx, data := .fields fv } →
      h'.Ns1 dx (fun y => if y = name then some v else none) → R (.ok (.ret .none)) ⟨h', g, d, tk', os⟩) :
    codeAny (model prog w) A (.call (.builtin "object.__setattr__") ⟨[.ref x, .str name tk, v], []⟩) R ⟨hp, g, d, t, os⟩ := by
  have inst : PySem.W.InstAt hp x { cls := .ref C, data := .fields fv } C none := ⟨ox, rfl, rfl, trivial⟩
  have so := F.store_object
  have isob : cd.mro.contains (.type "object") = true := (rf.has "object").trans (by decide +kernel)
  have apart : x ≠ hp.objs.size := Nat.ne_of_lt (Heap.lt_size ox)
  have lob : PySem.W.Looks (model prog w) hp (isInstance (.ref x) (.type "object")) true := inst.type.andThen (PySem.W.looks_mroIn inK (by unfold PySem.W.mroIn; rw [ecd, Option.bind_some, if_neg (by rw [rf.ne]; decide), isob]))
  refine codeAny_call_builtin so.slot.plain so.entry (@PySem.W.check_slot (model prog w) _ _ ⟨hp, g, d, t, os⟩ "object.__setattr__" "object" "__setattr__" (.ref x) [.str name tk, v] [] _ so.kind so.split lob (so.args (.ref x) (.str name tk) v) ?_)
  have lm : PySem.W.Looks (model prog w) hp (mroOf (.ref C)) cd.mro := (PySem.W.looks_clsIn inK ecd).andThen .now
  have l3 : PySem.W.Looks (model prog w) hp (storeTaker? none) none := .now
  have lcd : PySem.W.Looks (model prog w) hp (classData C) cd := PySem.W.looks_clsIn inK ecd
  rw [PySem.W.osa_eq, refuse_eq]
  refine wpAny_bind (wpAny_bind (inst.type.at (wpAny_bind (lm.at ?_))))
  rw [rf.pass _]
  refine wpAny_pure (wpAny_bind (inst.type.at (wpAny_bind ((PySem.W.looks_findIn inK noF).at (wpAny_bind (l3.at ?_))))))
  show wpAny _ _ (storeInOwnDict (.ref x) (.ref C) (.str name tk) name v false) _ _ _
  obtain ⟨cn, cb, cm, cns, cq, chd, csn, csb, cab, ccol, cdel⟩ := cd
  dsimp only at edict
  subst edict
  unfold storeInOwnDict ownDictForStores
  repeat (first | with_reducible refine HandSPX.store_in_new ?_ ?_ | with_reducible refine wpAny_loadPart_at ox ?_ | with_reducible refine lcd.at ?_ | wp_step)
  · exact ⟨_, #[], _, (Heap.get?_update_ne _ _ _ _ apart.symm).trans (Heap.get?_push_at rfl rfl), rfl, fun e he => absurd he (by simp), fun _ => rfl⟩
  · intro h' tk' hn' hs
    have ox1 : (hp.push { cls := .type "dict", data := .dict #[] }).get? x = some { cls := .ref C, data := .fields fv } := Heap.get?_push_of_some _ ox
    refine fin h' tk' hp.objs.size (fun b o hb ho => ?_) (Nat.le_refl _) apart.symm ?_ hn'
    · exact (hs.2 b (Nat.ne_of_lt (Heap.lt_size ho))).trans ((Heap.get?_update_ne _ _ _ _ hb).trans (Heap.get?_push_of_some _ ho))
    · exact (hs.2 x apart).trans (Heap.get?_update_self _ ox1 rfl)
end
/-- what __init__(self, fld) leaves of a fresh exception at x -/
structure InitBehind (fld : Str) (h h' : Heap) (x C dx t1 : Addr) (v : Value) : Prop where
  keep : ∀ b o, b ≠ x → h.get? b = some o → h'.get? b = some o
  obj : h'.get? x = some { cls := .ref C, dict := some dx, data := .fields #[.ref t1, .none, .none, .none, .bool false, .none] }
  dbig : h.objs.size ≤ dx
  dne : dx ≠ x
  ns : h'.Ns1 dx (fun y => if y = fld then some v else none)
/-- a made exception -/
structure MadeX (fld : Str) (h h' : Heap) (e C d : Addr) (v : Value) : Prop where
  keep : ∀ b o, h.get? b = some o → h'.get? b = some o
  new : h.objs.size ≤ e
  obj : ∃ oe vs, h'.get? e = some oe ∧ oe.cls = .ref C ∧ oe.dict = some d ∧ oe.data = .fields vs ∧ vs[1]? = some .none
  dbig : h.objs.size ≤ d
  dne : d ≠ e
  ns : h'.Ns1 d (fun y => if y = fld then some v else none)
/-- what the written part says of a class -/
structure XCls (K : Frag) (mg : Str → Option Value) (cn : Str) (C : Addr) : Prop where
  gC : mg cn = some (.ref C)
  cls : ∃ nm q N bs bm sn sub ab col dd k0 k1 k2 k3 k5, K.lookup C = some (excClassObj nm q C N bs bm true sn sub ab col dd k0 k1 k2 k3 k5 "Exception.__new__") ∧ Refs bm
  kC : PySem.W.keepIn K (.ref C) = true
  exC : PySem.W.subIn K (.ref C) (.type "BaseException") = some true
  tyC : PySem.W.typeIn K (.ref C) = some (.type "type")
  hdC : PySem.W.hasDictIn K C = true
/-- with an __init__ at fI that stores one field -/
structure XOwn (K : Frag) (mg : Str → Option Value) (cn : Str) (C fI : Addr) (fld : Str) : Prop extends XCls K mg cn C where
  sa : PySem.W.findIn K (.ref C) "__setattr__" = some (some (.builtin "object.__setattr__"))
  noN : PySem.W.findIn K (.ref C) fld = some none
  iC : PySem.W.findIn K (.ref C) "__init__" = some (some (.ref fI))
  tC : PySem.W.typeIn K (.ref fI) = some (.type "function")
  init : ∀ {prog : Program} {w : World} {A : Around} {R : Result → Shared → Prop} {s : Shared} {x t0 : Addr} {v : Value}, K.In s.heap → s.heap.NoLimit → s.heap.get? x = some (HandSPX.excO C t0) → A.depth < recursionLimit →
    (∀ h' tk dx, InitBehind fld s.heap h' x C dx t0 v → R (.ok (.ret .none)) { s with heap := h', toks := tk }) → codeAny (model prog w) A (.call (.ref fI) ⟨[.ref x, v], []⟩) R s
theorem one_fits (v : Value) : [v].length ≤ sizeLine := by
  rw [sizeLine_eq]
  exact (by decide : 1 ≤ 16777216)
section
variable {prog : Program} {w : World} {A : Around} {E : Value → Shared → Prop} {R : Result → Shared → Prop} {s : Shared} {K : Frag} {mg : Str → Option Value} {C fI : Addr} {cn fld : Str}
theorem x_made (T : XOwn K mg cn C fI fld) {v : Value} (inK : K.In s.heap) (hlim : s.heap.NoLimit) (hroom : A.depth + 1 < recursionLimit)
    (hq : ∀ h' tk e d, MadeX fld s.heap h' e C d v → R (.ok (.ret (.ref e))) { s with heap := h', toks := tk }) : codeAny (model prog w) A (.call (.ref C) ⟨[v], []⟩) R s := by
  obtain ⟨nm, q, N, bs, bm, sn, sub, ab, col, dd, k0, k1, k2, k3, k5, hC, hbm⟩ := T.cls
  obtain ⟨hp, gg, dr, tk, os⟩ := s
  have up : ∀ b o, hp.get? b = some o → ((hp.push (PySem.W.kdv_tup [v])).push (HandSPX.excO C hp.objs.size)).get? b = some o := fun b o e => Heap.get?_push_of_some _ (Heap.get?_push_of_some _ e)
  have there : ((hp.push (PySem.W.kdv_tup [v])).push (HandSPX.excO C hp.objs.size)).get? (hp.objs.size + 1) = some (HandSPX.excO C hp.objs.size) := by heap_get
  refine HandSPX.call_own F.excBase_Exception (fun n => hbm.has n) (inK _ _ hC) (PySem.W.looks_findIn inK T.iC) (fun self => PySem.W.bind_fn inK self T.tC) (one_fits v) ?_
  refine T.init (s := ⟨(hp.push (PySem.W.kdv_tup [v])).push (HandSPX.excO C hp.objs.size), gg, dr, tk, os⟩) (inK.keeps up) (hlim.keeps up) there ?_ fun h' tk' dx ⟨k', hx, dn, dne, hns⟩ => ?_
  · show A.depth + 1 < recursionLimit
    exact hroom
  · have old : ∀ b o, hp.get? b = some o → h'.get? b = some o := fun b o e => k' b o (Nat.ne_of_lt (Nat.lt_succ_of_lt (Heap.lt_size e))) (up b o e)
    have z : hp.objs.size + 1 + 1 ≤ dx := by
      have q := dn
      simp only [Heap.size_push] at q
      exact q
    exact ⟨rfl, hq h' tk' (hp.objs.size + 1) dx ⟨old, Nat.le_succ _, ⟨_, _, hx, rfl, rfl, rfl, rfl⟩, (by show hp.objs.size ≤ dx; omega), dne, hns⟩⟩
end
theorem relO_one {v : V} {v' : Value} {fld : Str} (r : RelV v v') (f : Str) : RelO (List.lookup f [(fld, v)]) (if f = fld then some v' else none) := by
  by_cases hw : f = fld
  · subst hw
    rw [if_pos rfl]
    have q : List.lookup f [(f, v)] = some v := by simp [List.lookup]
    rw [q]
    exact r
  · rw [if_neg hw]
    have qw : (f == fld) = false := by simpa using hw
    have q2 : List.lookup f [(fld, v)] = none := by simp [List.lookup, qw]
    rw [q2]
    trivial
section
variable {X : Cx} {W : WX} {C fI : Addr} {cn fld : Str}
def tMkX (C : Addr) (fld : Str) (ta : TA) : L2.St → Hp → XK → Prop := fun σ H Q => ta σ H fun vs H1 => ∃ v, vs = [v] ∧ ∀ d, H1 d = none → Q (.ref C) (some d) (upd H1 d (.xd [(fld, v)]))
theorem pmk_x {a : Expr} {ta : TA} {p pos : Pos} {k : Nat} (T : XOwn X.K X.mg cn C fI fld) (hr : Room k X.A) (ha : PA X [a] ta) (hg : Gl X cn) (hdb : (cn == ("__debug__" : Str)) = false := by decide)
    (he : starEach (a :: []) X.env = (false, eval a X.env) :: starEach [] X.env := by rfl) (hpl : (backTo pos (starEach [] X.env)).any (·.1) = false := by rfl) : PMk X (.Call (.Name cn p) [a] [] pos) (tMkX C fld ta) := by
  intro pins s σ H Q I h
  refine wpAny_Call_Name_kw (ld_glob I hg T.gC ?_ hdb)
  refine PySem.W.callWith_K (h₀ := X.base) I.ok.mod.kin T.kC (thn (ha.run pos pins s σ H _ I h) fun us s1 hh => ?_) he hpl
  obtain ⟨vs, H1, I1, r1, v, ev, q1⟩ := hh
  subst ev
  refine ⟨I1.kIn, ?_⟩
  obtain ⟨u, rfl, rv⟩ := vals1 r1
  show wpAny _ _ (call (.ref C) [u]) _ _ _
  have nol := I1.nolimit
  obtain ⟨hp, g, dr, tk, os⟩ := s1
  refine wpAny_call (x_made T I1.kIn nol (by have := hr.dp; omega) fun h' tk' e d M => ?_)
  show MkP X pins σ Q (.ref e) ⟨h', g, dr, tk', os⟩
  obtain ⟨oe, fv, hoe, hc, hd, hdat, h1⟩ := M.obj
  obtain ⟨G', g1, g2⟩ := restrict h' fun b => decide (b ≠ e)
  have gk : ∀ b, b ≠ e → G'.get? b = h'.get? b := fun b hb => g1 b (decide_eq_true hb)
  have ge : G'.get? e = none := g2 e (by simp)
  have old : ∀ b o, hp.get? b = some o → G'.get? b = some o := fun b o q => (gk b (Nat.ne_of_lt (Nat.lt_of_lt_of_le (Heap.lt_size q) M.new))).trans (M.keep b o q)
  have ob : ObjOk X.prog X.w (upd H1 d (.xd [(fld, v)])) G' d (.xd [(fld, v)]) := ⟨_, M.ns.at (fun o q => (gk d M.dne).trans q), fun f => relO_one rv f⟩
  have J : Inv X pins σ (upd H1 d (.xd [(fld, v)])) ⟨G', g, dr, tk', os⟩ := I1.laid (t' := tk') old M.dbig ob
  refine ⟨e, oe, fv, ⟨G', g, dr, tk', os⟩, _, .ref C, some d, rfl, J, fun b o q => ?_, ge, hoe, ⟨hc, hd⟩, hdat, h1, ?_, rfl, I1.bare, raises_own T.exC T.tyC, q1 d (I1.hok.fresh M.dbig)⟩
  · by_cases hb : b = e
    · have q' : G'.get? b = some o := q
      rw [hb, ge] at q'
      cases q'
    · exact (gk b hb).symm.trans q
  · rw [upd_ne (Ne.symm M.dne)]
    exact I1.hok.fresh M.new
/-- raise C(e) -/
def sRaise (cn fld : Str) (ga : WA) : WS := fun ρ h D => ga ρ h (fun xs h1 => match xs with
  | [y] => D.ex ⟨cn, some (fld, y)⟩ ρ h1
  | _ => False) (exOf D ρ)
theorem SS.raise {a : Expr} {ga : WA} {p pos pos2 : Pos} {k : Nat} (hc : X.calm = true) (T : XOwn X.K X.mg cn C fI fld) (hr : Room k X.A) (tk : Takes X W) (ha : SA X W [a] ga) (hg : Gl X cn) (hdb : (cn == ("__debug__" : Str)) = false := by decide)
    (he : starEach (a :: []) X.env = (false, eval a X.env) :: starEach [] X.env := by rfl) (hpl : (backTo pos (starEach [] X.env)).any (·.1) = false := by rfl) :
    SS X W (.Raise (some (.Call (.Name cn p) [a] [] pos)) none pos2) (sRaise cn fld ga) := by
  obtain ⟨ta, pa, sa⟩ := ha
  refine ⟨_, ps_raise hc tk (pmk_x T hr pa hg hdb he hpl), fun σ H as ρ h D D' eR hR hq k => ?_⟩
  refine sa σ H as ρ h _ _ _ eR hR hq (fun xs h1 vs as1 H1 hq1 l1 r1 rv => ?_) (k.x eR)
  split at hq1
  · obtain ⟨v, rfl, r⟩ := relAll1 rv
    refine ⟨v, rfl, fun d hd => ?_⟩
    have l2 : Later as1 H1 as1 (upd H1 d (.xd [(fld, v)])) := Later.new _ hd
    have hda : d ∉ as1 := fun hm => by
      obtain ⟨u, e⟩ := r1.there hm
      rw [hd] at e
      cases e
    exact k.ex _ _ _ _ _ _ _ _ hq1 (l1.trans l2) (r1.new _ hd) (eR.later (l1.trans l2)) ⟨C, T.gC, rfl, d, v, rfl, hda, upd_same, r.later l2⟩
  · exact hq1.elim
end
/-! ### def __init__(self, fld): self.fld = fld -/
namespace XI
def iA (fld : Str) (p1 p2 : Pos) : Arguments := { posonlyargs := [], args := [{ arg := "self", annotation := none, pos := p1 }, { arg := fld, annotation := none, pos := p2 }], vararg := none, kwonlyargs := [], kw_defaults := [], kwarg := none, defaults := [] }
def iB (fld : Str) (q1 q2 q3 q4 : Pos) : List Stmt := [.Assign [.Attribute (.Name "self" q1) fld q2] (.Name fld q3) q4]
def iS (fld : Str) : Scope := { kind := .function, names := [(PySem.Str.ofString "self", .local), (fld, .local)], isGenerator := false, isCoroutine := false, more := [] }
end XI
def XInit (K : Frag) (fI : Addr) (fld qn : Str) : Prop := ∃ (oc : Value) (od : Option Addr) (doc pm : Value) (an : Option Addr) (cdv ct : Value) (osl : Array (Option Value)) (p1 p2 q1 q2 q3 q4 : Pos),
  K.lookup fI = some ⟨oc, od, .func (PySem.W.fnOf "__init__" qn (XI.iA fld p1 p2) (XI.iB fld q1 q2 q3 q4) (XI.iS fld) .none .none doc pm an cdv ct), osl⟩ ∧ PySem.W.codeIn K cdv qn = true
def XBind (fld : Str) : Prop := ∀ (qn : Str) (p1 p2 q1 q2 q3 q4 : Pos) (doc pm : Value) (an : Option Addr) (cdv ct a b : Value),
  bindArgs (PySem.W.fnOf "__init__" qn (XI.iA fld p1 p2) (XI.iB fld q1 q2 q3 q4) (XI.iS fld) .none .none doc pm an cdv ct) ⟨[a, b], []⟩ = pure ([(("self" : Str), a), (fld, b)] : List (Str × Value))
theorem xbind_at : XBind "at" := fun _ _ _ _ _ _ _ _ _ _ _ _ _ _ => by first | rfl | with_unfolding_all rfl
theorem xbind_word : XBind "word" := fun _ _ _ _ _ _ _ _ _ _ _ _ _ _ => by first | rfl | with_unfolding_all rfl
theorem xbind_name : XBind "name" := fun _ _ _ _ _ _ _ _ _ _ _ _ _ _ => by first | rfl | with_unfolding_all rfl
theorem read_local {M : Model} {s : Shared} {name : Str} {scope : Scope} {L a : Addr} {cd : Value} {m : Str → Option Value} {x : Str} {pos : Pos} {v : Value} {Q : Value → Shared → Prop} {A : Around} {E : Value → Shared → Prop} (hn : s.heap.Ns L m) (hv : m x = some v) (h : Q v s)
    (hk : scope.kind = .function) (hl : (envOfC name scope L a cd).kindOf x = some .local) (hd : (x == ("__debug__" : Str)) = false) : wpAny M A (eval (.Name x pos) (envOfC name scope L a cd)) Q E s :=
  wpAny_Name (wpAny_loadName_local hk hl hn hv h) hd
theorem x_init {K : Frag} {mg : Str → Option Value} {cn : Str} {C fI : Addr} {fld qn : Str} (T : XCls K mg cn C) (sa : PySem.W.findIn K (.ref C) "__setattr__" = some (some (.builtin "object.__setattr__"))) (noN : PySem.W.findIn K (.ref C) fld = some none)
    (fn : XInit K fI fld qn) (hbA : XBind fld) (hne : fld ≠ "self") (hdbg : (fld == ("__debug__" : Str)) = false)
    {prog : Program} {w : World} {A : Around} {R : Result → Shared → Prop} {s : Shared} {x t0 : Addr} {v : Value} (inK : K.In s.heap) (hlim : s.heap.NoLimit) (hx : s.heap.get? x = some (HandSPX.excO C t0)) (hroom : A.depth < recursionLimit)
    (hq : ∀ h' tk dx, InitBehind fld s.heap h' x C dx t0 v → R (.ok (.ret .none)) { s with heap := h', toks := tk }) : codeAny (model prog w) A (.call (.ref fI) ⟨[.ref x, v], []⟩) R s := by
  obtain ⟨oc, od, doc, pm, an, cdv, ct, osl, p1, p2, q1, q2, q3, q4, ho, hcd⟩ := fn
  obtain ⟨nm, q, N, bs, bm, sn, sub, ab, col, dd, k0, k1, k2, k3, k5, hC, hbm⟩ := T.cls
  have hcl : PySem.W.clsIn K C = some { name := nm, bases := bs, mro := .ref C :: bm, ns := N, qualname := q, hasDict := true, slotNames := sn, subclasses := sub, abstract := ab, collection := col, hasDel := false } := by unfold PySem.W.clsIn; rw [hC] <;> rfl
  have hns' : (("self" : Str) == fld) = false := by simpa using fun e => hne e.symm
  have hns2 : (fld == ("self" : Str)) = false := by simpa using hne
  have kS : (envOfC qn (XI.iS fld) s.heap.objs.size fI cdv).kindOf ("self" : Str) = some .local := rfl
  have kF : (envOfC qn (XI.iS fld) s.heap.objs.size fI cdv).kindOf fld = some .local := by
    show List.lookup fld [(PySem.Str.ofString "self", NameKind.local), (fld, NameKind.local)] = some .local
    have e2 : (fld == PySem.Str.ofString "self") = false := hns2
    simp [List.lookup, e2]
  refine Att.call_fn (binds := [("self", .ref x), (fld, v)]) inK hlim ho hcd hroom (BindsTo.of_eq ?b1) ?b2 (fun s₁ IC => ?_) rfl rfl rfl
  case b1 => exact hbA qn p1 p2 q1 q2 q3 q4 doc pm an cdv ct (.ref x) v
  case b2 =>
    have e1 : List.lookup (PySem.Str.ofString "self") (XI.iS fld).names = some .local := rfl
    have e2 : List.lookup fld (XI.iS fld).names = some .local := kF
    simp [e1, e2]
  obtain ⟨h₁, tk₁, rfl⟩ := IC.toInCall.same
  have kp : ∀ b o, s.heap.get? b = some o → h₁.get? b = some o := IC.toInCall.keep
  have hn := IC.toInCall.ns
  have inK1 : K.In h₁ := inK.keeps kp
  show wpAny _ _ (execs _ _) _ _ _
  refine wpAny_execs_cons (plainObj_wpAny_Assign_Attribute ?_)
  refine read_local (v := v) hn ?v1 (read_local (v := .ref x) hn ?v2 ?_ rfl kS (by decide)) rfl kF hdbg
  case v1 => simp [bindL, kS, kF]
  case v2 =>
    have e1 : ¬ PySem.Str.ofString "self" = fld := fun e => hne e.symm
    simp [bindL, kS, kF, e1]
  refine PySem.W.set_plain inK1 (ox := HandSPX.excO C t0) (od := none) ⟨kp _ _ hx, rfl, rfl, trivial⟩ sa ?_
  refine refs_osa inK1 (kp _ _ hx) hcl (.cons C hbm) rfl noN (fun h₃ tk₃ dx k₃ dn dne hx₃ hn₃ => ?_)
  show wpAny _ _ (execs _ _) _ _ _
  have z : s.heap.objs.size < h₁.objs.size := hn.lt
  exact wpAny_execs_nil (hq h₃ tk₃ dx ⟨fun b o hb e => k₃ b o hb (kp b o e), hx₃, by show s.heap.objs.size ≤ dx; have : h₁.objs.size ≤ dx := dn; omega, dne, hn₃⟩)

/-- all that is asked of a class with such an __init__ -/
theorem XOwn.mk' {K : Frag} {mg : Str → Option Value} {cn : Str} {C fI : Addr} {fld qn : Str} (T : XCls K mg cn C) (sa : PySem.W.findIn K (.ref C) "__setattr__" = some (some (.builtin "object.__setattr__"))) (noN : PySem.W.findIn K (.ref C) fld = some none)
    (iC : PySem.W.findIn K (.ref C) "__init__" = some (some (.ref fI))) (tC : PySem.W.typeIn K (.ref fI) = some (.type "function")) (fn : XInit K fI fld qn) (hbA : XBind fld) (hne : fld ≠ "self") (hdbg : (fld == ("__debug__" : Str)) = false) : XOwn K mg cn C fI fld :=
  { T with sa := sa, noN := noN, iC := iC, tC := tC, init := x_init T sa noN fn hbA hne hdbg }
end V2
set_option Elab.async false
set_option linter.all false
set_option maxRecDepth 100000
set_option maxHeartbeats 4000000
namespace V2
open PySem PySem.Spec PyProof.Rows L2
open PySem.W (Frag)

/-! ### try: body, except c as n: suite -/
theorem EnvR.none {K : Frag} {as : List Addr} {H : Hp} {ρ : En} {σ : L2.St} (h : EnvR K as H ρ σ) (i : Nat) (o : Option V) : EnvR K as H (ρ.set i none) (σ.set i o) := by
  refine ⟨by rw [List.length_set, List.length_set]; exact h.1, fun j y e => ?_⟩
  by_cases hj : i = j
  · subst hj
    by_cases hl : i < ρ.length
    · rw [List.getElem?_set_self hl] at e; cases e
    · rw [List.getElem?_eq_none (by simpa using hl)] at e; cases e
  · rw [List.getElem?_set_ne hj] at e
    obtain ⟨w, h1, h2⟩ := h.2 j y e
    exact ⟨w, by rw [List.getElem?_set_ne hj]; exact h1, h2⟩
/-- what a suite wants behind: nothing may leave it -/
def sufN (i : Nat) (D : Nx) : Nx := { nx := fun ρ h => D.nx (ρ.set i none) h, rt := D.rt, bk := fun ρ h => D.bk (ρ.set i none) h, ct := fun ρ h => D.ct (ρ.set i none) h, ex := fun _ _ _ => False }
/-- m: of a class's name, whether the clause takes it -/
def sTry (i : Nat) (m : Str → Option Bool) (f : WS) (sf : Ex → WS) : WS := fun ρ h D => f ρ h { D with ex := fun x ρ1 h1 => match m x.cls with
  | some true => i < ρ1.length ∧ sf x (ρ1.set i none) h1 (sufN i D)
  | some false => D.ex x ρ1 h1
  | none => False }
/-- the suite's soundness: slot i holds the exception x, at a -/
def SSuite (X : Cx) (i : Nat) (suite : List Stmt) (sf : Ex → WS) : Prop :=
  ∀ (a : Addr) (oe : Obj) (cls : Value) (d : Option Addr) (pn : List (Addr × Obj)), Zc cls d oe → (∃ vs, oe.data = .fields vs) →
    ∃ t, PSs (X.suite a ((a, oe) :: pn)) suite t ∧ ∀ x σ H as ρ h D D', EnvR X.K as H ρ σ → σ[i]? = some (some (.ref a)) → HeapR X.K as H h → ExR X.K X.mg as H cls d x → sf x ρ h D → STo X WF0 as H D D' → t D' σ H
/-- the canonical reading of a suite -/
def cSu (K : Frag) (mg : Str → Option Value) (i : Nat) (sf : Ex → WS) (X : Cx) (a : Addr) (cls : Value) (d : Option Addr) : TS := fun D' σ H => ∃ x as ρ h D, EnvR K as H ρ σ ∧ σ[i]? = some (some (.ref a)) ∧ HeapR K as H h ∧ ExR K mg as H cls d x ∧ sf x ρ h D ∧ STo X WF0 as H D D'
theorem pss_mono {X : Cx} {b : List Stmt} {t u : TS} (h : PSs X b t) (i : ∀ D σ H, u D σ H → t D σ H) : PSs X b u := ⟨fun pins s σ H D I q => h.run pins s σ H D I (i D σ H q)⟩
section
variable {X : Cx} {W : WX} {x n : Str} {c : Value} {i : Nat} {body suite : List Stmt} {b₀ : Stmt} {np pos pos' : Pos} {f : WS} {sf : Ex → WS} {m : Str → Option Bool}
theorem SS.tryAs (hs : X.stack = X.env :: X.outer) (hf : X.env.frame = some X.env.locals) (hN : X.N.Nodup) (hi : X.N[i]? = some n) (hln : X.env.kindOf n = some .local) (hc : Names X x c) (tk : Takes X W)
    (hm : ∀ nm C b, X.mg nm = some (.ref C) → m nm = some b → PySem.W.exmOne X.K (.ref C) c = some b)
    (hb : ∀ (W' : WX) (pn : List (Addr × Obj)) (xe : Value → Shared → Prop), Takes (X.tr pn xe) W' → PassesOwn (model X.prog X.w) X.A X.env xe → SB (X.tr pn xe) W' body f) (hsu : SSuite X i (b₀ :: suite) sf) :
    SS X W (.Try body [.ExceptHandler (some (.Name x np)) (some n) (b₀ :: suite) pos'] [] [] pos) (sTry i m f sf) := by
  -- the body's reading, for each wish
  let tb : WX → TS := fun W' => fun D' σ H => ∃ as ρ h D, EnvR X.K as H ρ σ ∧ HeapR X.K as H h ∧ f ρ h D ∧ STo X W' as H D D'
  refine ⟨_, ps_try_as (tb := tb) (ts := cSu X.K X.mg i sf X) (Wout := W) hs hf hN hi hln hc tk (fun W' pn xe tk' ho => ?_) (fun a oe cls d pn hz hd => ?_), fun σ H as ρ h D D' eR hR hq k => ?_⟩
  · obtain ⟨t, pt, st⟩ := hb W' pn xe tk' ho
    exact pss_mono pt fun D' σ H ⟨as, ρ, h, D, h1, h2, h3, h4⟩ => st σ H as ρ h D D' h1 h2 h3 ⟨h4.nx, h4.bk, h4.ct, h4.rt, h4.ex⟩
  · obtain ⟨t, pt, st⟩ := hsu a oe cls d pn hz hd
    exact pss_mono pt fun D' σ H ⟨x, as, ρ, h, D, h1, h2, h3, h4, h5, h6⟩ => st x σ H as ρ h D D' h1 h2 h3 h4 h5 h6
  · refine ⟨as, ρ, h, _, eR, hR, hq, ⟨k.nx, k.bk, k.ct, k.rt, ?_⟩⟩
    intro x ρ1 h1 cls dd σ1 as1 H1 q l1 r1 eR1 xr
    obtain ⟨C, g1, rfl, g3⟩ := id xr
    have q : (match m x.cls with
      | some true => i < ρ1.length ∧ sf x (ρ1.set i none) h1 (sufN i D)
      | some false => D.ex x ρ1 h1
      | none => False) := q
    split at q
    · rename_i em
      refine ⟨true, hm _ _ _ g1 em, fun _ a ha => ?_, fun z => Bool.noConfusion z⟩
      have hl : i < σ1.length := by rw [← eR1.1]; exact q.1
      refine ⟨x, as1, ρ1.set i none, h1, _, eR1.none i _, by rw [List.getElem?_set_self hl], r1, xr, q.2, ⟨?_, ?_, ?_, ?_, ?_⟩⟩
      · intro ρ2 h2 σ2 as2 H2 q2 l2 r2 eR2
        exact k.nx _ _ _ _ _ q2 (l1.trans l2) r2 (eR2.none i none)
      · intro ρ2 h2 σ2 as2 H2 q2 l2 r2 eR2
        exact k.bk _ _ _ _ _ q2 (l1.trans l2) r2 (eR2.none i none)
      · intro ρ2 h2 σ2 as2 H2 q2 l2 r2 eR2
        exact k.ct _ _ _ _ _ q2 (l1.trans l2) r2 (eR2.none i none)
      · intro y h2 v as2 H2 q2 l2 r2 rv
        exact k.rt _ _ _ _ _ q2 (l1.trans l2) r2 rv
      · intro x2 ρ2 h2 cls2 dd2 σ2 as2 H2 q2
        exact q2.elim
    · rename_i em
      exact ⟨false, hm _ _ _ g1 em, fun z => Bool.noConfusion z, fun _ => k.ex _ _ _ _ _ _ _ _ q l1 r1 eR1 xr⟩
    · exact q.elim
end

/-! ### in a suite: the held exception's field, and what it is one of -/
abbrev XE' := Ex → WE
section
variable (X : Cx) (i : Nat)
/-- slot i holds the exception -/
def Hold (a : Addr) (cls : Value) (d : Option Addr) (x : Ex) (σ : L2.St) (as : List Addr) (H : Hp) : Prop := σ[i]? = some (some (.ref a)) ∧ ExR X.K X.mg as H cls d x
def SXE (e : Expr) (fe : XE') : Prop := ∀ (a : Addr) (oe : Obj) (cls : Value) (d : Option Addr) (pn : List (Addr × Obj)), Zc cls d oe → (∃ vs, oe.data = .fields vs) →
  ∃ t, PE (X.suite a ((a, oe) :: pn)) e t ∧ ∀ x σ H as ρ h Q E QV, EnvR X.K as H ρ σ → HeapR X.K as H h → Hold X i a cls d x σ as H → fe x ρ h Q E → KTo X as H Q QV → t σ H QV
def SXT (e : Expr) (fe : Ex → WT) : Prop := ∀ (a : Addr) (oe : Obj) (cls : Value) (d : Option Addr) (pn : List (Addr × Obj)), Zc cls d oe → (∃ vs, oe.data = .fields vs) →
  ∃ t, PT (X.suite a ((a, oe) :: pn)) e t ∧ ∀ x σ H as ρ h Q E QV, EnvR X.K as H ρ σ → HeapR X.K as H h → Hold X i a cls d x σ as H → fe x ρ h Q E → TTo X as H Q QV → t σ H QV
def SXW (e : Expr) (fe : Ex → WT) : Prop := ∀ (a : Addr) (oe : Obj) (cls : Value) (d : Option Addr) (pn : List (Addr × Obj)), Zc cls d oe → (∃ vs, oe.data = .fields vs) →
  ∃ t, PW (X.suite a ((a, oe) :: pn)) e t ∧ ∀ x σ H as ρ h Q E QV, EnvR X.K as H ρ σ → HeapR X.K as H h → Hold X i a cls d x σ as H → fe x ρ h Q E → TTo X as H Q QV → t σ H QV
def SXA (e : List Expr) (fe : Ex → WA) : Prop := ∀ (a : Addr) (oe : Obj) (cls : Value) (d : Option Addr) (pn : List (Addr × Obj)), Zc cls d oe → (∃ vs, oe.data = .fields vs) →
  ∃ t, PA (X.suite a ((a, oe) :: pn)) e t ∧ ∀ x σ H as ρ h Q E QV, EnvR X.K as H ρ σ → HeapR X.K as H h → Hold X i a cls d x σ as H → fe x ρ h Q E → ATo X as H Q QV → t σ H QV
end
section
variable {X : Cx} {i : Nat} {a' : Expr} {n : Str} {pos p : Pos} {e b : Expr} {es rest : List Expr} {fe fb : XE'} {ga : Ex → WA} {ft gt : Ex → WT}
theorem Hold.later {a : Addr} {cls : Value} {d : Option Addr} {x : Ex} {σ : L2.St} {as as1 : List Addr} {H H1 : Hp} (l : Later as H as1 H1) (h : Hold X i a cls d x σ as H) : Hold X i a cls d x σ as1 H1 := ⟨h.1, h.2.later l⟩
/-- an expression without it -/
theorem SXE.lift {f : WE} (h : ∀ (a : Addr) (oe : Obj) (pn : List (Addr × Obj)), SE (X.suite a ((a, oe) :: pn)) WF0 e f) : SXE X i e (fun _ => fun ρ h Q E => f ρ h Q noX) := by
  intro a oe cls d pn hz hd
  obtain ⟨t, pt, st⟩ := h a oe pn
  exact ⟨t, pt, fun x σ H as ρ h Q E QV eR hR _ hq k => st σ H as ρ h Q noX QV eR hR hq k fun _ _ _ _ _ _ z => z.elim⟩
theorem suite_ret (he : SXE X i e fe) : SSuite X i [.Return (some e) pos] (fun x => sRet (fe x)) := by
  intro a oe cls d pn hz hd
  obtain ⟨t, pt, st⟩ := he a oe cls d pn hz hd
  refine ⟨_, pss_one (ps_ret pt), fun x σ H as ρ h D D' eR hs hR xr hq k => ?_⟩
  exact st x σ H as ρ h D.rt (exOf D ρ) D'.rt eR hR ⟨hs, xr⟩ hq fun y h' v as1 H' q l r rr => k.rt _ _ _ _ _ q l r rr
theorem suite_plain {st : List Stmt} {f : WS} (h : ∀ (a : Addr) (oe : Obj) (pn : List (Addr × Obj)), SB (X.suite a ((a, oe) :: pn)) WF0 st f) : SSuite X i st (fun _ => f) := by
  intro a oe cls d pn hz hd
  obtain ⟨t, pt, st⟩ := h a oe pn
  exact ⟨t, pt, fun x σ H as ρ h D D' eR hs hR xr hq k => st σ H as ρ h D D' eR hR hq ⟨k.nx, k.bk, k.ct, k.rt, k.ex⟩⟩
/-- e.f, e of the class cn -/
def xFld (cn f : Str) : XE' := fun x _ h Q _ => x.cls = cn ∧ ∃ y, x.fld = some (f, y) ∧ Q y h
theorem SXE.fld {C : Addr} {cn : Str} (T : XfC X.K C) (gC : X.mg cn = some (.ref C)) (f : Str) (hno : PySem.W.findIn X.K (.ref C) f = some none) (hN : X.N[i]? = some n) (hv : Vis X.env.scope n) (hd : (n == ("__debug__" : Str)) = false := by decide) (hcd : (n == ("__classdict__" : Str)) = false := by decide)
    (hb : attributeBase (.Name n p) f X.env (eval (.Name n p) X.env) = eval (.Name n p) X.env := by rfl) : SXE X i (.Attribute (.Name n p) f pos) (xFld cn f) := by
  intro a oe cls d pn hz hf
  refine ⟨_, pe_xf T hno hz hf (pe_var (i := i) hN hv hd hcd) hb, fun x σ H as ρ h Q E QV eR hR ho hq k => ?_⟩
  obtain ⟨ec, y, ef, q⟩ := hq
  obtain ⟨C', g1, g2, g3⟩ := ho.2
  rw [ec, gC] at g1
  cases g1
  rw [ef] at g3
  obtain ⟨dd, v, e1, e2, e3, e4⟩ := g3
  refine ⟨.ref a, ho.1, rfl, g2, dd, _, v, e1, e3, by simp [List.lookup], k.q hR q e4⟩
/-- isinstance(e, c), e of the class cn: b -/
structure XIs (K : Frag) (C : Addr) : Prop where
  ga : PySem.W.findIn K (.ref C) "__getattribute__" = some (some (.builtin "BaseException.__getattribute__"))
  gg : PySem.W.findIn K (.ref C) "__getattr__" = some none
  exC : PySem.W.subIn K (.ref C) (.type "BaseException") = some true
  hdC : PySem.W.hasDictIn K C = true
  ha : PySem.W.findIn K (.ref C) "__class__" = some (some (.builtin "object.__class__"))
  hn : PySem.W.specialIn K (.builtin "object.__class__") "__get__" = some (some (.builtin "getset_descriptor.__get__"))
  ht : PySem.W.takesIn K (.builtin "object.__class__") = some true
  hm : PySem.W.mroIn K C (.type "object") = some true
def xIsi (cn : Str) (b : Bool) : XE' := fun x _ h Q _ => x.cls = cn ∧ (x.fld.isSome = true) ∧ Q (.d (.bool b)) h
theorem SXE.isi {C : Addr} {cn c : Str} {cv : Value} {vc : V} {b : Bool} {p1 p2 p3 : Pos} (T : XIs X.K C) (gC : X.mg cn = some (.ref C)) (hg : Gl X "isinstance") (hm : X.mg "isinstance" = none) (hgc : Gl X c) (hmc : X.mg c = some cv) (rc : RelV vc cv) (uc : ∀ u, RelV vc u → u = cv) (ek : PySem.W.kitOne X.K (.ref C) cv = some b)
    (hN : X.N[i]? = some n) (hv : Vis X.env.scope n) (hd : (n == ("__debug__" : Str)) = false := by decide) (hcd : (n == ("__classdict__" : Str)) = false := by decide) (hdc : (c == ("__debug__" : Str)) = false := by decide)
    (he : starEach [.Name n p2, .Name c p3] X.env = (false, eval (.Name n p2) X.env) :: starEach [.Name c p3] X.env := by rfl) (he2 : starEach [.Name c p3] X.env = (false, eval (.Name c p3) X.env) :: starEach [] X.env := by rfl)
    (hpl : (backTo pos (starEach [.Name c p3] X.env)).any (·.1) = false := by rfl) : SXE X i (.Call (.Name "isinstance" p1) [.Name n p2, .Name c p3] [] pos) (xIsi cn b) := by
  intro a oe cls d pn hz hf
  have isi : CallR (X.suite a ((a, oe) :: pn)) (.builtin "isinstance") (fun xs H Q => xs = [.ref a, vc] ∧ cls = .ref C ∧ (∃ dd fs, d = some dd ∧ H dd = some (.xd fs)) ∧ Q (.bl b) H) := by
    intro pins s σ H xs us Q I r h
    obtain ⟨rfl, rfl, ⟨dd, fs, rfl, hx⟩, q⟩ := h
    obtain ⟨u1, u2, rfl, r1, r2⟩ := vals2 r
    cases r1
    have e2 := uc _ r2
    subst e2
    obtain ⟨hget, _⟩ := I.pin (a, oe) (List.mem_append_left _ List.mem_cons_self)
    obtain ⟨vs, hvs⟩ := hf
    have ox : ObjOk X.prog X.w H s.heap dd (.xd fs) := I.hok dd _ hx
    obtain ⟨mA, hns, _⟩ := ox
    obtain ⟨od, ho, _⟩ := lookIn_ns hns
    have J : PySem.W.InstAt s.heap a oe C (some od) := ⟨hget, hz.1, by unfold PySem.W.notCls; rw [hvs] <;> rfl, by rw [hz.2]; exact ho⟩
    exact PySem.W.kia_one (PySem.W.kitx_exc (by obtain ⟨cd, hc, _⟩ := PySem.W.any_some T.hdC; rw [hc]; rfl) T.ga T.gg T.exC T.ha T.hn T.ht T.hm) I.kIn J ek (fun z => nomatch z) fun tk => ⟨.bl b, H, I.kept (t' := tk) fun _ _ z => z, rfl, q⟩
  refine ⟨_, pe_callB isi hg hm (by decide +kernel) (pa_cons (pe_var (i := i) hN hv hd hcd) (pa_cons (pe_glob hgc hmc rc hdc) pa_nil he2) he) (hpl := hpl) (he := he), fun x σ H as ρ h Q E QV eR hR ho hq k => ?_⟩
  obtain ⟨ec, ef, q⟩ := hq
  obtain ⟨C', g1, g2, g3⟩ := ho.2
  rw [ec, gC] at g1
  cases g1
  obtain ⟨f, y⟩ := x.fld.get ef
  cases efx : x.fld with
  | none => rw [efx] at ef; cases ef
  | some fy =>
    obtain ⟨f, y⟩ := fy
    rw [efx] at g3
    obtain ⟨dd, v, e1, e2, e3, e4⟩ := g3
    exact ⟨.ref a, ho.1, rfl, g2, ⟨dd, _, e1, e3⟩, k.qd hR q (.bl b)⟩
theorem SXA.nil : SXA X i [] (fun _ => aNil) := fun a oe cls d pn hz hd => ⟨_, pa_nil, fun x σ H as ρ h Q E QV eR hR _ hq k => k _ _ _ _ _ hq (Later.refl _ _) hR .nil⟩
theorem SXA.cons (he : SXE X i e fe) (ha : SXA X i es ga) (hs : starEach (e :: es) X.env = (false, eval e X.env) :: starEach es X.env := by rfl) : SXA X i (e :: es) (fun x => aCons (fe x) (ga x)) := by
  intro a oe cls d pn hz hd
  obtain ⟨_, pe, se⟩ := he a oe cls d pn hz hd
  obtain ⟨_, pa, sa⟩ := ha a oe cls d pn hz hd
  refine ⟨_, pa_cons pe pa hs, fun x σ H as ρ h Q E QV eR hR ho hq k => ?_⟩
  refine se x σ H as ρ h _ E _ eR hR ho hq (fun y h1 v as1 H1 hq1 l1 r1 rv => ?_)
  refine sa x σ H1 as1 ρ h1 _ E _ (eR.later l1) r1 (ho.later l1) hq1 (fun xs h2 vs as2 H2 hq2 l2 r2 rvs => ?_)
  exact k _ _ _ _ _ hq2 (l1.trans l2) r2 (.cons (rv.later l2) rvs)
theorem SXE.tup {x1} (ha : SXA X i es ga) : SXE X i (.Tuple es x1 pos) (fun x => fTup (ga x)) := by
  intro a oe cls d pn hz hd
  obtain ⟨_, pa, sa⟩ := ha a oe cls d pn hz hd
  refine ⟨_, pe_tup pa, fun x σ H as ρ h Q E QV eR hR ho hq k => ?_⟩
  refine sa x σ H as ρ h _ E _ eR hR ho hq (fun xs h1 vs as1 H1 hq1 l1 r1 rv => ?_)
  split at hq1
  · rename_i ps ep
    have dv := rv.ofAllD ep
    exact ⟨by rw [dv.length]; exact hq1.1, fun p hp => (k.later l1).newTup r1 hq1.2 dv hp⟩
  · exact hq1.elim
theorem SXE.lst (ha : SXA X i es ga) : SXE X i (.List es pos) (fun x => fLst (ga x)) := by
  intro a oe cls d pn hz hd
  obtain ⟨_, pa, sa⟩ := ha a oe cls d pn hz hd
  refine ⟨_, pe_lst pa, fun x σ H as ρ h Q E QV eR hR ho hq k => ?_⟩
  refine sa x σ H as ρ h _ E _ eR hR ho hq (fun xs h1 vs as1 H1 hq1 l1 r1 rv => ?_)
  split at hq1
  · rename_i ps ep
    have dv := rv.ofAllD ep
    exact ⟨by rw [dv.length]; exact hq1.1, fun p hp => (k.later l1).newLst r1 hq1.2 dv hp⟩
  · exact hq1.elim
theorem SXT.val (he : SXE X i e fe) (hp : ∀ whole, isTrue e X.env whole = (do let v ← whole; standAt e.pos; holding [v] (truthy v)) := by intro _; rfl) : SXT X i e (fun x => tVal (fe x)) := by
  intro a oe cls d pn hz hd
  obtain ⟨_, pe, se⟩ := he a oe cls d pn hz hd
  refine ⟨_, pt_val pe hp, fun x σ H as ρ h Q E QV eR hR ho hq k => ?_⟩
  refine se x σ H as ρ h _ E _ eR hR ho hq (fun y h1 v as1 H1 hq1 l1 r1 rv => ?_)
  split at hq1
  · rw [rel_bl rv]
    exact ⟨_, rfl, k _ _ _ _ hq1 l1 r1⟩
  · exact hq1.elim
theorem SXT.not (he : SXT X i e ft) : SXT X i (.UnaryOp .Not e pos) (fun x => tNot2 (ft x)) := by
  intro a oe cls d pn hz hd
  obtain ⟨_, pe, se⟩ := he a oe cls d pn hz hd
  refine ⟨_, pt_not pe, fun x σ H as ρ h Q E QV eR hR ho hq k => ?_⟩
  exact se x σ H as ρ h _ E _ eR hR ho hq (fun y h1 as1 H1 hq1 l1 r1 => k _ _ _ _ hq1 l1 r1)
theorem SXW.and1 (he : SXT X i e ft) : SXW X i (.BoolOp .And [e] pos) ft := by
  intro a oe cls d pn hz hd
  obtain ⟨_, pe, se⟩ := he a oe cls d pn hz hd
  exact ⟨_, pw_and1 pe, se⟩
theorem SXW.and (he : SXT X i e ft) (hb : SXW X i (.BoolOp .And (b :: rest) pos) gt) : SXW X i (.BoolOp .And (e :: b :: rest) pos) (fun x => tAnd2 (ft x) (gt x)) := by
  intro a oe cls d pn hz hd
  obtain ⟨_, pe, se⟩ := he a oe cls d pn hz hd
  obtain ⟨_, pb, sb⟩ := hb a oe cls d pn hz hd
  refine ⟨_, pw_and pe pb, fun x σ H as ρ h Q E QV eR hR ho hq k => ?_⟩
  refine se x σ H as ρ h _ E _ eR hR ho hq (fun c h1 as1 H1 hq1 l1 r1 => ?_)
  cases c with
  | true => exact iteT (sb x σ H1 as1 ρ h1 Q E QV (eR.later l1) r1 (ho.later l1) hq1 (k.later l1))
  | false => exact iteF (k _ _ _ _ hq1 l1 r1)
theorem SXW.pt (h : SXW X i e ft) : SXT X i e ft := fun a oe cls d pn hz hd => let ⟨_, p, s⟩ := h a oe cls d pn hz hd; ⟨_, p.pt, s⟩
theorem SXE.ifE {c : Expr} (hc : SXT X i c ft) (he : SXE X i e fe) (hb : SXE X i b fb) : SXE X i (.IfExp c e b pos) (fun x => fIf (ft x) (fe x) (fb x)) := by
  intro a oe cls d pn hz hd
  obtain ⟨_, pc, sc⟩ := hc a oe cls d pn hz hd
  obtain ⟨_, pe, se⟩ := he a oe cls d pn hz hd
  obtain ⟨_, pb, sb⟩ := hb a oe cls d pn hz hd
  refine ⟨_, pe_ifExp pc pe pb, fun x σ H as ρ h Q E QV eR hR ho hq k => ?_⟩
  refine sc x σ H as ρ h _ E _ eR hR ho hq (fun c h1 as1 H1 hq1 l1 r1 => ?_)
  cases c with
  | true => exact iteT (se x σ H1 as1 ρ h1 Q E QV (eR.later l1) r1 (ho.later l1) hq1 (k.later l1))
  | false => exact iteF (sb x σ H1 as1 ρ h1 Q E QV (eR.later l1) r1 (ho.later l1) hq1 (k.later l1))
theorem SXE.bin {op : CmpOp} {rV : Cx → R2} {r : WR2} (ho' : ∀ X', OpR X' (compareOp op) (rV X')) (c : Cp2 X (rV X) r) (hK : ∀ X' : Cx, X'.K = X.K → rV X' = rV X) (he : SXE X i e fe) (hb : SXE X i b fb) (hm : behindInMarks op b = false) : SXE X i (.Compare e [op] [b] pos) (fun x => fBin r (fe x) (fb x)) := by
  intro a oe cls d pn hz hd
  obtain ⟨_, pe, se⟩ := he a oe cls d pn hz hd
  obtain ⟨_, pb, sb⟩ := hb a oe cls d pn hz hd
  refine ⟨_, pe_cmpR (ho' _) pe pb hm, fun x σ H as ρ h Q E QV eR hR ho hq k => ?_⟩
  rw [hK (X.suite a ((a, oe) :: pn)) rfl]
  refine se x σ H as ρ h _ E _ eR hR ho hq (fun y h1 v as1 H1 hq1 l1 r1 rv => ?_)
  refine sb x σ H1 as1 ρ h1 _ E _ (eR.later l1) r1 (ho.later l1) hq1 (fun z h2 w as2 H2 hq2 l2 r2 rw' => ?_)
  exact c y z h2 Q v w as2 H2 QV (rv.later l2) rw' r2 hq2 (k.later (l1.trans l2))
end
end V2
set_option Elab.async false
set_option linter.all false
set_option maxRecDepth 100000
set_option maxHeartbeats 4000000
namespace V2
open PySem PySem.Spec PyProof.Rows L2
open PySem.W (Frag)
/-- the script as data -/
def scriptD (ns : List Int) : D := .d (.list (ns.map PyData.int))
/-- the law over data: it says True, nothing is raised -/
def Says (F : WF) (ns : List Int) : Prop := F [scriptD ns] [] (fun y _ => y = .d (.bool true)) noX
theorem law_endG {P : Program} {w : World} {K : Frag} {mg mb : Str → Option Value} {k : Nat} {fa a : Addr} {fd : FuncData} {x : Str} {F : WF} {s₁ : Shared} {vs : List Value} {ns : List Int}
    (inK : K.In s₁.heap) (gns : s₁.heap.Ns mainGlobals mg) (gb : s₁.heap.Ns builtinsNs mb) (gbb : ∀ x : Str, x ≠ "__name__" → mb x = bootBuiltins x) (nol : s₁.heap.NoLimit) (gen : s₁.gens = #[])
    (oa : s₁.heap.get? a = some { cls := .type "list", data := .seq vs.toArray }) (hints : IntsAre vs ns) (hl : ns.length ≤ sizeLine) (hr : Room k callerA)
    (G : ∀ base : Heap, K.In base → base.Ns mainGlobals mg → FnG P w K mg base k fa fd [x] F) (bind1 : ∀ (s : Shared) (u : Value), BindsTo s fd ⟨[u], []⟩ [(x, u)]) (says : Says F ns) :
    codeAny (model P w) callerA (.call (.ref fa) ⟨[.ref a], []⟩) (fun r s' => r = .ok (.ret (.bool true)) ∧ OldK s₁.heap s'.heap ∧ s'.os = s₁.os ∧ AllBare s'.gens) s₁ := by
  have rv := vals_ints hints
  have main : ∀ H : Hp, Only H → LstR K [] H a (ns.map V.int) → HOk P w H s₁.heap → (∀ b, H b ≠ none → b = a) → (H a ≠ none → K.lookup a = none) →
      codeAny (model P w) callerA (.call (.ref fa) ⟨[.ref a], []⟩) (fun r s' => r = .ok (.ret (.bool true)) ∧ OldK s₁.heap s'.heap ∧ s'.os = s₁.os ∧ AllBare s'.gens) s₁ := by
    intro H only lst ok onlyA notK
    have noDict : ∀ {b : Addr} {o : Obj} {es : Array DictEntry} {ep : Nat}, s₁.heap.get? b = some o → o.data = .dict es ep → H b = none := by
      intro b o es ep e d
      refine Classical.byContradiction fun z => ?_
      rw [onlyA b z, oa] at e
      cases e
      cases d
    have nsH : ∀ {b : Addr} {m : Str → Option Value}, s₁.heap.Ns b m → (hidT s₁.heap H).Ns b m := by
      rintro b m ⟨o, es, ep, e, d, r⟩
      exact ⟨o, es, ep, hidT_get e (noDict e d), d, r⟩
    have baseK : K.In (hidT s₁.heap H) := by
      intro b o e
      refine hidT_get (inK b o e) (Classical.byContradiction fun z => ?_)
      have eb := onlyA b z
      subst eb
      rw [notK z] at e
      cases e
    obtain ⟨mc, nol1, nol2⟩ := id nol
    have md : Mod K mg (hidT s₁.heap H) := ⟨baseK, nsH gns, ⟨mb, nsH gb, gbb⟩, ⟨mc, nsH nol1, nol2⟩⟩
    have e0 : Env0 P w K mg (hidT s₁.heap H) callerA [] s₁ H := ⟨rfl, md, fun b o e => of_hidT e, Nat.le_of_eq (hidT_size _ _), trivial, fun b hb => absurd (show b ∈ ([] : List Addr) from hb) (by simp), ok, .of_eq gen⟩
    have sp : spD K mg 1 F [.ref a] H (fun v _ => v = .bl true) (fun _ _ _ => False) := by
      refine ⟨[], [scriptD ns], [], _, _, rfl, .cons (.d (.lst lst (DvAll.ints ns))) .nil, ⟨rfl, List.nodup_nil, fun i o b e => by simp at e⟩, says, fun y h' v as1 H1 q l r rr => ?_, fun x h' cls dd as1 H1 q => q.elim⟩
      subst q
      exact rel_bl rr
    refine codeAny_mono ((G _ baseK (nsH gns)).run callerA [] s₁ H ⟨[.ref a], []⟩ [.ref a] [.ref a] _ _ hr rfl e0 (bind1 s₁ (.ref a)) (.cons rfl .nil) sp) fun r s' h => ?_
    cases r with
    | error e =>
      obtain ⟨_, _, _, _, _, _, _, _, _, _, _, _, z⟩ := h
      exact z.elim
    | ok fl =>
      cases fl with
      | next => exact h.elim
      | brk => exact h.elim
      | cont => exact h.elim
      | ret u =>
        obtain ⟨v, H', os, bare, un, ok', r', q⟩ := h
        have q' : v = .bl true := q
        subst q'
        obtain rfl : u = Value.bool true := r'
        refine ⟨rfl, OldK.of_keep fun b o e => ?_, os, bare⟩
        rcases only b with z | ⟨ob, xs, z⟩
        · exact un.keep b o e z (by intro y; exact absurd (show b ∈ ([] : List Addr) from y) (by simp)) (by simp)
        · have z2 := un.frzs b ob _ z
          obtain ⟨e1, _⟩ := ok b _ z
          obtain ⟨e2, _⟩ := ok' b _ z2
          rw [e] at e1
          cases e1
          exact e2
  cases hk : K.lookup a with
  | some o =>
    have e := inK a o hk
    rw [oa] at e
    cases e
    refine main (fun _ => none) (fun _ => .inl rfl) (.inr ⟨_, vs.toArray, _, hk, rfl, rfl, rfl, by rw [List.size_toArray, hints.length]; exact hl, by simpa using rv⟩) (fun b u z => nomatch z) (fun b z => absurd rfl z) (fun z => absurd rfl z)
  | none =>
    have self : (fun b => if b = a then some (HO.frz { cls := .type "list", data := .seq vs.toArray } (.lst (ns.map V.int))) else none : Hp) a = some (.frz { cls := .type "list", data := .seq vs.toArray } (.lst (ns.map V.int))) := if_pos rfl
    refine main (fun b => if b = a then some (.frz { cls := .type "list", data := .seq vs.toArray } (.lst (ns.map V.int))) else none) (fun b => ?_) (.inl ⟨.inr ⟨_, self⟩, by simp⟩) (fun b u z => ?_) (fun b z => ?_) (fun _ => hk)
    · by_cases hb : b = a
      · subst hb; exact .inr ⟨_, _, self⟩
      · exact .inl (if_neg hb)
    · by_cases hb : b = a
      · subst hb
        rw [self] at z
        cases z
        exact ⟨oa, by rw [List.length_map]; exact hl, vs, _, rv, oa⟩
      · have z' : (none : Option HO) = some u := (if_neg hb).symm.trans z
        cases z'
    · exact Classical.byContradiction fun hb => z (if_neg hb)
/-- the goal that k_head leaves, from the law's reading over data -/
theorem walkG {l : PySem.W.OpenLaw} {n k : Nat} {q : Program} {loose : List Str} {XP : (Str → Option Value) → Heap → Prop} {YP : World → Heap → Prop} {d : DefRec} {K : Params → Frag} {F : WF} {x : Str}
    (hn : l.most = some n) (hn2 : n ≤ sizeLine) (hdf : d.params.defaults = []) (hr : Room k callerA) (hY : ∀ (w : World) (h : Heap), YP w h → (K w.params).In h)
    (all : ∀ (w : World) (mg : Str → Option Value) (fa : Addr) (h : Heap), (K w.params).In h → h.Ns mainGlobals mg → mg d.name = some (.ref fa) →
      ∃ fd : FuncData, (∀ (s : Shared) (u : Value), BindsTo s fd ⟨[u], []⟩ [(x, u)]) ∧ ∀ base : Heap, (K w.params).In base → base.Ns mainGlobals mg → FnG l.prog w (K w.params) mg base k fa fd [x] F)
    (says : ∀ ns : List Int, ns.length ≤ n → (∀ i ∈ ns, Builtin.Int.intBits i ≤ 1048576) → Says F ns) : PySem.W.WalkO q loose XP YP l.row.toRowW d [] (fun f vs => PySem.call f vs) := by
  refine Att.attach_callB hn hdf fun w s₀ s₁ mg mb fa o pm cd doc a vs ns G Y ho hd hcd hmg hobj hints hlen hbits hg => ?_
  have inK := hY w _ Y
  obtain ⟨fd, hb, hF⟩ := all w mg fa _ inK G.T.g hmg
  exact law_endG inK G.T.g G.T.b G.T.builtins G.T.nolimit hg hobj hints (Nat.le_trans hlen hn2) hr hF hb (says ns hlen hbits)
end V2
set_option Elab.async false
set_option linter.all false
set_option maxRecDepth 100000
set_option maxHeartbeats 4000000
namespace V2
open PySem PySem.Spec PyProof.Rows L2
open PySem.W (Frag)
section
variable {X : Cx} {W : WX} {a b c : Expr} {fa fb fc : WE} {pos : Pos} {ga : WA}
theorem relAll3 {K : Frag} {as : List Addr} {H : Hp} {vs : List V} {x y z : D} (r : RelAll K as H vs [x, y, z]) : ∃ u v w, vs = [u, v, w] ∧ Rel K as H u x ∧ Rel K as H v y ∧ Rel K as H w z := by
  cases r with | cons r t => cases t with | cons r2 t => cases t with | cons r3 t => cases t; exact ⟨_, _, _, rfl, r, r2, r3⟩
theorem SS.par3 (i j l : Nat) {x y z : Str} {px py pz pt : Pos} {kt k2 pt2} (hc : X.calm = true) (hN : X.N.Nodup) (hi : X.N[i]? = some x) (hj : X.N[j]? = some y) (hl : X.N[l]? = some z) (hij : i ≠ j) (hil : i ≠ l) (hjl : j ≠ l)
    (hx : X.env.scope.names.lookup x = some .local) (hy : X.env.scope.names.lookup y = some .local) (hz : X.env.scope.names.lookup z = some .local) (ha : SA X W [a, b, c] ga)
    (hw : swappedStores [.Tuple [.Name x px, .Name y py, .Name z pz] kt pt] (.Tuple [a, b, c] k2 pt2) X.env = pure (some [x, y, z]))
    (hs : swapsWithSole [.Tuple [.Name x px, .Name y py, .Name z pz] kt pt] (.Tuple [a, b, c] k2 pt2) pos.line X.env = pure false := by rfl) :
    SS X W (.Assign [.Tuple [.Name x px, .Name y py, .Name z pz] kt pt] (.Tuple [a, b, c] k2 pt2) pos) (sPar3 i j l ga) := by
  obtain ⟨_, p, s⟩ := ha
  refine ⟨_, ps_par3 hc hN hi hj hl hij hil hjl hx hy hz p hw hs, fun σ H as ρ h D D' eR hR hq k => ?_⟩
  refine s σ H as ρ h _ _ _ eR hR hq (fun xs h1 vs as1 H1 hq1 l1 r1 rv => ?_) (k.x eR)
  split at hq1
  · obtain ⟨u, v, w, rfl, r, r', r''⟩ := relAll3 rv
    exact ⟨u, v, w, rfl, k.nx _ _ _ _ _ hq1 l1 r1 ((((eR.later l1).set i r).set j r').set l r'')⟩
  · exact hq1.elim
/-- x += e, ints -/
theorem SS.augAdd {e : Expr} {fe : WE} (i : Nat) {x : Str} {pos' : Pos} (hN : X.N.Nodup) (hi : X.N[i]? = some x) (hx : Loc X.env.scope x) (he : SE X W e fe) (hf : X.fn x = true ∨ X.env.scope.names.lookup x = some .local := by first | exact .inl rfl | exact .inr rfl | assumption) :
    SS X W (.AugAssign (.Name x pos') .Add e pos) (sAug i (rInts (fun _ _ => True) fun i j => .int (i + j)) fe) := .aug i hN hi hx he iop_add (cp_ints0 fun _ _ _ _ _ => .int _) hf
theorem SS.augSub {e : Expr} {fe : WE} (i : Nat) {x : Str} {pos' : Pos} (hN : X.N.Nodup) (hi : X.N[i]? = some x) (hx : Loc X.env.scope x) (he : SE X W e fe) (hf : X.fn x = true ∨ X.env.scope.names.lookup x = some .local := by first | exact .inl rfl | exact .inr rfl | assumption) :
    SS X W (.AugAssign (.Name x pos') .Sub e pos) (sAug i (rInts (fun _ _ => True) fun i j => .int (i - j)) fe) := .aug i hN hi hx he iop_sub (cp_ints0 fun _ _ _ _ _ => .int _) hf
end
/-- a def's facts as they are found in the written part -/
structure DefAt (K : Frag) (mg : Str → Option Value) (x : Str) (st : Stmt) (f : Addr) (fd : FuncData) : Prop where
  F : Fun K x x st f fd
  gl : mg x = some (.ref f)
  kp : PySem.W.keepIn K (.ref f) = true
section
variable {P : Program} {w : World} {K : Frag} {mg : Str → Option Value} {base : Heap}
/-- a call's facts in short -/
theorem SE.fn {X : Cx} {W : WX} {k j : Nat} {f : Addr} {fd : FuncData} {ps : List Str} {F : WF} {x : Str} {st : Stmt} {p pos : Pos} {e : Expr} {es : List Expr} {ga : WA} (D : DefAt X.K X.mg x st f fd) (G : FnG X.prog X.w X.K X.mg X.base j f fd ps F)
    (hlen : ∀ xs ho Q E, F xs ho Q E → xs.length = ps.length) (hr : Room k X.A) (hj : j ≤ k) (hgu : X.A.guards = some []) (tk : Takes X W) (hg : Gl X x) (hb : Binds X.K fd ps []) (ha : SA X W (e :: es) ga) (hdb : (x == ("__debug__" : Str)) = false := by decide)
    (he : starEach (e :: es) X.env = (false, eval e X.env) :: starEach es X.env := by rfl) (hpl : (backTo pos (starEach es X.env)).any (·.1) = false := by rfl) : SE X W (.Call (.Name x p) (e :: es) [] pos) (fFn F ga) :=
  .call G hlen (hr.mono hj) hgu tk hg D.gl D.kp hb ha hdb he hpl
theorem SE.fnK {X : Cx} {W : WX} {k j : Nat} {f : Addr} {fd : FuncData} {ps : List Str} {F : WF} {x : Str} {st : Stmt} {p pos : Pos} {kws : List Keyword} {g : WA} {ks : List Str} {ix : List Nat} (D : DefAt X.K X.mg x st f fd) (G : FnG X.prog X.w X.K X.mg X.base j f fd ps F)
    (hlen : ∀ xs ho Q E, F xs ho Q E → xs.length = ps.length) (hr : Room k X.A) (hj : j ≤ k) (hgu : X.A.guards = some []) (tk : Takes X W) (hg : Gl X x) (hb : KwB X.K fd ps ks ix) (ha : SKw X W kws g)
    (hall : (backToKw pos (keywordEach kws X.env)).all (·.1.isSome) = true := by rfl) (hks : (backToKw pos (keywordEach kws X.env)).filterMap (·.1) = ks := by rfl) (hdb : (x == ("__debug__" : Str)) = false := by decide)
    (hpl : ((backTo pos (starEach [] X.env)).any (·.1) || (backToKw pos (keywordEach kws X.env)).any (·.1.isNone)) = false := by rfl) : SE X W (.Call (.Name x p) [] kws pos) (fFnK ix ks.length F g) :=
  .callK G hlen (hr.mono hj) hgu tk hg D.gl D.kp hb ha hall hks hdb hpl
end
end V2
namespace V2
open PySem PySem.Spec PyProof.Rows L2
open PySem.W (Frag)
section
variable {P : Program} {w : World} {K : Frag} {mg : Str → Option Value} {base : Heap} {N : List Str} {qual : Str} {sc : Scope} {f : Addr} {cdv : Value} {A : Around} {outer : List Env} {s : Shared} {H : Hp} {E : XK}
/-- in a def's body: what it lets out is taken; nothing stands in a loop's way -/
theorem tkD : Takes (cxOf (L2.CX P w) P w K mg base N qual sc f cdv A outer s H E) (fun cls d _ H' => E cls d H') := takes_of rfl rfl rfl rfl
theorem poD : PassesOwn (model P w) (cxOf (L2.CX P w) P w K mg base N qual sc f cdv A outer s H E).A (cxOf (L2.CX P w) P w K mg base N qual sc f cdv A outer s H E).env (cxOf (L2.CX P w) P w K mg base N qual sc f cdv A outer s H E).xe := passes_of rfl
theorem tk0 {X : Cx} : Takes X WF0 := takes0
end
end V2
namespace V2
open PySem PySem.Spec PyProof.Rows L2
open PySem.W (Frag)
/-- a clause that takes one class, and is reached by it alone -/
def only (cn : Str) (s : Str) : Option Bool := if s = cn then some true else none
theorem only_exm {K : Frag} {mg : Str → Option Value} {cn : Str} {C : Addr} (g : mg cn = some (.ref C)) (e : PySem.W.exmOne K (.ref C) (.ref C) = some true) : ∀ nm D b, mg nm = some (.ref D) → only cn nm = some b → PySem.W.exmOne K (.ref D) (.ref C) = some b := by
  intro nm D b h1 h2
  unfold only at h2
  split at h2
  · rename_i q
    subst q
    rw [g] at h1
    cases h1
    cases h2
    exact e
  · cases h2
end V2
set_option Elab.async false
set_option linter.all false
set_option maxRecDepth 100000
set_option maxHeartbeats 4000000
/-! ## Going through a reading, step by step -/
namespace V2
open PySem PySem.Spec PyProof.Rows L2
open PySem.W (Frag)

inductive GetAt : Nat → En → D → Prop
  | zero {d : D} {l : En} : GetAt 0 (some d :: l) d
  | succ {n : Nat} {a : Option D} {l : En} {d : D} : GetAt n l d → GetAt (n + 1) (a :: l) d
inductive SetAt : Nat → En → D → En → Prop
  | zero {a : Option D} {d : D} {l : En} : SetAt 0 (a :: l) d (some d :: l)
  | succ {n : Nat} {a : Option D} {d : D} {l l' : En} : SetAt n l d l' → SetAt (n + 1) (a :: l) d (a :: l')
theorem GetAt.eq {n : Nat} {l : En} {d : D} (h : GetAt n l d) : l[n]? = some (some d) := by
  induction h with
  | zero => rfl
  | succ _ ih => rw [List.getElem?_cons_succ]; exact ih
theorem SetAt.eq {n : Nat} {l l' : En} {d : D} (h : SetAt n l d l') : l.set n (some d) = l' := by
  induction h with
  | zero => rfl
  | succ _ ih => rw [List.set_cons_succ, ih]

inductive Pad : Nat → En → Prop
  | zero : Pad 0 []
  | succ {n : Nat} {l : En} : Pad n l → Pad (n + 1) (none :: l)
inductive Pre : List D → En → En → Prop
  | nil {l : En} : Pre [] l l
  | cons {x : D} {xs : List D} {l l' : En} : Pre xs l l' → Pre (x :: xs) l (some x :: l')
theorem Pad.eq {n : Nat} {l : En} (p : Pad n l) : l = List.replicate n none := by
  induction p with
  | zero => rfl
  | succ _ ih => rw [List.replicate_succ, ih]
theorem Pre.eq {xs : List D} {l l' : En} (p : Pre xs l l') : xs.map some ++ l = l' := by
  induction p with
  | nil => rfl
  | cons _ ih => rw [List.map_cons, List.cons_append, ih]

section
variable {ρ ρ1 ρ2 ρ3 : En} {h : Ho} {Q : KD} {E : XD} {d x y z : D} {fa fb : WE} {ga : WA} {r : WR2} {nx : En → Ho → Prop} {rt : KD} {bk ct : En → Ho → Prop} {ex : Ex → En → Ho → Prop} {f g : WS} {i j : Int} {t u : WT} {b : Bool} {QA : List D → Ho → Prop} {QT : Bool → Ho → Prop}
theorem i_var {n : Nat} (e : GetAt n ρ d) (k : Q d h) : fVar n ρ h Q E := by
  unfold fVar
  rw [e.eq]
  exact k
theorem i_c {p : PyData} (k : Q (.d p) h) : fC p ρ h Q E := k
theorem i_nil (k : QA [] h) : aNil ρ h QA E := k
theorem i_cons (k : fa ρ h (fun x h1 => ga ρ h1 (fun xs h2 => QA (x :: xs) h2) E) E) : aCons fa ga ρ h QA E := k
theorem i_bin (k : fa ρ h (fun x h1 => fb ρ h1 (fun y h2 => r x y h2 Q) E) E) : fBin r fa fb ρ h Q E := k
theorem i_ints {C : Int → Int → Prop} {gg : Int → Int → PyData} (c : C i j) (k : Q (.d (gg i j)) h) : rInts C gg (.d (.int i)) (.d (.int j)) h Q := ⟨c, k⟩
theorem i_ints0 {gg : Int → Int → PyData} (k : Q (.d (gg i j)) h) : rInts (fun _ _ => True) gg (.d (.int i)) (.d (.int j)) h Q := ⟨trivial, k⟩
theorem i_add (k : Q (.d (.int (i + j))) h) : rAdd2 (.d (.int i)) (.d (.int j)) h Q := k
theorem i_eqi (k : Q (.d (.bool (decide (i = j)))) h) : rEq2 (.d (.int i)) (.d (.int j)) h Q := k
theorem i_nei (k : Q (.d (.bool (!decide (i = j)))) h) : rNe2 (.d (.int i)) (.d (.int j)) h Q := k
theorem i_eqs {i j : Str} (k : Q (.d (.bool (decide (i = j)))) h) : rEq2 (.d (.str i)) (.d (.str j)) h Q := k
theorem i_nes {i j : Str} (k : Q (.d (.bool (!decide (i = j)))) h) : rNe2 (.d (.str i)) (.d (.str j)) h Q := k
theorem i_eqd {p q : PyData} (ex : datum h x = some p) (ey : datum h y = some q) (hp : SeqAt.shaped p = true) (hq : SeqAt.shaped q = true) (ni : (∀ i, x ≠ .d (.int i)) ∧ ∀ i, x ≠ .d (.str i)) (k : Q (.d (.bool (PyData.eqv p q))) h) : rEq2 x y h Q := by
  unfold rEq2
  split
  · exact (ni.1 _ rfl).elim
  · exact (ni.2 _ rfl).elim
  · rw [ex, ey]
    exact ⟨hp, hq, k⟩
theorem i_ned {p q : PyData} (ex : datum h x = some p) (ey : datum h y = some q) (hp : SeqAt.shaped p = true) (hq : SeqAt.shaped q = true) (ni : (∀ i, x ≠ .d (.int i)) ∧ ∀ i, x ≠ .d (.str i)) (k : Q (.d (.bool (!PyData.eqv p q))) h) : rNe2 x y h Q := by
  unfold rNe2
  split
  · exact (ni.1 _ rfl).elim
  · exact (ni.2 _ rfl).elim
  · rw [ex, ey]
    exact ⟨hp, hq, k⟩
theorem i_un {gg : Int → PyData} (k : fa ρ h (fun x h1 => ∃ i, x = .d (.int i) ∧ Q (.d (gg i)) h1) E) : fUn gg fa ρ h Q E := by
  have e : (fun (x : D) (h1 : Ho) => ∃ i, x = .d (.int i) ∧ Q (.d (gg i)) h1) = (fun x h1 => match x with
      | .d (.int i) => Q (.d (gg i)) h1
      | _ => False) := by
    funext x h1
    apply propext
    constructor
    · rintro ⟨i, rfl, q⟩; exact q
    · split
      · exact fun q => ⟨_, rfl, q⟩
      · exact False.elim
  rw [e] at k
  exact k
theorem i_val (k : fa ρ h (fun x h1 => ∃ b, x = .d (.bool b) ∧ QT b h1) E) : tVal fa ρ h QT E := by
  have e : (fun (x : D) (h1 : Ho) => ∃ b, x = .d (.bool b) ∧ QT b h1) = (fun x h1 => match x with
      | .d (.bool b) => QT b h1
      | _ => False) := by
    funext x h1
    apply propext
    constructor
    · rintro ⟨i, rfl, q⟩; exact q
    · split
      · exact fun q => ⟨_, rfl, q⟩
      · exact False.elim
  rw [e] at k
  exact k
theorem i_isb {P : Bool → Prop} (k : P b) : ∃ b', D.d (.bool b) = .d (.bool b') ∧ P b' := ⟨b, rfl, k⟩
theorem i_isi {P : Int → Prop} (k : P i) : ∃ i', D.d (.int i) = .d (.int i') ∧ P i' := ⟨i, rfl, k⟩
theorem i_isr {P : Int → Prop} (k : P i) : ∃ i', [D.d (.int i)] = [.d (.int i')] ∧ P i' := ⟨i, rfl, k⟩
theorem i_and2 (k : t ρ h (fun b h1 => if b = true then u ρ h1 QT E else QT false h1) E) : tAnd2 t u ρ h QT E := k
theorem i_or2 (k : t ρ h (fun b h1 => if b = true then QT true h1 else u ρ h1 QT E) E) : tOr2 t u ρ h QT E := k
theorem i_not2 (k : t ρ h (fun b h1 => QT (!b) h1) E) : tNot2 t ρ h QT E := k
theorem i_fif (k : t ρ h (fun b h1 => if b = true then fa ρ h1 Q E else fb ρ h1 Q E) E) : fIf t fa fb ρ h Q E := k
theorem i_ifT {p q : Prop} (e : b = true) (k : p) : if b = true then p else q := by rw [if_pos e]; exact k
theorem i_ifF {p q : Prop} (e : b = false) (k : q) : if b = true then p else q := by rw [e, if_neg (by decide)]; exact k
theorem i_ite {p q : Prop} (k1 : b = true → p) (k2 : b = false → q) : if b = true then p else q := by
  cases b with
  | true => rw [if_pos rfl]; exact k1 rfl
  | false => rw [if_neg (by decide)]; exact k2 rfl
theorem i_iteC {p C : Prop} (hC : C) (k : b = true → C → p) : if b = true then p else C := by
  cases b with
  | true => rw [if_pos rfl]; exact k rfl hC
  | false => rw [if_neg (by decide)]; exact hC
inductive AllD : List D → List PyData → Prop
  | nil : AllD [] []
  | cons {p : PyData} {xs : List D} {ps : List PyData} : AllD xs ps → AllD (.d p :: xs) (p :: ps)
theorem AllD.eq {xs : List D} {ps : List PyData} (a : AllD xs ps) : allD xs = some ps := by
  induction a with
  | nil => rfl
  | cons _ ih => simp only [allD, ih, Option.map_some, Option.bind_some]
theorem allD_iff : ∀ {xs : List D} {ps : List PyData}, allD xs = some ps → AllD xs ps
  | [], ps, e => by cases e; exact .nil
  | .d p :: xs, ps, e => by
    simp only [allD, Option.map_eq_some_iff] at e
    obtain ⟨qs, e1, rfl⟩ := e
    exact .cons (allD_iff e1)
  | .loc _ :: xs, ps, e => by cases e
theorem m_allD {P : List PyData → Ho → Prop} : (fun (xs : List D) (h1 : Ho) => ∃ ps, AllD xs ps ∧ P ps h1) = (fun xs h1 => match allD xs with
    | some ps => P ps h1
    | none => False) := by
  funext xs h1
  apply propext
  constructor
  · rintro ⟨ps, a, q⟩
    rw [a.eq]
    exact q
  · split
    · rename_i ps e
      exact fun q => ⟨ps, allD_iff e, q⟩
    · exact False.elim
theorem i_tup (k : ga ρ h (fun xs h1 => ∃ ps, AllD xs ps ∧ ps.length ≤ sizeLine ∧ Q (.d (.tuple ps)) h1) E) : fTup ga ρ h Q E := by
  rw [m_allD (P := fun ps h1 => ps.length ≤ sizeLine ∧ Q (.d (.tuple ps)) h1)] at k
  exact k
theorem i_lst (k : ga ρ h (fun xs h1 => ∃ ps, AllD xs ps ∧ ps.length ≤ sizeLine ∧ Q (.d (.list ps)) h1) E) : fLst ga ρ h Q E := by
  rw [m_allD (P := fun ps h1 => ps.length ≤ sizeLine ∧ Q (.d (.list ps)) h1)] at k
  exact k
theorem i_all {xs : List D} {ps : List PyData} {P : List PyData → Prop} (a : AllD xs ps) (l : ps.length ≤ sizeLine) (k : P ps) : ∃ ps, AllD xs ps ∧ ps.length ≤ sizeLine ∧ P ps := ⟨ps, a, l, k⟩
theorem i_loc (k : ga ρ h (fun xs h1 => xs.length ≤ sizeLine ∧ Q (.loc h1.length) (h1 ++ [.lst xs])) E) : fLoc ga ρ h Q E := k
/-- subscripts -/
theorem i_ix {xs : List D} (e : items h x = some xs) (ea : L2.atI xs i = some y) (k : Q y h) : rIx2 x (.d (.int i)) h Q := by
  simp only [rIx2, e, ea]
  exact k
/-- calls -/
theorem i_call {r : WR} (k : ga ρ h (fun xs h1 => r xs h1 Q) E) : fCall r ga ρ h Q E := k
theorem i_fn {F : WF} (k : ga ρ h (fun xs h1 => F xs h1 Q E) E) : fFn F ga ρ h Q E := k
theorem i_fnk {F : WF} {ix : List Nat} {n : Nat} (k : ga ρ h (fun xs h1 => xs.length = n ∧ ∃ ys, V2.pick ix xs = ys ∧ F ys h1 Q E) E) : fFnK ix n F ga ρ h Q E := by
  have e : (fun (xs : List D) (h1 : Ho) => xs.length = n ∧ ∃ ys, V2.pick ix xs = ys ∧ F ys h1 Q E) = (fun xs h1 => xs.length = n ∧ F (V2.pick ix xs) h1 Q E) := by
    funext xs h1
    apply propext
    exact ⟨fun ⟨a, ys, e, q⟩ => ⟨a, by rw [e]; exact q⟩, fun ⟨a, q⟩ => ⟨a, _, rfl, q⟩⟩
  rw [e] at k
  exact k
theorem i_pk1 {P : List D → Prop} (k : P [x]) : [x].length = 1 ∧ ∃ ys, V2.pick [0] [x] = ys ∧ P ys := ⟨rfl, _, rfl, k⟩
theorem i_pk2 {P : List D → Prop} (k : P [y, x]) : [x, y].length = 2 ∧ ∃ ys, V2.pick [1, 0] [x, y] = ys ∧ P ys := ⟨rfl, _, rfl, k⟩
theorem i_abs (k : Q (.d (.int (if i < 0 then -i else i))) h) : rAbs [.d (.int i)] h Q := k
theorem i_toint (k : Q (.d (.int i)) h) : rInt1 [.d (.int i)] h Q := k
theorem i_gcd (k : Q (.d (.int (Nat.gcd i.natAbs j.natAbs : Nat))) h) : rGcd2 [.d (.int i), .d (.int j)] h Q := k
theorem i_len {xs : List D} (e : items h x = some xs) (k : Q (.d (.int xs.length)) h) : rLen [x] h Q := by
  simp only [rLen, e]
  exact k
theorem i_repr {p : PyData} (hs : p.showable = true) (hd : p.depth < 60) (hz : p.shown.length ≤ sizeLine) (k : Q (.d (.str p.shown)) h) : rRepr [.d p] h Q := ⟨hs, hd, hz, k⟩
theorem i_fand (k : fa ρ h (fun x h1 => ∃ b, x = .d (.bool b) ∧ if b = true then fb ρ h1 Q E else Q (.d (.bool false)) h1) E) : fAnd fa fb ρ h Q E := by
  have e : (fun (x : D) (h1 : Ho) => ∃ b, x = .d (.bool b) ∧ if b = true then fb ρ h1 Q E else Q (.d (.bool false)) h1) = (fun x h1 => match x with
      | .d (.bool true) => fb ρ h1 Q E
      | .d (.bool false) => Q (.d (.bool false)) h1
      | _ => False) := by
    funext x h1
    apply propext
    constructor
    · rintro ⟨b, rfl, q⟩
      cases b with
      | true => simpa using q
      | false => simpa using q
    · split
      · exact fun q => ⟨true, rfl, by simpa using q⟩
      · exact fun q => ⟨false, rfl, by simpa using q⟩
      · exact False.elim
  rw [e] at k
  exact k
/-- statements -/
theorem i_mir {xs : List D} {n m : Nat} {l : En} (hl : xs.length = m) (p : Pad (n - m) l) (q : Pre xs l ρ) (k : f ρ h ⟨fun _ h => Q (.d .none) h, Q, fun _ _ => False, fun _ _ => False, fun x _ h => E x h⟩) : mir n m f xs h Q E := by
  refine ⟨hl, ?_⟩
  rw [← p.eq, q.eq]
  exact k
theorem i_seq (k : f ρ h ⟨fun ρ1 h1 => g ρ1 h1 ⟨nx, rt, bk, ct, ex⟩, rt, bk, ct, ex⟩) : sSeq f g ρ h ⟨nx, rt, bk, ct, ex⟩ := k
theorem i_next (k : nx ρ h) : sNext ρ h ⟨nx, rt, bk, ct, ex⟩ := k
theorem i_ret (k : fa ρ h rt (fun x h => ex x ρ h)) : sRet fa ρ h ⟨nx, rt, bk, ct, ex⟩ := k
theorem i_drop (k : fa ρ h (fun _ h1 => nx ρ h1) (fun x h => ex x ρ h)) : sDrop fa ρ h ⟨nx, rt, bk, ct, ex⟩ := k
theorem i_brk (k : bk ρ h) : sBrk ρ h ⟨nx, rt, bk, ct, ex⟩ := k
theorem i_cnt (k : ct ρ h) : sCnt ρ h ⟨nx, rt, bk, ct, ex⟩ := k
theorem i_if (k : t ρ h (fun b h1 => if b = true then f ρ h1 ⟨nx, rt, bk, ct, ex⟩ else g ρ h1 ⟨nx, rt, bk, ct, ex⟩) (fun x h => ex x ρ h)) : sIf t f g ρ h ⟨nx, rt, bk, ct, ex⟩ := k
theorem i_asgn {n : Nat} (k : fa ρ h (fun x h1 => ∃ ρ1, SetAt n ρ x ρ1 ∧ nx ρ1 h1) (fun x h => ex x ρ h)) (hn : n < ρ.length) : sAsg fa (gNm n) ρ h ⟨nx, rt, bk, ct, ex⟩ := by
  have e : (fun (x : D) (h1 : Ho) => ∃ ρ1, SetAt n ρ x ρ1 ∧ nx ρ1 h1) = fun x h1 => nx (ρ.set n (some x)) h1 := by
    funext x h1
    apply propext
    constructor
    · rintro ⟨ρ1, s, q⟩
      rw [s.eq]
      exact q
    · intro q
      refine ⟨_, ?_, q⟩
      clear k q
      induction n generalizing ρ with
      | zero =>
        cases ρ with
        | nil => exact absurd hn (by simp)
        | cons a l => exact .zero
      | succ n ih =>
        cases ρ with
        | nil => exact absurd hn (by simp)
        | cons a l => exact .succ (ih (by simpa using hn))
  rw [e] at k
  exact k
theorem i_set {n : Nat} {P : En → Prop} (s : SetAt n ρ x ρ1) (k : P ρ1) : ∃ ρ1, SetAt n ρ x ρ1 ∧ P ρ1 := ⟨ρ1, s, k⟩
/-- a, b = a pair -/
theorem i_asg2 {n m : Nat} (k : fa ρ h (fun x h1 => ∃ p q ρ1 ρ2, x = .d (.tuple [p, q]) ∧ SetAt n ρ (.d p) ρ1 ∧ SetAt m ρ1 (.d q) ρ2 ∧ nx ρ2 h1) (fun x h => ex x ρ h)) (mo : ∀ (P P' : KD), (∀ x h, P x h → P' x h) → fa ρ h P (fun x h => ex x ρ h) → fa ρ h P' (fun x h => ex x ρ h)) : sAsg fa (gTp 2 (gsCons (gNm n) (gsCons (gNm m) gsNil))) ρ h ⟨nx, rt, bk, ct, ex⟩ := by
  refine mo _ _ (fun x h1 => ?_) k
  rintro ⟨p, q, ρ1, ρ2, rfl, s1, s2, hq⟩
  have e : gTp 2 (gsCons (gNm n) (gsCons (gNm m) gsNil)) (.d (.tuple [p, q])) h1 ρ = some ρ2 := by
    simp only [gTp, items, List.map_cons, List.map_nil, List.length_cons, List.length_nil, if_true, gsCons, gNm, gsNil, Option.bind_some, s1.eq, s2.eq]
  rw [e]
  exact hq
theorem mo_var {n : Nat} (P P' : KD) (p : ∀ x h, P x h → P' x h) : fVar n ρ h P E → fVar n ρ h P' E := by
  unfold fVar
  split
  · exact p _ _
  · exact id
theorem i_asg2v {n m l : Nat} {p q : PyData} (e : GetAt l ρ (.d (.tuple [p, q]))) (s1 : SetAt n ρ (.d p) ρ1) (s2 : SetAt m ρ1 (.d q) ρ2) (k : nx ρ2 h) : sAsg (fVar l) (gTp 2 (gsCons (gNm n) (gsCons (gNm m) gsNil))) ρ h ⟨nx, rt, bk, ct, ex⟩ :=
  i_asg2 (i_var e ⟨p, q, ρ1, ρ2, rfl, s1, s2, k⟩) fun P P' hp => mo_var P P' hp
theorem i_par {n m : Nat} (k : ga ρ h (fun xs h1 => ∃ x y ρ1 ρ2, xs = [x, y] ∧ SetAt n ρ x ρ1 ∧ SetAt m ρ1 y ρ2 ∧ nx ρ2 h1) (fun x h => ex x ρ h)) (hn : n < ρ.length) (hm : m < ρ.length) : sPar n m ga ρ h ⟨nx, rt, bk, ct, ex⟩ := by
  have st : ∀ (n : Nat) (ρ : En) (x : D), n < ρ.length → SetAt n ρ x (ρ.set n (some x)) := by
    intro n
    induction n with
    | zero =>
      intro ρ x hn
      cases ρ with
      | nil => exact absurd hn (by simp)
      | cons a l => exact .zero
    | succ n ih =>
      intro ρ x hn
      cases ρ with
      | nil => exact absurd hn (by simp)
      | cons a l => exact .succ (ih _ _ (by simpa using hn))
  have e : (fun (xs : List D) (h1 : Ho) => ∃ x y ρ1 ρ2, xs = [x, y] ∧ SetAt n ρ x ρ1 ∧ SetAt m ρ1 y ρ2 ∧ nx ρ2 h1) = (fun xs h1 => match xs with
      | [x, y] => nx ((ρ.set n (some x)).set m (some y)) h1
      | _ => False) := by
    funext xs h1
    apply propext
    constructor
    · rintro ⟨x, y, ρ1, ρ2, rfl, s1, s2, hq⟩
      simp only
      rw [s1.eq, s2.eq]
      exact hq
    · split
      · intro hq
        exact ⟨_, _, _, _, rfl, st _ _ _ hn, st _ _ _ (by simpa using hm), hq⟩
      · exact False.elim
  rw [e] at k
  exact k
theorem i_pair {n m : Nat} {P : En → Prop} (s1 : SetAt n ρ x ρ1) (s2 : SetAt m ρ1 y ρ2) (k : P ρ2) : ∃ x' y' ρ1 ρ2, [x, y] = [x', y'] ∧ SetAt n ρ x' ρ1 ∧ SetAt m ρ1 y' ρ2 ∧ P ρ2 := ⟨x, y, ρ1, ρ2, rfl, s1, s2, k⟩
theorem i_par3 {n m l : Nat} (k : ga ρ h (fun xs h1 => ∃ x y z ρ1 ρ2 ρ3, xs = [x, y, z] ∧ SetAt n ρ x ρ1 ∧ SetAt m ρ1 y ρ2 ∧ SetAt l ρ2 z ρ3 ∧ nx ρ3 h1) (fun x h => ex x ρ h)) (hn : n < ρ.length) (hm : m < ρ.length) (hl : l < ρ.length) : sPar3 n m l ga ρ h ⟨nx, rt, bk, ct, ex⟩ := by
  have st : ∀ (n : Nat) (ρ : En) (x : D), n < ρ.length → SetAt n ρ x (ρ.set n (some x)) := by
    intro n
    induction n with
    | zero =>
      intro ρ x hn
      cases ρ with
      | nil => exact absurd hn (by simp)
      | cons a l => exact .zero
    | succ n ih =>
      intro ρ x hn
      cases ρ with
      | nil => exact absurd hn (by simp)
      | cons a l => exact .succ (ih _ _ (by simpa using hn))
  have e : (fun (xs : List D) (h1 : Ho) => ∃ x y z ρ1 ρ2 ρ3, xs = [x, y, z] ∧ SetAt n ρ x ρ1 ∧ SetAt m ρ1 y ρ2 ∧ SetAt l ρ2 z ρ3 ∧ nx ρ3 h1) = (fun xs h1 => match xs with
      | [x, y, z] => nx (((ρ.set n (some x)).set m (some y)).set l (some z)) h1
      | _ => False) := by
    funext xs h1
    apply propext
    constructor
    · rintro ⟨x, y, z, ρ1, ρ2, ρ3, rfl, s1, s2, s3, hq⟩
      simp only
      rw [s1.eq, s2.eq, s3.eq]
      exact hq
    · split
      · intro hq
        exact ⟨_, _, _, _, _, _, rfl, st _ _ _ hn, st _ _ _ (by simpa using hm), st _ _ _ (by simpa using hl), hq⟩
      · exact False.elim
  rw [e] at k
  exact k
theorem i_trip {n m l : Nat} {P : En → Prop} (s1 : SetAt n ρ x ρ1) (s2 : SetAt m ρ1 y ρ2) (s3 : SetAt l ρ2 z ρ3) (k : P ρ3) : ∃ x' y' z' ρ1 ρ2 ρ3, [x, y, z] = [x', y', z'] ∧ SetAt n ρ x' ρ1 ∧ SetAt m ρ1 y' ρ2 ∧ SetAt l ρ2 z' ρ3 ∧ P ρ3 := ⟨x, y, z, ρ1, ρ2, ρ3, rfl, s1, s2, s3, k⟩
theorem i_raise {cn fld : Str} (k : ga ρ h (fun xs h1 => ∃ y, xs = [y] ∧ ex ⟨cn, some (fld, y)⟩ ρ h1) (fun x h => ex x ρ h)) : sRaise cn fld ga ρ h ⟨nx, rt, bk, ct, ex⟩ := by
  have e : (fun (xs : List D) (h1 : Ho) => ∃ y, xs = [y] ∧ ex ⟨cn, some (fld, y)⟩ ρ h1) = (fun xs h1 => match xs with
      | [y] => ex ⟨cn, some (fld, y)⟩ ρ h1
      | _ => False) := by
    funext xs h1
    apply propext
    constructor
    · rintro ⟨j, rfl, hq⟩; exact hq
    · split
      · exact fun hq => ⟨_, rfl, hq⟩
      · exact False.elim
  rw [e] at k
  exact k
theorem i_one {P : D → Prop} (k : P x) : ∃ y, [x] = [y] ∧ P y := ⟨x, rfl, k⟩
/-- for -/
theorem for_ind {st : Ho → Prop} {wg : WG} {xs : List D} (I : Nat → En → Ho → Prop)
    (hs : ∀ k x ρ h (G : En → Ho → Prop), xs[k]? = some x → I k ρ h → (∀ ρ2 h2, I (k + 1) ρ2 h2 → G ρ2 h2) → ∃ ρ1, wg x h ρ = some ρ1 ∧ f ρ1 h ⟨fun ρ2 h2 => st h2 ∧ G ρ2 h2, rt, nx, fun ρ2 h2 => st h2 ∧ G ρ2 h2, ex⟩)
    (he : ∀ ρ h, I xs.length ρ h → nx ρ h) (h0 : I 0 ρ h) : forGo wg f ⟨nx, rt, bk, ct, ex⟩ st xs ρ h := by
  have aux : ∀ (ys : List D) (k : Nat), (∀ j, ys[j]? = xs[k + j]?) → k + ys.length = xs.length → ∀ ρ h, I k ρ h → forGo wg f ⟨nx, rt, bk, ct, ex⟩ st ys ρ h := by
    intro ys
    induction ys with
    | nil => intro k _ hl ρ h hi; exact he ρ h (by rw [← hl]; simpa using hi)
    | cons y ys ih =>
      intro k hj hl ρ h hi
      obtain ⟨ρ1, e1, e2⟩ := hs k y ρ h (fun ρ2 h2 => forGo wg f ⟨nx, rt, bk, ct, ex⟩ st ys ρ2 h2) (by rw [← Nat.add_zero k, ← hj 0]; rfl) hi (fun ρ2 h2 i2 => ih (k + 1) (fun j => by rw [Nat.add_assoc, Nat.add_comm 1 j, ← hj (j + 1)]; rfl) (by rw [← hl, List.length_cons]; omega) ρ2 h2 i2)
      unfold forGo
      rw [e1]
      exact e2
  exact aux xs 0 (fun j => by rw [Nat.zero_add]) (by simp) ρ h h0
theorem i_for {wi : WI} {wg : WG} (k : wi ρ h (fun xs st h1 => forGo wg f ⟨nx, rt, bk, ct, ex⟩ st xs ρ h1) (fun x h => ex x ρ h)) : sFor wi wg f ρ h ⟨nx, rt, bk, ct, ex⟩ := k
theorem i_range1 {QI : List D → (Ho → Prop) → Ho → Prop} (k : ga ρ h (fun ys h1 => ∃ j, ys = [.d (.int j)] ∧ -(2 ^ 62) ≤ j ∧ j < 2 ^ 62 ∧ QI (rangeD 0 j.toNat) (fun _ => True) h1) E) : iRange1 ga ρ h QI E := by
  have e : (fun (ys : List D) (h1 : Ho) => ∃ j, ys = [.d (.int j)] ∧ -(2 ^ 62) ≤ j ∧ j < 2 ^ 62 ∧ QI (rangeD 0 j.toNat) (fun _ => True) h1) = (fun ys h1 => match ys with
      | [.d (.int j)] => -(2 ^ 62) ≤ j ∧ j < 2 ^ 62 ∧ QI (rangeD 0 j.toNat) (fun _ => True) h1
      | _ => False) := by
    funext ys h1
    apply propext
    constructor
    · rintro ⟨j, rfl, hq⟩; exact hq
    · split
      · exact fun hq => ⟨_, rfl, hq⟩
      · exact False.elim
  rw [e] at k
  exact k
theorem i_iseq {QI : List D → (Ho → Prop) → Ho → Prop} {xs : List D} {n : Nat} (e : GetAt n ρ x) (ei : items h x = some xs) (k : QI xs (stay x xs) h) : iSeq (fVar n) ρ h QI E := by
  refine i_var e ?_
  simp only [ei]
  exact k
/-- comprehensions whose list is data: test and item leave the store alone -/
theorem lc_ind {st : Ho → Prop} {wg : WG} {tt : WT} {te : WE} {hb : Ho} {QH : Ho → Prop} {xs : List D} (I : Nat → List D → Prop) (hst : ∀ h, st h)
    (hs : ∀ k x acc, xs[k]? = some x → I k acc → ∃ ρ1 b, wg x (hb ++ [.lst acc]) ρ = some ρ1 ∧ (∀ P : Bool → Ho → Prop, P b (hb ++ [.lst acc]) → tt ρ1 (hb ++ [.lst acc]) P noX) ∧
      (b = true → ∃ y, (∀ P : KD, P y (hb ++ [.lst acc]) → te ρ1 (hb ++ [.lst acc]) P noX) ∧ acc.length < sizeLine ∧ I (k + 1) (acc ++ [y])) ∧ (b = false → I (k + 1) acc))
    (he : ∀ acc, I xs.length acc → QH (hb ++ [.lst acc])) (h0 : I 0 []) : lcGo wg tt te st hb.length ρ QH xs (hb ++ [.lst []]) := by
  have aux : ∀ (ys : List D) (k : Nat), (∀ j, ys[j]? = xs[k + j]?) → k + ys.length = xs.length → ∀ acc, I k acc → lcGo wg tt te st hb.length ρ QH ys (hb ++ [.lst acc]) := by
    intro ys
    induction ys with
    | nil => intro k _ hl acc hi; exact he acc (by rw [← hl]; simpa using hi)
    | cons y ys ih =>
      intro k hj hl acc hi
      obtain ⟨ρ1, b, e1, e2, e3, e4⟩ := hs k y acc (by rw [← Nat.add_zero k, ← hj 0]; rfl) hi
      have ihk := ih (k + 1) (fun j => by rw [Nat.add_assoc, Nat.add_comm 1 j, ← hj (j + 1)]; rfl) (by rw [← hl, List.length_cons]; omega)
      unfold lcGo
      rw [e1]
      refine e2 _ ?_
      cases b with
      | true =>
        rw [if_pos rfl]
        obtain ⟨z, f1, f2, f3⟩ := e3 rfl
        refine f1 _ ?_
        have g1 : (hb ++ [O.lst acc])[hb.length]? = some (.lst acc) := by simp
        have g2 : (hb ++ [O.lst acc]).set hb.length (.lst (acc ++ [z])) = hb ++ [.lst (acc ++ [z])] := by simp
        simp only [g1, g2]
        exact ⟨f2, hst _, ihk _ f3⟩
      | false =>
        rw [if_neg (by decide)]
        exact ⟨hst _, ihk _ (e4 rfl)⟩
  exact aux xs 0 (fun j => by rw [Nat.zero_add]) (by simp) [] h0
end
end V2
set_option Elab.async false
set_option linter.all false
set_option maxRecDepth 100000
set_option maxHeartbeats 4000000
/-! ## Fractions as data -/
namespace V2
open PySem PySem.Spec PyProof.Rows L2
abbrev fr (q : Rat) : PyData := .tuple [.int q.num, .int q.den]
theorem fr_shaped (q : Rat) : SeqAt.shaped (fr q) = true := rfl
theorem fr_noint (q : Rat) : ∀ i, fr q ≠ .int i := fun i e => by cases e
theorem fr_inj {a b : Rat} (h1 : a.num = b.num) (h2 : (a.den : Int) = b.den) : a = b := Rat.ext h1 (by exact_mod_cast h2)
theorem fr_eqv (a b : Rat) : PyData.eqv (fr a) (fr b) = decide (a = b) := by
  by_cases e : a = b
  · subst e
    simp [fr, PyData.eqv, PyData.eqvAll]
  · rw [decide_eq_false e]
    have : ¬ (a.num = b.num ∧ (a.den : Int) = b.den) := fun z => e (fr_inj z.1 z.2)
    simp only [fr, PyData.eqv, PyData.eqvAll, Bool.and_true, Bool.and_eq_false_iff, beq_eq_false_iff_ne, ne_eq]
    by_cases h1 : a.num = b.num
    · exact .inr fun z => this ⟨h1, z⟩
    · exact .inl h1
/-- no greater than n binary figures -/
def Sz (n : Nat) (q : Rat) : Prop := q.num.natAbs < 2 ^ n ∧ q.den < 2 ^ n
theorem log2_lt {k n : Nat} (hk : 0 < n) (h : k < 2 ^ n) : k.log2 < n := by
  by_cases z : k = 0
  · subst z; have e : Nat.log2 0 = 0 := by decide
    rw [e]; exact hk
  · exact (Nat.log2_lt z).mpr h
theorem Sz.mono {n m : Nat} {q : Rat} (s : Sz n q) (h : n ≤ m) : Sz m q :=
  ⟨Nat.lt_of_lt_of_le s.1 (Nat.pow_le_pow_right (by decide) h), Nat.lt_of_lt_of_le s.2 (Nat.pow_le_pow_right (by decide) h)⟩
theorem Sz.neg {n : Nat} {q : Rat} (s : Sz n q) : Sz n (-q) := ⟨by rw [Rat.neg_num, Int.natAbs_neg]; exact s.1, by rw [Rat.neg_den]; exact s.2⟩
theorem mul_lt_pow {a b n m : Nat} (h1 : a < 2 ^ n) (h2 : b < 2 ^ m) : a * b < 2 ^ (n + m) := by
  rw [Nat.pow_add]
  exact Nat.mul_lt_mul'' h1 h2
theorem Sz.mk' {n : Nat} {p : Int} {q : Nat} (z : q ≠ 0) (h1 : p.natAbs < 2 ^ n) (h2 : q < 2 ^ n) : Sz n (mkRat p q) := by
  unfold Sz
  rw [Rat.num_mkRat, Rat.den_mkRat, if_neg z, if_neg z]
  refine ⟨?_, Nat.lt_of_le_of_lt (Nat.div_le_self _ _) h2⟩
  rw [Int.natAbs_ediv_of_dvd (Int.ofNat_dvd_left.2 (Nat.gcd_dvd_right _ _)), Int.natAbs_natCast]
  exact Nat.lt_of_le_of_lt (Nat.div_le_self _ _) h1
theorem den_mul_ne (a b : Rat) : a.den * b.den ≠ 0 := Nat.mul_ne_zero a.den_nz b.den_nz
theorem add_mk (a b : Rat) : a + b = mkRat (a.num * b.den + b.num * a.den) (a.den * b.den) := by
  conv => lhs; rw [← Rat.mkRat_self a, ← Rat.mkRat_self b, Rat.mkRat_add_mkRat _ _ a.den_nz b.den_nz]
theorem mul_mk (a b : Rat) : a * b = mkRat (a.num * b.num) (a.den * b.den) := by
  conv => lhs; rw [← Rat.mkRat_self a, ← Rat.mkRat_self b, Rat.mkRat_mul_mkRat]
theorem Sz.mul {n m : Nat} {a b : Rat} (s : Sz n a) (t : Sz m b) : Sz (n + m) (a * b) := by
  rw [mul_mk]
  exact .mk' (den_mul_ne a b) (by rw [Int.natAbs_mul]; exact mul_lt_pow s.1 t.1) (mul_lt_pow s.2 t.2)
theorem Sz.add {n m : Nat} {a b : Rat} (s : Sz n a) (t : Sz m b) : Sz (n + m + 1) (a + b) := by
  rw [add_mk]
  have h1 : (a.num * b.den).natAbs < 2 ^ (n + m) := by rw [Int.natAbs_mul]; exact mul_lt_pow s.1 t.2
  have h2 : (b.num * a.den).natAbs < 2 ^ (n + m) := by rw [Int.natAbs_mul, Nat.mul_comm]; exact mul_lt_pow s.2 t.1
  have h3 := Int.natAbs_add_le (a.num * b.den) (b.num * a.den)
  have h4 := mul_lt_pow s.2 t.2
  exact .mk' (den_mul_ne a b) (by rw [Nat.pow_succ]; omega) (by rw [Nat.pow_succ]; omega)
theorem Sz.sub {n m : Nat} {a b : Rat} (s : Sz n a) (t : Sz m b) : Sz (n + m + 1) (a - b) := by
  rw [Rat.sub_eq_add_neg]
  exact s.add t.neg
/-! ### the text of data made of ints -/
theorem shown_int_len {i : Int} {n : Nat} (h0 : 0 < n) (h : i.natAbs < 2 ^ n) : (PyData.int i).shown.length ≤ n + 1 := by
  have e := int_text_length_le10 (k := n) h0 (Nat.lt_of_lt_of_le h (Nat.pow_le_pow_left (by decide) n))
  show (Str.ofString (toString i)).length ≤ n + 1
  rw [PySem.ofString_length]; exact e
theorem fr_leaves {q : Rat} {n : Nat} (h0 : 0 < n) (s : Sz n q) : PyData.leavesShort (n + 1) (fr q) = true := by
  simp only [fr, PyData.leavesShort, PyData.leavesShortAll, Bool.and_true, Bool.and_eq_true, decide_eq_true_eq]
  exact ⟨shown_int_len h0 s.1, shown_int_len h0 (by simpa using s.2)⟩
theorem fr_showable {q : Rat} {n : Nat} (h0 : 0 < n) (hn : n ≤ 1920) (s : Sz n q) : (fr q).showable = true := by
  have h1 := log2_lt h0 s.1
  have h2 := log2_lt h0 s.2
  simp only [fr, PyData.showable, PyData.showableAll, Bool.and_true, Bool.and_eq_true, decide_eq_true_eq, Int.natAbs_natCast]
  omega
theorem fr_len {q : Rat} {n : Nat} (h0 : 8 ≤ n) (hn : n ≤ 1920) (s : Sz n q) : (fr q).shown.length ≤ sizeLine := by
  have h := PyData.shown_le_bulk (n + 1) (by omega) (fr q) (fr_leaves (by omega) s)
  have e : (fr q).bulk = 2 := rfl
  rw [e] at h
  have : sizeLine = 2 ^ 24 := rfl
  omega
/-! ### quotients -/
theorem fdiv_nat (i : Int) (k : Nat) : i.fdiv k = i / (k : Int) := Int.fdiv_eq_ediv_of_nonneg i (Int.natCast_nonneg k)
theorem natAbs_div_le (i : Int) {k : Nat} (h : (k : Int) ∣ i) : (i / (k : Int)).natAbs ≤ i.natAbs := by
  rw [Int.natAbs_ediv_of_dvd h, Int.natAbs_natCast]
  exact Nat.div_le_self _ _
theorem cdiv_nat {i : Int} {k n : Nat} (h0 : k ≠ 0) (hn : 0 < n) (h : k < 2 ^ n) (h2 : n ≤ 9000) : CDivA i (k : Int) := by
  refine ⟨by exact_mod_cast h0, ?_⟩
  rw [Int.natAbs_natCast]
  exact Nat.lt_of_lt_of_le (log2_lt hn h) h2
theorem cmul {i j : Int} {n : Nat} (hn : 0 < n) (h1 : i.natAbs < 2 ^ n) (h2 : j.natAbs < 2 ^ n) (h : n ≤ 9000) : CMulW i j := by
  have a := log2_lt hn h1
  have b := log2_lt hn h2
  unfold CMulW
  omega
/-- what is told as top and bottom, in lowest terms -/
theorem low_eq {p : Int} {q : Nat} (h : q ≠ 0) : fr (mkRat p q) = .tuple [.int (p.fdiv (Nat.gcd p.natAbs q : Nat)), .int ((q : Int).fdiv (Nat.gcd p.natAbs q : Nat))] := by
  unfold fr
  rw [Rat.num_mkRat, Rat.den_mkRat, if_neg h, if_neg h, fdiv_nat, fdiv_nat, Nat.gcd_comm q p.natAbs, Int.natCast_ediv]
end V2
set_option Elab.async false
set_option linter.all false
set_option maxRecDepth 100000
set_option maxHeartbeats 4000000
namespace V2
def big : Nat := 4000
open PySem PySem.Spec PyProof.Rows L2
theorem plus_eq (a b : Rat) {g g2 : Nat} {t s' top : Int} (hg : g = Nat.gcd a.den b.den) (ht : t = (a.den : Int).fdiv (g : Nat)) (hs : s' = (b.den : Int).fdiv (g : Nat)) (htop : top = a.num * s' + b.num * t) (hg2 : g2 = Nat.gcd top.natAbs g) :
    fr (a + b) = .tuple [.int (top.fdiv (g2 : Nat)), .int (t * (b.den : Int).fdiv (g2 : Nat))] := by
  have hq := Nat.pos_of_ne_zero a.den_nz
  have hb := Nat.pos_of_ne_zero b.den_nz
  have gp : 0 < g := by rw [hg]; exact Nat.gcd_pos_of_pos_left _ hq
  obtain ⟨q', eq⟩ : g ∣ a.den := by rw [hg]; exact Nat.gcd_dvd_left _ _
  obtain ⟨r', er⟩ : g ∣ b.den := by rw [hg]; exact Nat.gcd_dvd_right _ _
  have e1 : a.den / g = q' := by rw [eq, Nat.mul_div_cancel_left _ gp]
  have e2 : b.den / g = r' := by rw [er, Nat.mul_div_cancel_left _ gp]
  have t1 : t = (q' : Int) := by rw [ht, fdiv_nat, ← Int.natCast_ediv, e1]
  have s1 : s' = (r' : Int) := by rw [hs, fdiv_nat, ← Int.natCast_ediv, e2]
  have aux := Rat.add.aux a b hg rfl rfl
  rw [e1, e2] at aux
  simp only at aux
  have htop' : top = a.num * (r' : Int) + b.num * (q' : Int) := by rw [htop, s1, t1]
  rw [← htop', ← hg2] at aux
  have q'p : 0 < q' := Nat.pos_of_ne_zero fun z => by subst z; simp at eq; omega
  have dn : q' * b.den ≠ 0 := Nat.mul_ne_zero (by omega) (by omega)
  have ev : a + b = mkRat top (q' * b.den) := by
    rw [add_mk, Rat.mkRat_eq_iff (den_mul_ne a b) dn, htop', eq, er]
    simp only [Int.natCast_mul]
    grind
  rw [ev, low_eq dn, ← aux, t1]
  congr 3
  have d2 : g2 ∣ b.den := by rw [hg2]; exact Nat.dvd_trans (Nat.gcd_dvd_right _ _) ⟨r', er⟩
  rw [fdiv_nat, fdiv_nat, ← Int.natCast_ediv, ← Int.natCast_ediv, Nat.mul_div_assoc _ d2, Int.natCast_mul]
theorem divExact_eq (i : Int) {k : Int} (h : k ∣ i) : i.divExact k h = i / k := by
  exact Int.divExact_eq_ediv h
theorem times_eq (a b : Rat) {g1 g2 : Nat} (h1 : g1 = Nat.gcd a.num.natAbs b.den) (h2 : g2 = Nat.gcd b.num.natAbs a.den) :
    fr (a * b) = .tuple [.int ((a.num.fdiv (g1 : Nat)) * (b.num.fdiv (g2 : Nat))), .int (((a.den : Int).fdiv (g2 : Nat)) * ((b.den : Int).fdiv (g1 : Nat)))] := by
  show fr (Rat.mul a b) = _
  rw [Rat.mul.eq_1]
  unfold fr
  simp only [Int.divExact_eq_ediv, Nat.divExact_eq_div, fdiv_nat, ← h1, ← h2, Int.natCast_mul, Int.natCast_ediv]
theorem neg_eq (a : Rat) : fr (-a) = .tuple [.int (-a.num), .int a.den] := by
  unfold fr
  rw [Rat.neg_num, Rat.neg_den]
theorem inv_pos (b : Rat) (h : 0 < b.num) : fr b⁻¹ = .tuple [.int b.den, .int b.num] := by
  show fr (Rat.inv b) = _
  rw [Rat.inv.eq_1, dif_neg (by omega), dif_pos h]
  unfold fr
  simp only [Int.natAbs_of_nonneg (Int.le_of_lt h)]
theorem inv_neg (b : Rat) (h : b.num < 0) : fr b⁻¹ = .tuple [.int (-b.den), .int (-b.num)] := by
  show fr (Rat.inv b) = _
  rw [Rat.inv.eq_1, dif_pos h]
  unfold fr
  simp only [Int.ofNat_natAbs_of_nonpos (Int.le_of_lt h)]
theorem Sz.inv {n : Nat} {b : Rat} (s : Sz n b) (h : b ≠ 0) : Sz n b⁻¹ := by
  have hz : b.num ≠ 0 := fun z => h (Rat.num_eq_zero.1 z)
  show Sz n (Rat.inv b)
  rw [Rat.inv.eq_1]
  by_cases c : b.num < 0
  · rw [dif_pos c]
    exact ⟨by show (-(b.den : Int)).natAbs < _; rw [Int.natAbs_neg, Int.natAbs_natCast]; exact s.2, s.1⟩
  · rw [dif_neg c, dif_pos (by omega)]
    exact ⟨by show ((b.den : Int)).natAbs < _; rw [Int.natAbs_natCast]; exact s.2, s.1⟩
theorem Sz.div {n m : Nat} {a b : Rat} (s : Sz n a) (t : Sz m b) (h : b ≠ 0) : Sz (n + m) (a / b) := by
  rw [Rat.div_def]
  exact s.mul (t.inv h)
theorem num_zero {b : Rat} : b.num = 0 ↔ b = 0 := Rat.num_eq_zero
theorem v_fdiv_le (i : Int) (k : Nat) : (i.fdiv (k : Int)).natAbs ≤ i.natAbs := by
  rw [fdiv_nat]
  exact Int.natAbs_ediv_le_natAbs i k
theorem cmulw {i j : Int} {n : Nat} (hn : 0 < n) (h1 : i.natAbs < 2 ^ n) (h2 : j.natAbs < 2 ^ n) (h : n ≤ 9000) : CMulW i j := by
  have a := log2_lt hn h1
  have b := log2_lt hn h2
  unfold CMulW
  omega
theorem cdiv_gr {i : Int} {m k n : Nat} (h0 : k ≠ 0) (hn : 0 < n) (h : k < 2 ^ n) (h2 : n ≤ 9000) : CDivA i ((Nat.gcd m k : Nat) : Int) :=
  cdiv_nat (fun z => h0 (Nat.eq_zero_of_gcd_eq_zero_right z)) hn (Nat.lt_of_le_of_lt (Nat.gcd_le_right m (Nat.pos_of_ne_zero h0)) h) h2
theorem gcd_ne {m k : Nat} (h0 : k ≠ 0) : Nat.gcd m k ≠ 0 := fun z => h0 (Nat.eq_zero_of_gcd_eq_zero_right z)
theorem gcd_lt {m k n : Nat} (h0 : k ≠ 0) (h : k < 2 ^ n) : Nat.gcd m k < 2 ^ n := Nat.lt_of_le_of_lt (Nat.gcd_le_right m (Nat.pos_of_ne_zero h0)) h
theorem nab (k : Nat) : (k : Int).natAbs = k := Int.natAbs_natCast k
end V2
set_option Elab.async false
set_option linter.all false
set_option maxRecDepth 100000
set_option maxHeartbeats 4000000
/-! ## The drawn numbers -/
namespace V2
open PySem PySem.Spec PyProof.Rows L2
abbrev cell (i : Int) : D := .d (.int i)
/-- the store behind the start of a law: the drawn numbers, and the number that is mixed -/
structure Deal (rest : Ho) (h : Ho) : Prop where
  is : ∃ (cs : List Int) (mix : Int), h = .lst (cs.map cell) :: .lst [.loc 0, cell mix] :: rest ∧ cs.length ≤ 63 ∧ (∀ c ∈ cs, 0 ≤ c) ∧ 0 ≤ mix ∧ mix < 2 ^ 31
theorem shaped_ints (cs : List Int) : SeqAt.shaped (.list (cs.map PyData.int)) = true := by
  have h1 : ∀ cs : List Int, PyData.canLayAll0 (cs.map PyData.int) = true := by
    intro cs
    induction cs with
    | nil => rfl
    | cons c cs ih => simp only [List.map_cons, PyData.canLayAll0, PyData.canLay0, ih, Bool.and_self]
  have h2 : ∀ cs : List Int, PyData.depthAll (cs.map PyData.int) ≤ 63 := by
    intro cs
    induction cs with
    | nil => exact Nat.zero_le _
    | cons c cs ih => simp only [List.map_cons, PyData.depthAll, PyData.depth]; omega
  unfold SeqAt.shaped
  simp only [PyData.canLay0, PyData.depth, Bool.and_eq_true]
  exact ⟨h1 cs, decide_eq_true (Nat.succ_le_succ (h2 cs))⟩
theorem datum_cells {cs : List Int} {rest : Ho} : datum (.lst (cs.map cell) :: rest) (.loc 0) = some (.list (cs.map PyData.int)) := by
  have e : cs.map cell = (cs.map PyData.int).map D.d := by rw [List.map_map]; rfl
  show (allD (cs.map cell)).map PyData.list = _
  rw [e, allD_map]
  rfl
theorem atI_last {α : Type} {xs : List α} {y : α} : L2.atI (xs ++ [y]) (-1) = some y := by
  unfold L2.atI ixN
  rw [if_neg (by decide), if_pos (by rw [List.length_append, List.length_singleton]; omega)]
  simp only [Option.bind_some]
  have : ((-1 : Int) + ((xs ++ [y]).length : Nat)).toNat = xs.length := by rw [List.length_append, List.length_singleton]; omega
  rw [this]
  simp
section
variable {ρ : En} {h hb : Ho} {Q : KD} {E : XD} {fa : WE} {wi : WI} {wg : WG} {tt : WT} {te : WE} {own : List Nat} {st : Ho → Prop} {xs : List D}
theorem i_sl0 {i : Nat} {j : Int} {ps : List PyData} (e : GetAt i ρ (.d (.list ps))) (k : Q (.d (.list (cut ps none (some j)))) h) : fSl (fVar i) oNone (oSome (fC (.int j))) ρ h Q E := i_var e k
theorem i_iseqG {QI : List D → (Ho → Prop) → Ho → Prop} (k : fa ρ h (fun x h1 => ∃ xs, items h1 x = some xs ∧ QI xs (stay x xs) h1) E) : iSeq fa ρ h QI E := by
  have e1 : (fun (x : D) (h1 : Ho) => ∃ xs, items h1 x = some xs ∧ QI xs (stay x xs) h1) = (fun x h1 => match items h1 x with
      | some xs => QI xs (stay x xs) h1
      | none => False) := by
    funext x h1
    apply propext
    constructor
    · rintro ⟨xs, e2, q⟩
      rw [e2]
      exact q
    · split
      · rename_i xs e3
        exact fun q => ⟨_, e3, q⟩
      · exact False.elim
  rw [e1] at k
  exact k
theorem i_lcv (k : wi ρ h (fun xs st h1 => st (h1 ++ [.lst []]) ∧ lcGo wg tt te st h1.length (wipeD ρ own) (fun h2 => ∃ hh acc ps, h2 = hh ++ [.lst acc] ∧ hh.length = h1.length ∧ (hh = h1 ∨ noRef h1.length hh = true) ∧ allD acc = some ps ∧ Q (.d (.list ps)) hh) xs (h1 ++ [.lst []])) E) : fLcV wi wg tt te own ρ h Q E := k
theorem lcv_ind {QL : List PyData → Ho → Prop} (I : Nat → List D → Prop) (hst : ∀ h, st h)
    (hs : ∀ k x acc, xs[k]? = some x → I k acc → ∃ ρ1 b, wg x (hb ++ [.lst acc]) ρ = some ρ1 ∧ (∀ P : Bool → Ho → Prop, P b (hb ++ [.lst acc]) → tt ρ1 (hb ++ [.lst acc]) P noX) ∧
      (b = true → ∃ y, (∀ P : KD, P y (hb ++ [.lst acc]) → te ρ1 (hb ++ [.lst acc]) P noX) ∧ acc.length < sizeLine ∧ I (k + 1) (acc ++ [y])) ∧ (b = false → I (k + 1) acc))
    (he : ∀ acc, I xs.length acc → ∃ ps, AllD acc ps ∧ QL ps hb) (h0 : I 0 []) :
    st (hb ++ [.lst []]) ∧ lcGo wg tt te st hb.length ρ (fun h2 => ∃ hh acc ps, h2 = hh ++ [.lst acc] ∧ hh.length = hb.length ∧ (hh = hb ∨ noRef hb.length hh = true) ∧ allD acc = some ps ∧ QL ps hh) xs (hb ++ [.lst []]) := by
  refine ⟨hst _, lc_ind I hst hs (fun acc hi => ?_) h0⟩
  obtain ⟨ps, a, q⟩ := he acc hi
  exact ⟨hb, acc, ps, rfl, rfl, .inl rfl, a.eq, q⟩
theorem stay_d {p : PyData} {xs : List D} (h : Ho) : stay (.d p) xs h := trivial
def revK (Q : KD) : KD := fun x h1 => match litems h1 x with
  | some xs => Q (.loc h1.length) (h1 ++ [.lst xs.reverse])
  | none => False
theorem i_revloc (k : fa ρ h (revK Q) E) : fRevLoc fa ρ h Q E := k
theorem revK_lst {ps : List PyData} (k : Q (.loc h.length) (h ++ [.lst (ps.map D.d).reverse])) : revK Q (.d (.list ps)) h := k
theorem allD_cells (cs : List Int) : AllD (cs.map cell) (cs.map PyData.int) := by
  induction cs with
  | nil => exact .nil
  | cons c cs ih => exact .cons ih
end
theorem i_asgG {ρ : En} {h : Ho} {fa : WE} {g : WG} {nx : En → Ho → Prop} {rt : KD} {bk ct : En → Ho → Prop} {ex : Ex → En → Ho → Prop} (k : fa ρ h (fun x h1 => ∃ ρ1, g x h1 ρ = some ρ1 ∧ nx ρ1 h1) (fun x h => ex x ρ h)) : sAsg fa g ρ h ⟨nx, rt, bk, ct, ex⟩ := by
  have e1 : (fun (x : D) (h1 : Ho) => ∃ ρ1, g x h1 ρ = some ρ1 ∧ nx ρ1 h1) = (fun x h1 => match g x h1 ρ with
      | some ρ1 => nx ρ1 h1
      | none => False) := by
    funext x h1
    apply propext
    constructor
    · rintro ⟨xs, e2, q⟩
      rw [e2]
      exact q
    · split
      · rename_i xs e3
        exact fun q => ⟨_, e3, q⟩
      · exact False.elim
  rw [e1] at k
  exact k
def tryK (i : Nat) (m : Str → Option Bool) (sf : Ex → WS) (D : Nx) : Ex → En → Ho → Prop := fun x ρ1 h1 => match m x.cls with
  | some true => i < ρ1.length ∧ sf x (ρ1.set i none) h1 (sufN i D)
  | some false => D.ex x ρ1 h1
  | none => False
theorem i_try {ρ : En} {h : Ho} {i : Nat} {m : Str → Option Bool} {f : WS} {sf : Ex → WS} {nx : En → Ho → Prop} {rt : KD} {bk ct : En → Ho → Prop} {ex : Ex → En → Ho → Prop} (k : f ρ h ⟨nx, rt, bk, ct, tryK i m sf ⟨nx, rt, bk, ct, ex⟩⟩) : sTry i m f sf ρ h ⟨nx, rt, bk, ct, ex⟩ := k
theorem nil_or_snoc {α : Type} (xs : List α) : xs = [] ∨ ∃ l c, xs = l ++ [c] := by
  rcases List.eq_nil_or_concat xs with h | ⟨l, c, h⟩
  · exact .inl h
  · exact .inr ⟨l, c, by rw [h, List.concat_eq_append]⟩
theorem mix_mul {mix : Int} (h0 : 0 ≤ mix) (h1 : mix < 2 ^ 31) : CMulW mix 48271 := cmulw (n := 31) (by decide) (by omega) (by decide) (by decide)
theorem ni_loc {n : Nat} : (∀ i, D.loc n ≠ .d (.int i)) ∧ ∀ i, D.loc n ≠ .d (.str i) := ⟨fun _ e => (by cases e), fun _ e => (by cases e)⟩
theorem ni_tup {xs : List PyData} : (∀ i, D.d (.tuple xs) ≠ .d (.int i)) ∧ ∀ i, D.d (.tuple xs) ≠ .d (.str i) := ⟨fun _ e => (by cases e), fun _ e => (by cases e)⟩
theorem ints_ne {cs : List Int} (h : cs ≠ []) : PyData.eqv (.list (cs.map PyData.int)) (.list []) = false := by
  cases cs with
  | nil => exact absurd rfl h
  | cons c cs => simp [PyData.eqv, PyData.eqvAll]
section
variable {ρ : En} {h h2 : Ho} {Q : KD} {E : XD} {fo fi fe : WE} {ga : WA} {nx : En → Ho → Prop} {rt : KD} {bk ct : En → Ho → Prop} {ex : Ex → En → Ho → Prop} {f : WS} {t : WT}
theorem i_while (I : Nat → En → Ho → Prop) {m0 : Nat} (h0 : I m0 ρ h) (he : ∀ m ρ h, I m ρ h → nx ρ h)
    (hs : (∀ m ρ h, I m ρ h → nx ρ h) → ∀ m ρ h, I m ρ h → t ρ h (fun b h1 => if b = true then f ρ h1 ⟨fun ρ' h' => ∃ m', m' < m ∧ I m' ρ' h', rt, nx, fun ρ' h' => ∃ m', m' < m ∧ I m' ρ' h', ex⟩ else nx ρ h1) (fun x h => ex x ρ h)) : sWhile t f ρ h ⟨nx, rt, bk, ct, ex⟩ :=
  ⟨I, ⟨m0, h0⟩, hs he⟩
def popK (Q : KD) : KD := fun x h1 => match x with
  | .loc n => match h1[n]? with
    | some (.lst xs) => match xs[xs.length - 1]? with
      | some y => Q y (h1.set n (.lst xs.dropLast))
      | none => False
    | _ => False
  | _ => False
theorem i_pop (k : fo ρ h (popK Q) E) : fPop fo ρ h Q E := k
theorem popK_loc {n : Nat} {xs : List D} {y : D} (e : h[n]? = some (.lst (xs ++ [y]))) (es : h.set n (.lst xs) = h2) (k : Q y h2) : popK Q (.loc n) h := by
  have e1 : (xs ++ [y])[(xs ++ [y]).length - 1]? = some y := by simp
  simp only [popK, e, e1, List.dropLast_concat, es]
  exact k
def appK (ga : WA) (ρ : En) (Q : KD) (E : XD) : KD := fun x h1 => match x with
  | .loc n => match h1[n]? with
    | some (.lst _) => ga ρ h1 (fun ys h2 => match ys, h2[n]? with
      | [y], some (.lst xs) => xs.length < sizeLine ∧ Q (.d .none) (h2.set n (.lst (xs ++ [y])))
      | _, _ => False) E
    | _ => False
  | _ => False
theorem i_append (k : fo ρ h (appK ga ρ Q E) E) : fAppend fo ga ρ h Q E := k
theorem appK_loc {n : Nat} {xs0 : List D} (e : h[n]? = some (.lst xs0)) (k : ga ρ h (fun ys h2 => ∃ y xs, ys = [y] ∧ h2[n]? = some (.lst xs) ∧ xs.length < sizeLine ∧ Q (.d .none) (h2.set n (.lst (xs ++ [y])))) E) : appK ga ρ Q E (.loc n) h := by
  have e1 : (fun (ys : List D) (h2 : Ho) => ∃ y xs, ys = [y] ∧ h2[n]? = some (.lst xs) ∧ xs.length < sizeLine ∧ Q (.d .none) (h2.set n (.lst (xs ++ [y])))) = (fun ys h2 => match ys, h2[n]? with
      | [y], some (.lst xs) => xs.length < sizeLine ∧ Q (.d .none) (h2.set n (.lst (xs ++ [y])))
      | _, _ => False) := by
    funext ys h2
    apply propext
    constructor
    · rintro ⟨y, xs, rfl, e2, q⟩
      simp only [e2]
      exact q
    · split
      · rename_i y xs e3
        exact fun q => ⟨_, _, rfl, e3, q⟩
      · exact False.elim
  rw [e1] at k
  simp only [appK, e]
  exact k
def subK (nx : En → Ho → Prop) (ρ : En) (y x z : D) (h3 : Ho) : Prop := match x, z with
  | .loc n, .d (.int k) => match h3[n]? with
    | some (.lst xs) => match ixN xs.length k with
      | some j => nx ρ (h3.set n (.lst (xs.set j y)))
      | none => False
    | _ => False
  | _, _ => False
theorem i_sub (k : fe ρ h (fun y h1 => fo ρ h1 (fun x h2 => fi ρ h2 (fun z h3 => subK nx ρ y x z h3) (fun x h => ex x ρ h)) (fun x h => ex x ρ h)) (fun x h => ex x ρ h)) : sSub fe fo fi ρ h ⟨nx, rt, bk, ct, ex⟩ := k
theorem subK_loc {n j : Nat} {i : Int} {xs : List D} {y : D} (e : h[n]? = some (.lst xs)) (ej : ixN xs.length i = some j) (es : h.set n (.lst (xs.set j y)) = h2) (k : nx ρ h2) : subK nx ρ y (.loc n) (.d (.int i)) h := by
  simp only [subK, e, ej, es]
  exact k
end
theorem div_pos {a b : Rat} (hb : 0 < b.num) : a / b = mkRat (a.num * b.den) (a.den * b.num.natAbs) := by
  have hz : b ≠ 0 := fun z => by rw [z] at hb; exact absurd hb (by decide)
  have e : mkRat (a.num * b.den) (a.den * b.num.natAbs) * b = a := by
    conv => lhs; rhs; rw [← Rat.mkRat_self b]
    rw [Rat.mkRat_mul_mkRat]
    conv => rhs; rw [← Rat.mkRat_self a]
    rw [Rat.mkRat_eq_iff (Nat.mul_ne_zero (Nat.mul_ne_zero a.den_nz (by omega)) b.den_nz) a.den_nz]
    simp only [Int.natCast_mul, Int.natAbs_of_nonneg (Int.le_of_lt hb)]
    grind
  rw [← e]
  grind
theorem div_neg {a b : Rat} (hb : b.num < 0) : a / b = mkRat (0 - a.num * b.den) (a.den * b.num.natAbs) := by
  have hz : b ≠ 0 := fun z => by rw [z] at hb; exact absurd hb (by decide)
  have e : mkRat (0 - a.num * b.den) (a.den * b.num.natAbs) * b = a := by
    conv => lhs; rhs; rw [← Rat.mkRat_self b]
    rw [Rat.mkRat_mul_mkRat]
    conv => rhs; rw [← Rat.mkRat_self a]
    rw [Rat.mkRat_eq_iff (Nat.mul_ne_zero (Nat.mul_ne_zero a.den_nz (by omega)) b.den_nz) a.den_nz]
    simp only [Int.natCast_mul, Int.ofNat_natAbs_of_nonpos (Int.le_of_lt hb)]
    grind
  rw [← e]
  grind
theorem sub_mk (a b : Rat) : a - b = mkRat (a.num * b.den - b.num * a.den) (a.den * b.den) := by
  rw [Rat.sub_eq_add_neg, add_mk, Rat.neg_num, Rat.neg_den, Int.neg_mul, Int.sub_eq_add_neg]
theorem half_mk (a : Rat) : a / 2 = mkRat a.num (2 * a.den) := by
  rw [Rat.mkRat_eq_div, Rat.natCast_mul]
  conv => lhs; rw [← Rat.mkRat_self a, Rat.mkRat_eq_div]
  have := a.den_nz
  grind
theorem Sz.half {n : Nat} {a : Rat} (s : Sz n a) : Sz (n + 1) (a / 2) := by
  rw [half_mk]
  exact .mk' (Nat.mul_ne_zero (by decide) a.den_nz) (Nat.lt_trans s.1 (by rw [Nat.pow_succ]; have := Nat.two_pow_pos n; omega)) (by have := s.2; rw [Nat.pow_succ]; omega)
theorem three_show {a b c : Rat} (sa : Sz 1000 a) (sb : Sz 1000 b) (sc : Sz 1000 c) : (PyData.list [fr a, fr b, fr c]).showable = true ∧ (PyData.list [fr a, fr b, fr c]).depth < 60 ∧ (PyData.list [fr a, fr b, fr c]).shown.length ≤ sizeLine := by
  refine ⟨?_, by show 2 < 60; decide, ?_⟩
  · simp only [PyData.showable, PyData.showableAll, Bool.and_true, Bool.and_eq_true]
    have := fr_showable (by decide) (by decide) sa
    have := fr_showable (by decide) (by decide) sb
    have := fr_showable (by decide) (by decide) sc
    simp only [PyData.showable, PyData.showableAll, Bool.and_true, Bool.and_eq_true] at *
    exact ⟨‹_›, ‹_›, ‹_›⟩
  · have h1 := PyData.shown_le_bulk 1001 (by decide) (PyData.list [fr a, fr b, fr c]) (by
      have := fr_leaves (by decide) sa
      have := fr_leaves (by decide) sb
      have := fr_leaves (by decide) sc
      simp only [PyData.leavesShort, PyData.leavesShortAll, Bool.and_true, Bool.and_eq_true] at *
      exact ⟨‹_›, ‹_›, ‹_›⟩)
    have e : (PyData.list [fr a, fr b, fr c]).bulk = 9 := rfl
    rw [e] at h1
    have : sizeLine = 2 ^ 24 := rfl
    omega
theorem i_nefr {x y : Rat} {h : Ho} {Q : KD} (e : x = y) (k : Q (.d (.bool false)) h) : rNe2 (.d (fr x)) (.d (fr y)) h Q := by
  subst e
  refine i_ned rfl rfl rfl rfl ni_tup ?_
  rw [fr_eqv, decide_eq_true rfl]
  exact k
def halfR : Rat := ⟨1, 2, by decide, by decide⟩
theorem halfR_eq (a : Rat) : a / 2 = halfR * a := by
  have e : halfR = 1 / 2 := by
    unfold halfR
    rw [Rat.mk_eq_mkRat, Rat.mkRat_eq_div]
    simp
  rw [e]
  grind
theorem halved {i x y : Nat} (c : 0 < y) (hp : (i = 0 ∧ x * y < 2 ^ 8000) ∨ (0 < i ∧ y < x ∧ x * y < 2 ^ (8001 - i))) : y * (x % y) < 2 ^ (8001 - (i + 1)) := by
  have e : 8001 - (i + 1) = 8000 - i := by omega
  rw [e]
  have h1 : x % y < y := Nat.mod_lt _ c
  rcases hp with ⟨rfl, hp⟩ | ⟨_, hx, hp⟩
  · have h2 : x % y ≤ x := Nat.mod_le _ _
    have := Nat.mul_le_mul_left y h2
    rw [Nat.mul_comm x y] at hp
    exact Nat.lt_of_le_of_lt this hp
  · have h3 : x % y + y ≤ x := by
      have := Nat.mod_add_div x y
      have h4 : 1 ≤ x / y := (Nat.one_le_div_iff c).2 (by omega)
      have := Nat.mul_le_mul_left y h4
      omega
    have h5 : 2 * (y * (x % y)) ≤ x * y := by
      have : y * (2 * (x % y)) ≤ y * x := Nat.mul_le_mul_left y (by omega)
      rw [Nat.mul_comm x y]
      rw [Nat.mul_left_comm] at this
      exact this
    have h6 : 2 ≤ x * y := by
      have : 2 * 1 ≤ x * y := Nat.mul_le_mul (by omega) c
      omega
    by_cases z : 8001 - i = 0
    · rw [z] at hp
      omega
    · have e2 : 8001 - i = (8000 - i) + 1 := by omega
      rw [e2, Nat.pow_succ] at hp
      omega
end V2
set_option Elab.async false
set_option linter.all false
set_option maxRecDepth 100000
set_option maxHeartbeats 4000000
/-! ## More built-in functions and comparisons over data -/
namespace V2
open PySem PySem.Spec PyProof.Rows L2
open PySem.W (Frag)
section
variable {X : Cx} {W : WX} {a b c : Expr} {es : List Expr} {ga : WA} {fa fb fc : WE} {pos p : Pos}
/-! ### list(x), tuple(x): data -/
def rList1 : WR := fun xs h Q => match xs with
  | [x] => match items h x with
    | some ys => match allD ys with
      | some ps => Q (.d (.list ps)) h
      | none => False
    | none => False
  | _ => False
theorem cp_list1 : CpA X (fun xs H Q => ∃ p ys, xs = [.ref p] ∧ (SqL X.K H p ys ∨ SqT X.K H p ys) ∧ ∀ l, H l = none → Q (.ref l) (upd H l (.lst ys))) rList1 := by
  intro xs h Q vs as H QV rv hR hq k
  unfold rList1 at hq
  split at hq
  · split at hq
    · rename_i ys e
      split at hq
      · rename_i ps e2
        obtain ⟨v, rfl, r⟩ := relAll1 rv
        obtain ⟨a, us, rfl, s, ra⟩ := items_rel r hR e
        exact ⟨a, us, rfl, s, fun l hl => k.newLst hR hq (ra.ofAllD e2) hl⟩
      · exact hq.elim
    · exact hq.elim
  · exact hq.elim
def rTup1 : WR := fun xs h Q => match xs with
  | [.d (.tuple ps)] => Q (.d (.tuple ps)) h
  | [x] => match litems h x with
    | some ys => match allD ys with
      | some ps => Q (.d (.tuple ps)) h
      | none => False
    | none => False
  | _ => False
theorem cp_tup1 : CpA X (fun xs H Q => ∃ p ys, xs = [.ref p] ∧ ((SqL X.K H p ys ∧ ∀ l, H l = none → Q (.ref l) (upd H l (.tup ys))) ∨ (SqT X.K H p ys ∧ Q (.ref p) H))) rTup1 := by
  intro xs h Q vs as H QV rv hR hq k
  unfold rTup1 at hq
  split at hq
  · obtain ⟨v, rfl, r⟩ := relAll1 rv
    cases r with | d r =>
    cases r with | tup sx ax =>
    exact ⟨_, _, rfl, .inr ⟨sx.sq, k.qd hR hq (.tup sx ax)⟩⟩
  · split at hq
    · rename_i ys e
      split at hq
      · rename_i ps e2
        obtain ⟨v, rfl, r⟩ := relAll1 rv
        obtain ⟨a, us, rfl, s, ra⟩ := litems_rel r hR e
        exact ⟨a, us, rfl, .inl ⟨s, fun l hl => k.newTup hR hq (ra.ofAllD e2) hl⟩⟩
      · exact hq.elim
    · exact hq.elim
  · exact hq.elim
theorem SE.list1 (hg : Gl X "list") (hm : X.mg "list" = none) (ha : SA X W [a] ga) (he : starEach [a] X.env = (false, eval a X.env) :: starEach [] X.env := by rfl) : SE X W (.Call (.Name "list" p) [a] [] pos) (fCall rList1 ga) := .callTy call_list_of cp_list1 hg hm (by decide +kernel) ha (he := he) (hpl := rfl)
theorem SE.tup1 (hg : Gl X "tuple") (hm : X.mg "tuple" = none) (ha : SA X W [a] ga) (he : starEach [a] X.env = (false, eval a X.env) :: starEach [] X.env := by rfl) : SE X W (.Call (.Name "tuple" p) [a] [] pos) (fCall rTup1 ga) := .callTy call_tuple_of cp_tup1 hg hm (by decide +kernel) ha (he := he) (hpl := rfl)

/-! ### isinstance(x, T), T a built-in class, x data -/
def tyName : PyData → String
  | .none => "NoneType"
  | .bool _ => "bool"
  | .int _ => "int"
  | .str _ => "str"
  | .list _ => "list"
  | .tuple _ => "tuple"
  | .dict _ => "dict"
def fIsi (T : String) (fa : WE) : WE := fun ρ h Q E => fa ρ h (fun x h1 => match x with
  | .d p => ∃ b, kitB (tyName p) T = some b ∧ Q (.d (.bool b)) h1
  | .loc n => (∃ xs, h1[n]? = some (.lst xs)) ∧ ∃ b, kitB "list" T = some b ∧ Q (.d (.bool b)) h1) E
theorem tyx_lst {K : Frag} {as : List Addr} {H : Hp} {a : Addr} {xs : List V} (h : LstR K as H a xs) : TyX K H (.ref a) (.type "list") := by
  rcases h with ⟨h | ⟨o, h⟩, _⟩ | ⟨o, its, n, e, c, _⟩
  · exact .base (.lst h)
  · exact .base (.frz h)
  · exact .kList e c
theorem tyx_tup {K : Frag} {as : List Addr} {H : Hp} {a : Addr} {xs : List V} (h : TupR K as H a xs) : TyX K H (.ref a) (.type "tuple") := by
  rcases h with ⟨h | ⟨o, h⟩, _⟩ | ⟨o, its, n, e, c, _⟩
  · exact .base (.tup h)
  · exact .fTuple h
  · exact .kTuple e c
theorem tyx_d {K : Frag} {as : List Addr} {H : Hp} {v : V} {p : PyData} (r : Dv K as H v p) : TyX K H v (.type (tyName p)) := by
  cases r with
  | non => exact .base .non
  | bl b => exact .base (.bl b)
  | int i => exact .base (.int i)
  | str x => exact .base (.str x)
  | lst s _ => exact tyx_lst s
  | tup s _ => exact tyx_tup s
theorem SE.isi {T : String} {x : Str} {p1 p2 p3 : Pos} (hg : Gl X "isinstance") (hm : X.mg "isinstance" = none) (hgc : Gl X x) (hmc : X.mg x = none) (hv : bootBuiltins x = some (.type T)) (ha : SE X W a fa)
    (hn : x ≠ "__name__" := by decide) (hdc : (x == ("__debug__" : Str)) = false := by decide)
    (he : starEach [a, .Name x p3] X.env = (false, eval a X.env) :: starEach [.Name x p3] X.env := by rfl) (he2 : starEach [.Name x p3] X.env = (false, eval (.Name x p3) X.env) :: starEach [] X.env := by rfl) (hpl : (backTo pos (starEach [.Name x p3] X.env)).any (·.1) = false := by rfl) :
    SE X W (.Call (.Name "isinstance" p1) [a, .Name x p3] [] pos) (fIsi T fa) := by
  obtain ⟨_, pa, sa⟩ := ha
  refine ⟨_, pe_callB call_isi hg hm (by decide +kernel) (pa_cons pa (pa_cons (pe_bltn (v := .ty T) hgc hmc hv rfl hn hdc) pa_nil he2) he) (he := he) (hpl := hpl), fun σ H as ρ h Q E QV eR hR hq k kx => ?_⟩
  refine sa σ H as ρ h _ E _ eR hR hq (fun y h1 v as1 H1 hq1 l1 r1 rv => ?_) kx
  cases rv with
  | d rv =>
    obtain ⟨b, e, q⟩ := hq1
    exact ⟨v, .ty T, _, _, b, rfl, .ty T, tyx_d rv, kit_ty e, (k.later l1).qd r1 q (.bl b)⟩
  | loc ha =>
    obtain ⟨⟨xs, en⟩, b, e, q⟩ := hq1
    obtain ⟨a2, ha2, ob⟩ := r1.at en
    rw [ha] at ha2
    cases ha2
    obtain ⟨vs, e2, _⟩ := ob
    exact ⟨_, .ty T, _, _, b, rfl, .ty T, .base (.lst e2), kit_ty e, (k.later l1).qd r1 q (.bl b)⟩

/-! ### a op b op c -/
def fChain (r r' : WR2) (fa fb fc : WE) : WE := fun ρ h Q E => fa ρ h (fun x h1 => fb ρ h1 (fun y h2 => r x y h2 (fun z h3 => match z with
  | .d (.bool true) => fc ρ h3 (fun w h4 => r' y w h4 Q) E
  | .d (.bool false) => Q (.d (.bool false)) h3
  | _ => False)) E) E
theorem sp_chain {rV rV' : R2} {r r' : WR2} {ta tb tc : TE} (c1 : Cp2 X rV r) (c2 : Cp2 X rV' r') (ha : SpE X W ta fa) (hb : SpE X W tb fb) (hc : SpE X W tc fc) : SpE X W (tChain rV rV' ta tb tc) (fChain r r' fa fb fc) := by
  intro σ H as ρ h Q E QV eR hR hq k kx
  refine ha σ H as ρ h _ E _ eR hR hq (fun x h1 v as1 H1 hq1 l1 r1 rv => ?_) kx
  refine hb σ H1 as1 ρ h1 _ E _ (eR.later l1) r1 hq1 (fun y h2 w as2 H2 hq2 l2 r2 rw' => ?_) (kx.later l1)
  refine c1 x y h2 _ v w as2 H2 _ (rv.later l2) rw' r2 hq2 (fun z h3 u as3 H3 hq3 l3 r3 ru => ?_)
  split at hq3
  · cases ru with | d ru =>
    cases ru
    refine ⟨true, rfl, ?_⟩
    rw [if_pos rfl]
    refine hc σ H3 as3 ρ h3 _ E _ (((eR.later l1).later l2).later l3) r3 hq3 (fun w4 h4 v4 as4 H4 hq4 l4 r4 rv4 => ?_) (((kx.later l1).later l2).later l3)
    exact c2 y w4 h4 Q w v4 as4 H4 QV ((rw'.later l3).later l4) rv4 r4 hq4 (k.later (((l1.trans l2).trans l3).trans l4))
  · cases ru with | d ru =>
    cases ru
    refine ⟨false, rfl, ?_⟩
    rw [if_neg (by decide)]
    exact (k.later ((l1.trans l2).trans l3)).qd r3 hq3 (.bl false)
  · exact hq3.elim
/-- how a comparison reads: the model's rule and ours -/
def CmpR (X : Cx) (op : CmpOp) (r : WR2) : Prop := ∃ rV, OpR X (compareOp op) rV ∧ Cp2 X rV r
theorem CmpR.lt : CmpR X .Lt (rCmp2 fun i j => decide (i < j)) := ⟨_, op_lt, cp_ints0 fun _ _ _ _ _ => .bl _⟩
theorem CmpR.le : CmpR X .LtE (rCmp2 fun i j => decide (i ≤ j)) := ⟨_, op_le, cp_ints0 fun _ _ _ _ _ => .bl _⟩
theorem CmpR.gt : CmpR X .Gt (rCmp2 fun i j => decide (j < i)) := ⟨_, op_gt, cp_ints0 fun _ _ _ _ _ => .bl _⟩
theorem CmpR.ge : CmpR X .GtE (rCmp2 fun i j => decide (j ≤ i)) := ⟨_, op_ge, cp_ints0 fun _ _ _ _ _ => .bl _⟩
theorem CmpR.eq (hu : X.A.units + 64 < cLine) : CmpR X .Eq rEq2 := ⟨_, op_eq.or (op_eqD hu), cp_eq⟩
theorem CmpR.ne (hu : X.A.units + 64 < cLine) : CmpR X .NotEq rNe2 := ⟨_, op_ne.or (op_neD hu), cp_ne⟩
theorem SE.chain {op op' : CmpOp} {r r' : WR2} (c1 : CmpR X op r) (c2 : CmpR X op' r') (ha : SE X W a fa) (hb : SE X W b fb) (hc : SE X W c fc)
    (hm : lastMarks [op, op'] [b, c] = false := by with_unfolding_all rfl) : SE X W (.Compare a [op, op'] [b, c] pos) (fChain r r' fa fb fc) := by
  obtain ⟨_, pa, sa⟩ := ha
  obtain ⟨_, pb, sb⟩ := hb
  obtain ⟨_, pc, sc⟩ := hc
  obtain ⟨_, o1, c1⟩ := c1
  obtain ⟨_, o2, c2⟩ := c2
  exact ⟨_, pe_chain o1 o2 pa pb pc hm, sp_chain c1 c2 sa sb sc⟩
theorem ST.chain {op op' : CmpOp} {r r' : WR2} (c1 : CmpR X op r) (c2 : CmpR X op' r') (ha : SE X W a fa) (hb : SE X W b fb) (hc : SE X W c fc)
    (hm : lastMarks [op, op'] [b, c] = false := by with_unfolding_all rfl) : ST X W (.Compare a [op, op'] [b, c] pos) (tVal (fChain r r' fa fb fc)) := by
  obtain ⟨_, pa, sa⟩ := ha
  obtain ⟨_, pb, sb⟩ := hb
  obtain ⟨_, pc, sc⟩ := hc
  obtain ⟨_, o1, c1⟩ := c1
  obtain ⟨_, o2, c2⟩ := c2
  exact ⟨_, pt_chain o1 o2 pa pb pc hm, sp_test (sp_chain c1 c2 sa sb sc)⟩

/-! ### x in xs: flat items -/
def flatD : D → Bool
  | .d .none => true
  | .d (.bool _) => true
  | .d (.int _) => true
  | .d (.str _) => true
  | _ => false
def valD : D → V
  | .d (.bool b) => .bl b
  | .d (.int i) => .int i
  | .d (.str x) => .str x
  | _ => .non
theorem rel_flat {K : Frag} {as : List Addr} {H : Hp} {v : V} {x : D} (r : Rel K as H v x) (f : flatD x = true) : v = valD x ∧ flatV v = true := by
  cases r with
  | d r =>
    cases r with
    | non => exact ⟨rfl, rfl⟩
    | bl b => exact ⟨rfl, rfl⟩
    | int i => exact ⟨rfl, rfl⟩
    | str x => exact ⟨rfl, rfl⟩
    | lst _ _ => exact absurd (show false = true from f) Bool.false_ne_true
    | tup _ _ => exact absurd (show false = true from f) Bool.false_ne_true
  | loc _ => exact absurd (show false = true from f) Bool.false_ne_true
theorem relAll_flat {K : Frag} {as : List Addr} {H : Hp} : ∀ {vs : List V} {xs : List D}, RelAll K as H vs xs → xs.all flatD = true → vs = xs.map valD ∧ vs.all flatV = true
  | _, _, .nil, _ => ⟨rfl, rfl⟩
  | _, _, .cons r t, f => by
    rw [List.all_cons, Bool.and_eq_true] at f
    obtain ⟨e1, f1⟩ := rel_flat r f.1
    obtain ⟨e2, f2⟩ := relAll_flat t f.2
    refine ⟨by rw [List.map_cons, ← e1, ← e2], ?_⟩
    rw [List.all_cons, f1, f2]
    rfl
def rInD (neg : Bool) : WR2 := fun x y h Q => match items h y with
  | some ys => flatD x = true ∧ ys.all flatD = true ∧ Q (.d (.bool (if neg then !inV (valD x) (ys.map valD) else inV (valD x) (ys.map valD)))) h
  | none => False
theorem cp_in (neg : Bool) : Cp2 X (rIn X.K neg) (rInD neg) := by
  intro x y h Q v w as H QV rx ry hR hq k
  unfold rInD at hq
  split at hq
  · rename_i ys e
    obtain ⟨a, us, rfl, s, ra⟩ := items_rel ry hR e
    obtain ⟨e1, f1⟩ := rel_flat rx hq.1
    obtain ⟨e2, f2⟩ := relAll_flat ra hq.2.1
    refine ⟨a, us, rfl, s, f1, f2, ?_⟩
    rw [e1, e2]
    exact k.qd hR hq.2.2 (.bl _)
  · exact hq.elim
theorem SE.inD (ha : SE X W a fa) (hb : SE X W b fb) (hm : behindInMarks .In b = false := by rfl) : SE X W (.Compare a [.In] [b] pos) (fBin (rInD false) fa fb) := .cmp op_in_seq (cp_in false) ha hb hm
theorem SE.notInD (ha : SE X W a fa) (hb : SE X W b fb) (hm : behindInMarks .NotIn b = false := by rfl) : SE X W (.Compare a [.NotIn] [b] pos) (fBin (rInD true) fa fb) := .cmp op_notIn_seq (cp_in true) ha hb hm
theorem ST.inD (ha : SE X W a fa) (hb : SE X W b fb) (hm : behindInMarks .In b = false := by rfl) : ST X W (.Compare a [.In] [b] pos) (tVal (fBin (rInD false) fa fb)) := .cmp op_in_seq (cp_in false) ha hb hm
theorem ST.notInD (ha : SE X W a fa) (hb : SE X W b fb) (hm : behindInMarks .NotIn b = false := by rfl) : ST X W (.Compare a [.NotIn] [b] pos) (tVal (fBin (rInD true) fa fb)) := .cmp op_notIn_seq (cp_in true) ha hb hm

/-! ### math.lcm of three -/
end
open PySem.Calls PySem.W in
theorem run_lcm3 (a : Int) (t : Tok) (b : Int) (u : Tok) (c : Int) (u2 : Tok) (hc0 : ¬(max 1 a.natAbs).log2 / 30 + 1 > 450) (hc1 : ¬(max a.natAbs b.natAbs).log2 / 30 + 1 > 450) (hc2 : ¬(max ((Nat.lcm 1 a.natAbs).lcm b.natAbs) c.natAbs).log2 / 30 + 1 > 450)
    (hsz : (((((Nat.lcm 1 a.natAbs).lcm b.natAbs).lcm c.natAbs : Nat) : Int)).natAbs.log2 < bitsLine) :
    Gives (Builtin.«math.lcm» ⟨[.int a t, .int b u, .int c u2], []⟩) (.int (((((Nat.lcm 1 a.natAbs).lcm b.natAbs).lcm c.natAbs : Nat) : Int))) :=
  .of_wp fun M A E s Q h => by
    obtain ⟨hp, g, d, tk, os⟩ := s
    have e1 : Nat.lcm 1 a.natAbs = a.natAbs := by simp [Nat.lcm]
    wp_walk
    rw [if_neg hc2]
    wp_walk
    (try (refine wpAny_ite_false (decide_eq_false (Nat.not_le.mpr hsz)) ?_; wp_walk))
    exact ⟨_, rfl, h⟩
open PySem.Calls PySem.W in
theorem args_lcm3 (a b c : Value) : argsOk "math.lcm" ⟨[a, b, c], []⟩ := by unfold argsOk; kernel_rfl
theorem lcm_lt {a b n m : Nat} (ha : a < 2 ^ n) (hb : b < 2 ^ m) : Nat.lcm a b < 2 ^ (n + m) :=
  Nat.lt_of_le_of_lt (PySem.W.mc_lcm_le a b) (mul_lt_pow ha hb)
theorem roomy {k n : Nat} (hn : 0 < n) (h : k < 2 ^ n) (h2 : n ≤ 13000) : ¬ k.log2 / 30 + 1 > 450 := by
  have := log2_lt hn h
  omega
def rLcm3V : List V → Hp → VK → Prop := fun vs H Q => ∃ a b c : Int, vs = [.int a, .int b, .int c] ∧ (a.natAbs < 2 ^ big ∧ b.natAbs < 2 ^ big ∧ c.natAbs < 2 ^ big) ∧ Q (.int ((Nat.lcm (Nat.lcm a.natAbs b.natAbs) c.natAbs : Nat) : Int)) H
open PySem.Calls PySem.W in
theorem cr_lcm3 {X : Cx} : CallR X (.builtin "math.lcm") rLcm3V := by
  intro pins s σ H vs us Q I r h
  obtain ⟨a, b, c, rfl, ⟨ha, hb, hc⟩, q⟩ := h
  cases r with | cons r1 r =>
  cases r with | cons r2 r =>
  cases r with | cons r3 r =>
  cases r
  rename_i u1 u2 u3
  obtain ⟨t1, rfl⟩ := (show ∃ t, u1 = Value.int a t from r1)
  obtain ⟨t2, rfl⟩ := (show ∃ t, u2 = Value.int b t from r2)
  obtain ⟨t3, rfl⟩ := (show ∃ t, u3 = Value.int c t from r3)
  have e1 : Nat.lcm 1 a.natAbs = a.natAbs := PySem.W.mc_lcm_one _
  have hb0 : 0 < big := by decide
  have l1 := lcm_lt ha hb
  have l2 := lcm_lt l1 hc
  have p1 : (1 : Nat) < 2 ^ big := Nat.one_lt_two_pow (by decide)
  have g := run_lcm3 a t1 b t2 c t3 (roomy hb0 (Nat.max_lt.2 ⟨p1, ha⟩) (by decide)) (roomy hb0 (Nat.max_lt.2 ⟨ha, hb⟩) (by decide))
    (roomy (n := big + big) (by decide) (Nat.max_lt.2 ⟨by rw [e1]; exact l1, Nat.lt_of_lt_of_le hc (Nat.pow_le_pow_right (by decide) (Nat.le_add_right _ _))⟩) (by decide))
    (by rw [e1, Int.natAbs_natCast]; exact Nat.lt_of_lt_of_le (log2_lt (by decide) l2) (by decide))
  rw [e1] at g
  exact call_function_meets PySem.W.MGF.kind_lcm PySem.W.MGF.plain_lcm PySem.W.MGF.entry_lcm (args_lcm3 _ _ _) g.meets ⟨.int _, H, I.tok _, ⟨_, rfl⟩, q⟩
def rLcm3 : WR := fun xs h Q => match xs with
  | [.d (.int a), .d (.int b), .d (.int c)] => (a.natAbs < 2 ^ big ∧ b.natAbs < 2 ^ big ∧ c.natAbs < 2 ^ big) ∧ Q (.d (.int ((Nat.lcm (Nat.lcm a.natAbs b.natAbs) c.natAbs : Nat) : Int))) h
  | _ => False
theorem cp_lcm3 {X : Cx} : CpA X rLcm3V rLcm3 := by
  intro xs h Q vs as H QV rv hR hq k
  unfold rLcm3 at hq
  split at hq
  · obtain ⟨u, v, w, rfl, r1, r2, r3⟩ := relAll3 rv
    rw [rel_int r1, rel_int r2, rel_int r3]
    exact ⟨_, _, _, rfl, hq.1, k.qd hR hq.2 (.int _)⟩
  · exact hq.elim
theorem SE.lcm3 {X : Cx} {W : WX} {a : Expr} {es : List Expr} {ga : WA} {pos p : Pos} (hg : Gl X "lcm") (hm : X.mg "lcm" = some (.builtin "math.lcm")) (ha : SA X W (a :: es) ga) (he : starEach (a :: es) X.env = (false, eval a X.env) :: starEach es X.env := by rfl) (hpl : (backTo pos (starEach es X.env)).any (·.1) = false := by rfl) : SE X W (.Call (.Name "lcm" p) (a :: es) [] pos) (fCall rLcm3 ga) := .callM cr_lcm3 cp_lcm3 hg hm ha (he := he) (hpl := hpl)
theorem i_lcm3 {a b c : Int} {h : Ho} {Q : KD} (hb : a.natAbs < 2 ^ big ∧ b.natAbs < 2 ^ big ∧ c.natAbs < 2 ^ big) (k : Q (.d (.int ((Nat.lcm (Nat.lcm a.natAbs b.natAbs) c.natAbs : Nat) : Int))) h) : rLcm3 [.d (.int a), .d (.int b), .d (.int c)] h Q := ⟨hb, k⟩
/-- no greater than n binary figures -/
def Bd (n : Nat) (i : Int) : Prop := i.natAbs < 2 ^ n
theorem Bd.mono {n m : Nat} {i : Int} (h : Bd n i) (k : n ≤ m) : Bd m i := Nat.lt_of_lt_of_le h (Nat.pow_le_pow_right (by decide) k)
theorem Bd.add {n m : Nat} {i j : Int} (a : Bd n i) (b : Bd m j) : Bd (max n m + 1) (i + j) := by
  have a' := a.mono (Nat.le_max_left n m)
  have b' := b.mono (Nat.le_max_right n m)
  unfold Bd at *
  rw [Nat.pow_succ]
  have := Int.natAbs_add_le i j
  omega
theorem Bd.neg {n : Nat} {i : Int} (a : Bd n i) : Bd n (-i) := by
  unfold Bd at *
  rw [Int.natAbs_neg]; exact a
theorem Bd.sub {n m : Nat} {i j : Int} (a : Bd n i) (b : Bd m j) : Bd (max n m + 1) (i - j) := by
  rw [Int.sub_eq_add_neg]
  exact a.add b.neg
theorem Bd.mul {n m : Nat} {i j : Int} (a : Bd n i) (b : Bd m j) : Bd (n + m) (i * j) := by
  unfold Bd at *
  rw [Int.natAbs_mul]
  exact mul_lt_pow a b
theorem Bd.div {n : Nat} {i : Int} {k : Nat} (a : Bd n i) : Bd n (i.fdiv (k : Int)) := Nat.lt_of_le_of_lt (v_fdiv_le i k) a
theorem cmB {n m : Nat} {i j : Int} (a : Bd n i) (b : Bd m j) (h : n + m < 900000) : CMulW i j := by
  have e1 := log2_lt (Nat.succ_pos n) (a.mono (Nat.le_succ n))
  have e2 := log2_lt (Nat.succ_pos m) (b.mono (Nat.le_succ m))
  unfold CMulW
  omega
end V2
set_option Elab.async false
set_option linter.all false
set_option maxRecDepth 100000
set_option maxHeartbeats 4000000
/-! ## Points as data, and their grid -/
namespace V2
open PySem PySem.Spec PyProof.Rows L2
abbrev Pt := Rat × Rat
abbrev ptD (p : Pt) : PyData := .tuple [fr p.1, fr p.2]
def Lc (pts : List Pt) : Nat := pts.foldl (fun L p => Nat.lcm (Nat.lcm L p.1.den) p.2.den) 1
theorem Lc_snoc (pts : List Pt) (p : Pt) : Lc (pts ++ [p]) = Nat.lcm (Nat.lcm (Lc pts) p.1.den) p.2.den := by
  unfold Lc
  rw [List.foldl_append]
  rfl
theorem Lc_take_succ {pts : List Pt} {k : Nat} {p : Pt} (h : pts[k]? = some p) : Lc (pts.take (k + 1)) = Nat.lcm (Nat.lcm (Lc (pts.take k)) p.1.den) p.2.den := by
  rw [List.take_succ, h]
  exact Lc_snoc _ _
theorem Lc_ne (pts : List Pt) : Lc pts ≠ 0 := by
  have aux : ∀ (n : Nat) (qs : List Pt), qs.length = n → Lc qs ≠ 0 := by
    intro n
    induction n with
    | zero => intro qs e; cases qs with
      | nil => decide
      | cons a l => cases e
    | succ n ih =>
      intro qs e
      rcases List.eq_nil_or_concat qs with rfl | ⟨l, c, rfl⟩
      · cases e
      · rw [List.concat_eq_append, Lc_snoc]
        have h1 := ih l (by simpa using e)
        exact Nat.lcm_ne_zero (Nat.lcm_ne_zero h1 c.1.den_nz) c.2.den_nz
  exact aux _ pts rfl
theorem Lc_step_dvd {pts : List Pt} {k : Nat} : Lc (pts.take k) ∣ Lc (pts.take (k + 1)) := by
  cases h : pts[k]? with
  | none => rw [List.take_succ, h]; simp
  | some p =>
    rw [Lc_take_succ h]
    exact Nat.dvd_trans (Nat.dvd_lcm_left _ _) (Nat.dvd_lcm_left _ _)
theorem Lc_take_dvd {pts : List Pt} {k : Nat} : ∀ j, Lc (pts.take k) ∣ Lc (pts.take (k + j))
  | 0 => Nat.dvd_refl _
  | j + 1 => Nat.dvd_trans (Lc_take_dvd j) Lc_step_dvd
theorem Lc_dvd_all {pts : List Pt} {k : Nat} : Lc (pts.take k) ∣ Lc pts := by
  by_cases h : k ≤ pts.length
  · have := Lc_take_dvd (pts := pts) (k := k) (pts.length - k)
    rw [Nat.add_sub_cancel' h, List.take_length] at this
    exact this
  · rw [List.take_of_length_le (by omega)]
    exact Nat.dvd_refl _
theorem Lc_den {pts : List Pt} {p : Pt} (h : p ∈ pts) : p.1.den ∣ Lc pts ∧ p.2.den ∣ Lc pts := by
  obtain ⟨k, hk, e⟩ := List.mem_iff_getElem.1 h
  have e : pts[k]? = some p := by rw [List.getElem?_eq_getElem hk, e]
  have d := Lc_dvd_all (pts := pts) (k := k + 1)
  rw [Lc_take_succ e] at d
  exact ⟨Nat.dvd_trans (Nat.dvd_trans (Nat.dvd_lcm_right _ _) (Nat.dvd_lcm_left _ _)) d, Nat.dvd_trans (Nat.dvd_lcm_right _ _) d⟩
theorem Lc_least {b : Nat} (pts : List Pt) (h : ∀ p ∈ pts, p.1.den ∣ b ∧ p.2.den ∣ b) : Lc pts ∣ b := by
  have aux : ∀ k, Lc (pts.take k) ∣ b := by
    intro k
    induction k with
    | zero => exact ⟨b, by show b = Lc [] * b; rw [show Lc [] = 1 from rfl, Nat.one_mul]⟩
    | succ k ih =>
      cases e : pts[k]? with
      | none => rw [List.take_succ, e]; simpa using ih
      | some p =>
        rw [Lc_take_succ e]
        have m : p ∈ pts := List.mem_of_getElem? e
        exact Nat.lcm_dvd (Nat.lcm_dvd ih (h p m).1) (h p m).2
  have := aux pts.length
  rwa [List.take_length] at this
/-- a fraction on the grid of bottom L -/
def gr (L : Nat) (q : Rat) : Int := q.num * ((L : Int).fdiv q.den)
theorem gr_mul {L : Nat} {q : Rat} (h : q.den ∣ L) {x : Int} {b : Nat} (hb : b ≠ 0) (e : q = mkRat x b) : gr L q * b = x * L := by
  obtain ⟨m, rfl⟩ := h
  have hq := Nat.pos_of_ne_zero q.den_nz
  have e1 : ((q.den * m : Nat) : Int).fdiv q.den = m := by
    rw [fdiv_nat, Int.natCast_mul, Int.mul_ediv_cancel_left _ (by omega)]
  unfold gr
  rw [e1]
  have e2 : mkRat q.num q.den = mkRat x b := by rw [Rat.mkRat_self]; exact e
  rw [Rat.mkRat_eq_iff q.den_nz hb] at e2
  rw [Int.natCast_mul]
  have : q.num * ↑m * ↑b = (q.num * b) * m := by rw [Int.mul_assoc, Int.mul_comm (m : Int), ← Int.mul_assoc]
  rw [this, e2, Int.mul_assoc]
abbrev grD (L : Nat) (p : Pt) : PyData := .tuple [.int (gr L p.1), .int (gr L p.2)]
end V2
set_option Elab.async false
set_option linter.all false
set_option maxRecDepth 100000
set_option maxHeartbeats 4000000
/-! ## Lists that are places beside the drawn numbers -/
namespace V2
open PySem PySem.Spec PyProof.Rows L2
section
variable {rest h : Ho}
theorem Deal.len (d : Deal rest h) : h.length = rest.length + 2 := by
  obtain ⟨cs, m, rfl, _⟩ := d.is
  rfl
theorem Deal.get (d : Deal rest h) (i : Nat) : h[i + 2]? = rest[i]? := by
  obtain ⟨cs, m, rfl, _⟩ := d.is
  rfl
theorem Deal.snoc (d : Deal rest h) (o : O) : Deal (rest ++ [o]) (h ++ [o]) := by
  obtain ⟨cs, m, rfl, q⟩ := d.is
  exact ⟨cs, m, rfl, q⟩
theorem Deal.put (d : Deal rest h) (i : Nat) (o : O) : Deal (rest.set i o) (h.set (i + 2) o) := by
  obtain ⟨cs, m, rfl, q⟩ := d.is
  exact ⟨cs, m, rfl, q⟩
theorem Deal.at' (d : Deal rest h) {i : Nat} {o : O} (e : rest[i]? = some o) : h[i + 2]? = some o := by rw [d.get, e]
theorem set_get {α : Type} {xs : List α} {i : Nat} {a b : α} (e : xs[i]? = some a) : (xs.set i b)[i]? = some b := by
  rw [List.getElem?_set_self (List.getElem?_eq_some_iff.1 e).1]
theorem Deal.items (d : Deal rest h) {i : Nat} {xs : List D} (e : rest[i]? = some (.lst xs)) : V2.items h (.loc (i + 2)) = some xs := by
  show (match h[i + 2]? with
    | some (.lst xs) => some xs
    | _ => none) = some xs
  rw [d.get, e]
end
section
variable {ρ : En} {h h2 h3 : Ho} {wg : WG} {tt : WT} {te : WE} {st : Ho → Prop} {n : Nat} {QH : Ho → Prop} {xs : List D} {own : List Nat} {wi : WI} {Q : KD} {E : XD}
def accK (st : Ho → Prop) (n : Nat) (G : Ho → Prop) : KD := fun y h2 => match h2[n]? with
  | some (.lst acc) => acc.length < sizeLine ∧ st (h2.set n (.lst (acc ++ [y]))) ∧ G (h2.set n (.lst (acc ++ [y])))
  | _ => False
theorem accK_of {G : Ho → Prop} {acc : List D} {y : D} (e : h2[n]? = some (.lst acc)) (l : acc.length < sizeLine) (hst : st (h2.set n (.lst (acc ++ [y])))) (g : G (h2.set n (.lst (acc ++ [y])))) : accK st n G y h2 := by
  simp only [accK, e]
  exact ⟨l, hst, g⟩
theorem lcg_ind (I : Nat → Ho → Prop)
    (hs : ∀ k x h (G : Ho → Prop), xs[k]? = some x → I k h → (∀ h', I (k + 1) h' → G h') → ∃ ρ1, wg x h ρ = some ρ1 ∧ tt ρ1 h (fun b h1 => if b = true then te ρ1 h1 (accK st n G) noX else st h1 ∧ G h1) noX)
    (he : ∀ h, I xs.length h → QH h) (h0 : I 0 h) : lcGo wg tt te st n ρ QH xs h := by
  have aux : ∀ (ys : List D) (k : Nat), (∀ j, ys[j]? = xs[k + j]?) → k + ys.length = xs.length → ∀ h, I k h → lcGo wg tt te st n ρ QH ys h := by
    intro ys
    induction ys with
    | nil => intro k _ hl h hi; exact he h (by rw [← hl]; simpa using hi)
    | cons y ys ih =>
      intro k hj hl h hi
      have ihk := ih (k + 1) (fun j => by rw [Nat.add_assoc, Nat.add_comm 1 j, ← hj (j + 1)]; rfl) (by rw [← hl, List.length_cons]; omega)
      obtain ⟨ρ1, e1, e2⟩ := hs k y h (fun h' => lcGo wg tt te st n ρ QH ys h') (by rw [← Nat.add_zero k, ← hj 0]; rfl) hi ihk
      unfold lcGo
      rw [e1]
      exact e2
  exact aux xs 0 (fun j => by rw [Nat.zero_add]) (by simp) h h0
theorem i_tTrue {P : Bool → Ho → Prop} (k : P true h) : tTrue ρ h P E := k
theorem i_lcl (k : wi ρ h (fun xs st h1 => st (h1 ++ [.lst []]) ∧ lcGo wg tt te st h1.length (wipeD ρ own) (fun h2 => Q (.loc h1.length) h2) xs (h1 ++ [.lst []])) E) : fLcL wi wg tt te own ρ h Q E := k
theorem i_cut {f : WS} {nx : En → Ho → Prop} {rt : KD} {bk ct : En → Ho → Prop} {ex : Ex → En → Ho → Prop} (S : En → Ho → Prop) (tail : ∀ ρ h, S ρ h → nx ρ h) (k : (∀ ρ h, S ρ h → nx ρ h) → f ρ h ⟨nx, rt, bk, ct, ex⟩) : f ρ h ⟨nx, rt, bk, ct, ex⟩ := k tail
end
theorem i_pk3 {x y z : D} {P : List D → Prop} (k : P [z, y, x]) : [x, y, z].length = 3 ∧ ∃ ys, V2.pick [2, 1, 0] [x, y, z] = ys ∧ P ys := ⟨rfl, _, rfl, k⟩
theorem i_pk4 {x y z w : D} {P : List D → Prop} (k : P [w, z, y, x]) : [x, y, z, w].length = 4 ∧ ∃ ys, V2.pick [3, 2, 1, 0] [x, y, z, w] = ys ∧ P ys := ⟨rfl, _, rfl, k⟩
/-- data that can be shown, of some length -/
def Sh (k : Nat) (p : PyData) : Prop := p.showable = true ∧ p.depth ≤ k ∧ PyData.leavesShort 1001 p = true ∧ p.bulk ≤ 4 ^ k
theorem Sh.len {k : Nat} {p : PyData} (s : Sh k p) (hk : k ≤ 5) : p.showable = true ∧ p.depth < 60 ∧ p.shown.length ≤ sizeLine := by
  refine ⟨s.1, by have := s.2.1; omega, ?_⟩
  have h1 := PyData.shown_le_bulk 1001 (by decide) p s.2.2.1
  have h2 := s.2.2.2
  have h3 : 4 ^ k ≤ 4 ^ 5 := Nat.pow_le_pow_right (by decide) hk
  have : sizeLine = 2 ^ 24 := rfl
  have h4 : (1001 + 2) * p.bulk ≤ (1001 + 2) * 4 ^ 5 := Nat.mul_le_mul_left _ (Nat.le_trans h2 h3)
  have : (4 : Nat) ^ 5 = 1024 := by decide
  omega
theorem pt_sh {x y : Rat} (sx : Sz 1000 x) (sy : Sz 1000 y) : Sh 2 (.tuple [fr x, fr y]) := by
  have a1 := fr_showable (by decide) (by decide) sx
  have a2 := fr_showable (by decide) (by decide) sy
  have b1 := fr_leaves (by decide) sx
  have b2 := fr_leaves (by decide) sy
  refine ⟨?_, by show 2 ≤ 2; decide, ?_, by show 6 ≤ 16; decide⟩
  · simp only [PyData.showable, PyData.showableAll, Bool.and_true, Bool.and_eq_true] at *
    exact ⟨‹_›, ‹_›⟩
  · simp only [PyData.leavesShort, PyData.leavesShortAll, Bool.and_true, Bool.and_eq_true] at *
    exact ⟨‹_›, ‹_›⟩
theorem four_sh {p q r s : PyData} (hp : Sh 2 p) (hq : Sh 2 q) (hr : Sh 2 r) (hs : Sh 2 s) : Sh 4 (.list [p, q, r, s]) := by
  refine ⟨?_, ?_, ?_, ?_⟩
  · simp only [PyData.showable, PyData.showableAll, Bool.and_true, hp.1, hq.1, hr.1, hs.1]
  · simp only [PyData.depth, PyData.depthAll]
    have := hp.2.1
    have := hq.2.1
    have := hr.2.1
    have := hs.2.1
    omega
  · simp only [PyData.leavesShort, PyData.leavesShortAll, Bool.and_true, hp.2.2.1, hq.2.2.1, hr.2.2.1, hs.2.2.1]
  · simp only [PyData.bulk, PyData.bulkAll]
    have := hp.2.2.2
    have := hq.2.2.2
    have := hr.2.2.2
    have := hs.2.2.2
    have : (4 : Nat) ^ 4 = 256 := by decide
    omega
theorem int_sh {i : Int} (h : i.natAbs < 2 ^ 1000) : Sh 1 (.int i) := by
  have h1 := log2_lt (by decide : 0 < 1000) h
  refine ⟨?_, by show 0 ≤ 1; decide, ?_, by show 0 ≤ 4; decide⟩
  · simp only [PyData.showable, decide_eq_true_eq]
    omega
  · simp only [PyData.leavesShort, decide_eq_true_eq]
    exact shown_int_len (by decide) h
theorem i_nept {x y x' y' : Rat} {h : Ho} {Q : KD} (e1 : x = x') (e2 : y = y') (k : Q (.d (.bool false)) h) : rNe2 (.d (.tuple [fr x, fr y])) (.d (.tuple [fr x', fr y'])) h Q := by
  subst e1
  subst e2
  refine i_ned rfl rfl rfl rfl ni_tup ?_
  have e : PyData.eqv (.tuple [fr x, fr y]) (.tuple [fr x, fr y]) = true := by simp [PyData.eqv, PyData.eqvAll]
  rw [e]
  exact k
end V2
set_option Elab.async false
set_option linter.all false
set_option maxRecDepth 100000
set_option maxHeartbeats 4000000
/-! ## More steps through a reading -/
namespace V2
open PySem PySem.Spec PyProof.Rows L2
section
variable {ρ : En} {h : Ho} {Q : KD} {E : XD} {fa fb fc : WE} {x : D} {i j : Int}
theorem i_chain {r r' : WR2} (k : fa ρ h (fun x h1 => fb ρ h1 (fun y h2 => r x y h2 (fun z h3 => ∃ b, z = .d (.bool b) ∧ if b = true then fc ρ h3 (fun w h4 => r' y w h4 Q) E else Q (.d (.bool false)) h3)) E) E) : fChain r r' fa fb fc ρ h Q E := by
  have e : ∀ y : D, (fun (z : D) (h3 : Ho) => ∃ b, z = .d (.bool b) ∧ if b = true then fc ρ h3 (fun w h4 => r' y w h4 Q) E else Q (.d (.bool false)) h3) = (fun z h3 => match z with
      | .d (.bool true) => fc ρ h3 (fun w h4 => r' y w h4 Q) E
      | .d (.bool false) => Q (.d (.bool false)) h3
      | _ => False) := by
    intro y
    funext z h3
    apply propext
    constructor
    · rintro ⟨b, rfl, q⟩
      cases b with
      | true => simpa using q
      | false => simpa using q
    · split
      · exact fun q => ⟨true, rfl, by simpa using q⟩
      · exact fun q => ⟨false, rfl, by simpa using q⟩
      · exact False.elim
  simp only [e] at k
  exact k
def mx (i j : Int) : Int := if j > i then j else i
def mn (i j : Int) : Int := if j < i then j else i
theorem i_max2 (k : Q (.d (.int (mx i j))) h) : rMax2 [.d (.int i), .d (.int j)] h Q := k
theorem i_min2 (k : Q (.d (.int (mn i j))) h) : rMin2 [.d (.int i), .d (.int j)] h Q := k
theorem i_isN (k : Q (.d (.bool (isNon x))) h) : rIsN2 x (.d .none) h Q := k
theorem i_notN (k : Q (.d (.bool (!isNon x))) h) : rNotN2 x (.d .none) h Q := k
theorem bd_mx {n m : Nat} {i j : Int} (a : Bd n i) (b : Bd m j) : Bd (max n m) (mx i j) := by
  unfold mx
  split
  · exact b.mono (Nat.le_max_right _ _)
  · exact a.mono (Nat.le_max_left _ _)
theorem bool_sh (b : Bool) : Sh 1 (.bool b) := by
  refine ⟨rfl, by show 0 ≤ 1; decide, ?_, by show 0 ≤ 4; decide⟩
  cases b <;> rfl
theorem i_neG {p q : PyData} (e : p = q) (hs : SeqAt.shaped p = true) (k : Q (.d (.bool false)) h) : rNe2 (.d p) (.d q) h Q := by
  subst e
  have hr : PyData.eqv p p = true := SeqAt.eqv_refl p (by unfold SeqAt.shaped at hs; exact (Bool.and_eq_true_iff.1 hs).1)
  unfold rNe2
  split
  · rename_i i j e1 e2
    cases e1; cases e2
    rw [decide_eq_true rfl]; exact k
  · rename_i i j e1 e2
    cases e1; cases e2
    rw [decide_eq_true rfl]; exact k
  · show (match datum h (.d p), datum h (.d p) with
      | some p, some q => SeqAt.shaped p = true ∧ SeqAt.shaped q = true ∧ Q (.d (.bool (!PyData.eqv p q))) h
      | _, _ => False)
    refine ⟨hs, hs, ?_⟩
    rw [hr]
    exact k
theorem i_eqG {p q : PyData} (e : p = q) (hs : SeqAt.shaped p = true) (k : Q (.d (.bool true)) h) : rEq2 (.d p) (.d q) h Q := by
  subst e
  have hr : PyData.eqv p p = true := SeqAt.eqv_refl p (by unfold SeqAt.shaped at hs; exact (Bool.and_eq_true_iff.1 hs).1)
  unfold rEq2
  split
  · rename_i i j e1 e2
    cases e1; cases e2
    rw [decide_eq_true rfl]; exact k
  · rename_i i j e1 e2
    cases e1; cases e2
    rw [decide_eq_true rfl]; exact k
  · show (match datum h (.d p), datum h (.d p) with
      | some p, some q => SeqAt.shaped p = true ∧ SeqAt.shaped q = true ∧ Q (.d (.bool (PyData.eqv p q))) h
      | _, _ => False)
    refine ⟨hs, hs, ?_⟩
    rw [hr]
    exact k
theorem none_sh : Sh 1 .none := ⟨rfl, by show 0 ≤ 1; decide, rfl, by show 0 ≤ 4; decide⟩
end
end V2
set_option Elab.async false
set_option linter.all false
set_option maxRecDepth 100000
set_option maxHeartbeats 4000000
/-! ## What comes behind a statement, by a name -/
namespace V2
open PySem PySem.Spec PyProof.Rows L2
def Go (nx : En → Ho → Prop) (g : WS) (D : Nx) : Prop := ∀ ρ h, g ρ h D → nx ρ h
section
variable {ρ : En} {h : Ho} {nx : En → Ho → Prop} {rt : KD} {bk ct : En → Ho → Prop} {ex : Ex → En → Ho → Prop} {f g : WS} {D : Nx}
theorem i_seqg (k : ∀ nx', Go nx' g ⟨nx, rt, bk, ct, ex⟩ → f ρ h ⟨nx', rt, bk, ct, ex⟩) : sSeq f g ρ h ⟨nx, rt, bk, ct, ex⟩ := k _ fun _ _ q => q
theorem i_go (a : Go nx g D) (k : g ρ h D) : nx ρ h := a _ _ k
theorem i_nesr {i : Str} {Q : KD} (k : Q (.d (.bool false)) h) : rNe2 (.d (.str i)) (.d (.str i)) h Q := by
  refine i_nes ?_
  rw [decide_eq_true rfl]
  exact k
end
end V2
set_option Elab.async false
set_option linter.all false
set_option maxRecDepth 100000
set_option maxHeartbeats 4000000
/-! ## reversed(x) -/
namespace V2
open PySem PySem.Spec PyProof.Rows L2
open PySem.W (Frag)
def iRevG (fa : WE) : WI := fun ρ h Q E => fa ρ h (fun x h1 => match litems h1 x with
  | some xs => Q xs.reverse (stay x xs) h1
  | none => False) E
theorem rev_at {α : Type} {xs : List α} {i : Nat} (h : i < xs.length) : xs.reverse[i]? = xs[xs.length - 1 - i]? := List.getElem?_reverse h
/-- a walk from the end, over the same list at each turn -/
theorem walks_back {K : Frag} {as1 : List Addr} {H1 : Hp} {xs : List D} {st : Ho → Prop} {b : Addr} {n : Nat} (hn : n = xs.length)
    (key : ∀ as2 H2 h2, Later as1 H1 as2 H2 → HeapR K as2 H2 h2 → st h2 → ∃ us, SqL K H2 b us ∧ RelAll K as2 H2 us xs) : Walks K as1 H1 xs.reverse st (Itv K b n) := by
  subst hn
  intro i as2 H2 h2 l r2 w
  obtain ⟨us, q1, q2⟩ := key as2 H2 h2 l r2 w
  have hl := q2.length
  refine ⟨fun hi => ?_, fun hi => by rw [List.length_reverse] at hi; exact Nat.le_of_eq hi.symm, fun v H3 y z ez => ?_⟩
  · rw [List.length_reverse] at hi
    exact ⟨hi, us, us[xs.length - 1 - i]'(by omega), q1, List.getElem?_eq_getElem _⟩
  · have hi : i < xs.length := by
      have := (List.getElem?_eq_some_iff.1 ez).1
      rwa [List.length_reverse] at this
    rw [rev_at hi] at ez
    obtain ⟨rfl, y⟩ := y
    obtain ⟨u, eu, ru⟩ := q2.get ez
    have := y us q1
    rw [eu] at this
    cases this
    exact ⟨Later.refl _ _, r2, ru⟩
section
variable {X : Cx} {W : WX} {tg a : Expr} {fa : WE} {pos p : Pos}
/-- reversed(a list) -/
theorem SI.rev (hg : Gl X "reversed") (hm : X.mg "reversed" = none) (ha : SE X W a fa) (hs : starEach [a] X.env = (false, eval a X.env) :: starEach [] X.env := by rfl) :
    SI X W tg (.Call (.Name "reversed" p) [a] [] pos) (iRevG fa) := by
  obtain ⟨_, pa, sa⟩ := ha
  refine ⟨_, RT.pi_revA hg hm pa hs, fun σ H as ρ h Q E R eR hR hq k kx => ?_⟩
  refine sa σ H as ρ h _ E _ eR hR hq (fun x h1 v as1 H1 hq1 l1 r1 rv => ?_) kx
  split at hq1
  · rename_i xs e
    have st : stay x xs h1 := by
      cases x with
      | d p => trivial
      | loc n =>
        simp only [litems] at e
        split at e
        · rename_i ys en
          cases e
          exact en
        · cases e
    obtain ⟨b, vs, rfl, s, ra⟩ := litems_rel rv r1 e
    have key : ∀ as2 H2 h2, Later as1 H1 as2 H2 → HeapR X.K as2 H2 h2 → stay x xs h2 → ∃ us, SqL X.K H2 b us ∧ RelAll X.K as2 H2 us xs := by
      intro as2 H2 h2 l r2 w
      cases rv with
      | d r =>
        cases r with
        | lst sx ax =>
          simp only [litems, Option.some.injEq] at e
          subst e
          exact ⟨_, (sx.later l).sq, (ax.later l).rel⟩
        | tup sx ax => simp [litems] at e
      | @loc _ n hb =>
        have st' : h2[n]? = some (O.lst xs) := w
        obtain ⟨c, hc, us, o1, o2⟩ := r2.at st'
        rw [l.at hb] at hc
        cases hc
        exact ⟨us, SqL.of o1, o2⟩
    obtain ⟨us, q1, q2⟩ := key as1 H1 h1 (Later.refl _ _) r1 st
    exact ⟨b, us, rfl, .inl ⟨q1, k _ _ h1 as1 H1 _ hq1 st l1 r1 (walks_back q2.length key)⟩⟩
  · exact hq1.elim
end
section
variable {ρ : En} {h : Ho} {x : D} {E : XD}
theorem i_irev {QI : List D → (Ho → Prop) → Ho → Prop} {xs : List D} {n : Nat} (e : GetAt n ρ x) (ei : litems h x = some xs) (k : QI xs.reverse (stay x xs) h) : iRevG (fVar n) ρ h QI E := by
  refine i_var e ?_
  simp only [ei]
  exact k
end
end V2
set_option Elab.async false
set_option linter.all false
set_option maxRecDepth 100000
set_option maxHeartbeats 4000000
/-! ## a tuple's slice with a step -/
namespace V2
open PySem PySem.Spec PyProof.Rows L2
open PySem.W (Frag)
/-- what xs[lo:hi:c] picks -/
def stepL {α : Type} (xs : List α) (lo hi : Option Int) (c : Int) : List α :=
  (List.range (Builtin.Slice.slicePlaces (Builtin.Slice.sliceAdjust lo hi c xs.length).1 (Builtin.Slice.sliceAdjust lo hi c xs.length).2 c)).filterMap fun (k : Nat) => xs[((Builtin.Slice.sliceAdjust lo hi c xs.length).1 + (k : Int) * c).toNat]?
section
variable {prog : Program} {w : World} {A : Around} {E : Value → Shared → Prop} {s0 : Shared}
theorem applied_step {q : Addr} {v1 v2 v3 : Value} {o1 o2 : Option Int} {c : Int} {n : Nat} {Z : Int × Int × Nat → Shared → Prop} (hq : s0.heap.IsSliceOf q v1 v2 v3) (p1 : IsPart v1 o1) (p2 : IsPart v2 o2) (p3 : IsPart v3 (some c)) (hc : c ≠ 0)
    (hz : Z ((Builtin.Slice.sliceAdjust o1 o2 c n).1, c, Builtin.Slice.slicePlaces (Builtin.Slice.sliceAdjust o1 o2 c n).1 (Builtin.Slice.sliceAdjust o1 o2 c n).2 c) s0) :
    wpAny (model prog w) A (Builtin.Slice.sliceApplied (.ref q) (pure (n : Int))) Z E s0 := by
  obtain ⟨ob, e1, e2, e3⟩ := id hq
  unfold Builtin.Slice.sliceApplied; unfold Builtin.Slice.sliceFields
  refine wpAny_bind (wpAny_bind (wpAny_field e1 e3 (x := v1) rfl (wpAny_bind (wpAny_field e1 e3 (x := v2) rfl (wpAny_bind (wpAny_field e1 e3 (x := v3) rfl (wpAny_pure ?_)))))))
  refine wpAny_bind (HT.slicePart_ p3 ?_)
  have n0 : ¬ ((c == 0) = true) := fun z => hc (eq_of_beq z)
  show wpAny _ _ (if (c == 0) = true then _ else _) _ _ s0
  rw [if_neg n0]
  exact wpAny_bind (HT.slicePart_ p1 (wpAny_bind (HT.slicePart_ p2 (wpAny_bind (wpAny_pure (wpAny_pure hz))))))
theorem getTup_step {t0 q : Addr} {zs : Array Value} {v1 v2 v3 : Value} {o1 o2 : Option Int} {c : Int} {Z : Value → Shared → Prop} (h0 : IsTup s0.heap t0 zs) (hq : s0.heap.IsSliceOf q v1 v2 v3) (p1 : IsPart v1 o1) (p2 : IsPart v2 o2) (p3 : IsPart v3 (some c)) (hc : c ≠ 0) (hc1 : c ≠ 1)
    (hl : (stepL zs.toList o1 o2 c).length ≤ sizeLine)
    (hz : Z (.ref s0.heap.objs.size) { s0 with heap := s0.heap.push { cls := .type "tuple", data := .seq (stepL zs.toList o1 o2 c).toArray } }) : wpAny (model prog w) A (getItem (.ref t0) (.ref q)) Z E s0 := by
  have tS : s0.TypeIs (.ref q) "slice" := by
    obtain ⟨ob, e1, e2, e3⟩ := id hq
    exact ⟨ob, e1, e2⟩
  have big : sizeOk (.seq (stepL zs.toList o1 o2 c).toArray) := by
    show (stepL zs.toList o1 o2 c).toArray.size ≤ sizeLine
    rw [List.size_toArray]
    exact hl
  unfold getItem; (try with_reducible refine wpAny_holding ?_); (first | refine wpAny_bind (wpAny_pure ?_) | skip)
  refine wpAny_bind (wpAny_sequenceKey h0.typeIs (by decide) ?_)
  refine wpAny_bind (wpAny_callSpecial?_slot (name := Str.ofString "__getitem__") h0.typeIs PyProof.Rows.slot_tuple_getitem (wpAny_call_entry PyProof.Rows.slot_tuple_getitem h0.typeIs entry_tuple_getitem ?_ (args_tuple_getitem _ _)))
  show wpAny _ _ (Builtin.Tuple.tupleItemsOf (.ref t0) >>= _) _ _ s0
  refine wpAny_bind (tupleItemsOf_ h0 (wpAny_bind (wpAny_typeOf tS ?_)))
  rw [if_pos (by decide)]
  refine wpAny_bind (applied_step hq p1 p2 p3 hc ?_)
  have n1 : (c == 1) = false := by
    rw [beq_eq_false_iff_ne]
    exact hc1
  have e : ((List.range (Builtin.Slice.slicePlaces (Builtin.Slice.sliceAdjust o1 o2 c (zs.size : Nat)).1 (Builtin.Slice.sliceAdjust o1 o2 c (zs.size : Nat)).2 c)).filterMap fun (k : Nat) => zs[((Builtin.Slice.sliceAdjust o1 o2 c (zs.size : Nat)).1 + (k : Int) * c).toNat]?).toArray = (stepL zs.toList o1 o2 c).toArray := by
    unfold stepL
    rw [Array.length_toList]
    congr 2
    funext k
    exact (Array.getElem?_toList ..).symm
  show wpAny _ _ (if (_ == 0 && c == 1 && _ == zs.size) = true then _ else _) _ _ s0
  rw [n1, Bool.and_false, Bool.false_and, if_neg Bool.false_ne_true, e]
  first
    | exact wpAny_bind (m := Builtin.Tuple.tupleExact _) (wpAny_newObj_type (wpAny_pure ⟨_, rfl, wpAny_pure hz⟩) big)
    | exact wpAny_bind (m := Builtin.Tuple.tupleExact _) (wpAny_newObj_type (wpAny_bind (wpAny_pure (wpAny_pure ⟨_, rfl, wpAny_pure hz⟩))) big)
    | exact wpAny_bind (wpAny_bind (m := Builtin.Tuple.tupleExact _) (wpAny_newObj_type (wpAny_pure (wpAny_pure ⟨_, rfl, wpAny_pure hz⟩)) big))
    | exact wpAny_bind (wpAny_bind (m := Builtin.Tuple.tupleExact _) (wpAny_newObj_type (wpAny_pure ⟨_, rfl, wpAny_pure hz⟩) big))
end
theorem vals_pickF {xs : List V} {us : List Value} (r : Vals xs us) (f : Nat → Nat) : ∀ ks : List Nat, Vals (ks.filterMap fun k => xs[f k]?) (ks.filterMap fun k => us[f k]?)
  | [] => .nil
  | k :: ks => by
    have ih := vals_pickF r f ks
    rw [List.filterMap_cons, List.filterMap_cons]
    by_cases hk : f k < xs.length
    · have e := List.getElem?_eq_getElem hk
      obtain ⟨u, e2, ru⟩ := r.get e
      rw [e, e2]
      exact .cons ru ih
    · have e : xs[f k]? = none := List.getElem?_eq_none (by omega)
      have e2 : us[f k]? = none := List.getElem?_eq_none (by rw [← r.length]; omega)
      rw [e, e2]
      exact ih
theorem dv_pickF {K : Frag} {as : List Addr} {H : Hp} {vs : List V} {ps : List PyData} (r : DvAll K as H vs ps) (f : Nat → Nat) : ∀ ks : List Nat, DvAll K as H (ks.filterMap fun k => vs[f k]?) (ks.filterMap fun k => ps[f k]?)
  | [] => .nil
  | k :: ks => by
    have ih := dv_pickF r f ks
    rw [List.filterMap_cons, List.filterMap_cons]
    by_cases hk : f k < ps.length
    · have e := List.getElem?_eq_getElem hk
      obtain ⟨u, e2, ru⟩ := r.get e
      rw [e, e2]
      exact .cons ru ih
    · have e : ps[f k]? = none := List.getElem?_eq_none (by omega)
      have e2 : vs[f k]? = none := List.getElem?_eq_none (by rw [r.length]; omega)
      rw [e, e2]
      exact ih
theorem vals_step {xs : List V} {us : List Value} (r : Vals xs us) (lo hi : Option Int) (c : Int) : Vals (stepL xs lo hi c) (stepL us lo hi c) := by
  unfold stepL
  rw [r.length]
  exact vals_pickF r _ _
theorem dv_step {K : Frag} {as : List Addr} {H : Hp} {vs : List V} {ps : List PyData} (r : DvAll K as H vs ps) (lo hi : Option Int) (c : Int) : DvAll K as H (stepL vs lo hi c) (stepL ps lo hi c) := by
  unfold stepL
  rw [r.length]
  exact dv_pickF r _ _
/-- a step that is told in the text -/
def StepC (X : Cx) (e : Expr) (c : Int) : Prop := ∃ t, PO X (some e) t ∧ ∀ σ H (Q : Option Int → Hp → Prop), Q (some c) H → t σ H Q
theorem stepc_int {X : Cx} {j : Int} {k : Nat} {p1 : Pos} : StepC X (.Constant (.int j) k p1) j := ⟨_, po_some pe_int, fun _ _ _ q => ⟨j, rfl, q⟩⟩
theorem stepc_neg {X : Cx} {j : Int} {k : Nat} {p1 p2 : Pos} : StepC X (.UnaryOp .USub (.Constant (.int j) k p1) p2) (-j) := ⟨_, po_some (pe_un un_neg pe_int), fun _ _ _ q => ⟨j, rfl, -j, rfl, q⟩⟩
def tSlS (K : Frag) (te : TE) (tl th : TO) (c : Int) : TE := fun σ H Q => te σ H fun x H1 => tl σ H1 fun l H2 => th σ H2 fun u H3 => ∃ a xs, x = .ref a ∧ SqT K H3 a xs ∧ (stepL xs l u c).length ≤ sizeLine ∧ ∀ p, H3 p = none → Q (.ref p) (upd H3 p (.tup (stepL xs l u c)))
theorem pe_slS {X : Cx} {e se : Expr} {te : TE} {lo hi : Option Expr} {tl th : TO} {pos p2 : Pos} {c : Int} (c0 : c ≠ 0) (c1 : c ≠ 1) (he : PE X e te) (hl : PO X lo tl) (hu : PO X hi th) (hs : StepC X se c) :
    PE X (.Subscript e (.Slice lo hi (some se) p2) pos) (tSlS X.K te tl th c) := by
  obtain ⟨ts, hs, hts⟩ := hs
  refine ⟨fun pn a0 sg G0 Q0 J0 w0 => ?_⟩
  refine Subscript_ (thn (he.run pn a0 sg G0 _ J0 w0) fun v a1 ⟨x, G1, J1, r1, w1⟩ => ?_)
  refine wpAny_Slice (thn (hl.run pn a1 sg G1 _ J1 w1) fun v1 a2 ⟨l, G2, J2, m1, w2⟩ => thn (hu.run pn a2 sg G2 _ J2 w2) fun v2 a3 ⟨u, G3, J3, m2, w3⟩ => ?_)
  refine thn (hs.run pn a3 sg G3 (fun o G4 => o = some c ∧ G4 = G3) J3 (hts sg G3 _ ⟨rfl, rfl⟩)) fun v3 a4 ⟨o, G4, J4, m3, eo, eG⟩ => ?_
  subst eo eG
  obtain ⟨b, xs, rfl, sx, hz, q⟩ := w3
  cases r1
  have J5 : Inv X pn sg G4 { a4 with heap := a4.heap.push { cls := .type "slice", data := .fields #[v1, v2, v3] } } := J4.kept (t' := a4.toks) fun _ _ z => Heap.get?_push_of_some _ z
  obtain ⟨its, rv, ht, hn⟩ := J5.tuple sx
  show wpAny (model X.prog X.w) X.A (subscriptTail e (.Slice lo hi (some se) p2) (.ref b) (.ref a4.heap.objs.size)) (EP X pn sg Q0) X.xe { a4 with heap := a4.heap.push { cls := .type "slice", data := .fields #[v1, v2, v3] } }
  refine tail_any (ops := [.ref b, .ref a4.heap.objs.size]) ht.typeIs PyProof.Rows.slot_tuple_getitem.lookup ?_ (by with_unfolding_all rfl)
  have vr := vals_step rv l u c
  refine getTup_step ht (Heap.IsSliceOf.new _ v1 v2 v3) m1 m2 m3 c0 c1 (by rw [← vr.length]; exact hz) ?_
  exact ⟨.ref _, _, J5.laid (t' := a4.toks) (o := .tup (stepL xs l u c)) (fun _ _ z => Heap.get?_push_of_some _ z) (Nat.le_refl _) ⟨hz, _, vr, IsTup.new _ _⟩, rfl, q _ (J5.hok.fresh (Nat.le_refl _))⟩
def fSlT (c : Int) (fa : WE) (lo hi : En → Ho → (Option Int → Ho → Prop) → XD → Prop) : WE := fun ρ h Q E => fa ρ h (fun x h1 => lo ρ h1 (fun l h2 => hi ρ h2 (fun u h3 => match x with
  | .d (.tuple ps) => (stepL ps l u c).length ≤ sizeLine ∧ Q (.d (.tuple (stepL ps l u c))) h3
  | _ => False) E) E) E
theorem SE.slT {X : Cx} {W : WX} {a se : Expr} {fa : WE} {lo hi : Option Expr} {fl fu} {p2 pos : Pos} {c : Int} (c0 : c ≠ 0) (c1 : c ≠ 1) (ha : SE X W a fa) (hl : SO X W lo fl) (hu : SO X W hi fu) (hs : StepC X se c) : SE X W (.Subscript a (.Slice lo hi (some se) p2) pos) (fSlT c fa fl fu) := by
  obtain ⟨_, pa, sa⟩ := ha
  obtain ⟨_, pl, sl⟩ := hl
  obtain ⟨_, pu, su⟩ := hu
  refine ⟨_, pe_slS c0 c1 pa pl pu hs, fun σ H as ρ h Q E QV eR hR hq k kx => ?_⟩
  refine sa σ H as ρ h _ E _ eR hR hq (fun x h1 v as1 H1 hq1 l1 r1 rv => ?_) kx
  refine sl σ H1 as1 ρ h1 _ E _ (eR.later l1) r1 hq1 (fun lo h2 as2 H2 hq2 l2 r2 => ?_) (kx.later l1)
  refine su σ H2 as2 ρ h2 _ E _ ((eR.later l1).later l2) r2 hq2 (fun hi h3 as3 H3 hq3 l3 r3 => ?_) ((kx.later l1).later l2)
  have k3 := ((k.later l1).later l2).later l3
  have rv3 := (rv.later l2).later l3
  split at hq3
  · cases rv3 with | d rv3 =>
    cases rv3 with | tup sx ax =>
    have d := dv_step ax lo hi c
    exact ⟨_, _, rfl, sx.sq, by rw [d.length]; exact hq3.1, fun p hp => k3.newTup r3 hq3.2 d hp⟩
  · exact hq3.elim
end V2
set_option Elab.async false
set_option linter.all false
set_option maxRecDepth 100000
set_option maxHeartbeats 4000000
/-! ## The simplest fraction of a range -/
namespace V2
open PySem PySem.Spec PyProof.Rows L2
theorem rle {a b : Rat} : a ≤ b ↔ a.num * b.den ≤ b.num * a.den := Rat.le_iff a b
theorem rlt {a b : Rat} : a < b ↔ a.num * b.den < b.num * a.den := Rat.lt_iff a b
theorem dpos (a : Rat) : (0 : Int) < a.den := by have := a.den_nz; omega
theorem int_num (p : Int) : (p : Rat).num = p := rfl
theorem int_den (p : Int) : (p : Rat).den = 1 := rfl
/-- an integer more -/
theorem padd (p : Int) (q : Rat) : ((p : Rat) + q).num = p * q.den + q.num ∧ ((p : Rat) + q).den = q.den := by
  have cop : Nat.Coprime (p * q.den + q.num).natAbs q.den := by
    have h1 := Nat.gcd_dvd_left (p * q.den + q.num).natAbs q.den
    have h2 := Nat.gcd_dvd_right (p * q.den + q.num).natAbs q.den
    have h3 : ((Nat.gcd (p * q.den + q.num).natAbs q.den : Nat) : Int) ∣ p * q.den + q.num := Int.ofNat_dvd_left.2 h1
    have h4 : ((Nat.gcd (p * q.den + q.num).natAbs q.den : Nat) : Int) ∣ (q.den : Int) := Int.natCast_dvd_natCast.2 h2
    have h5 : ((Nat.gcd (p * q.den + q.num).natAbs q.den : Nat) : Int) ∣ q.num := by
      have := Int.dvd_sub h3 (Int.dvd_trans h4 (Int.dvd_mul_left p _))
      have e : p * (q.den : Int) + q.num - p * q.den = q.num := by omega
      rwa [e] at this
    have h6 := Nat.dvd_gcd (Int.ofNat_dvd_left.1 h5) h2
    have h7 : Nat.gcd q.num.natAbs q.den = 1 := q.reduced
    rw [h7] at h6
    exact Nat.dvd_one.1 h6
  have e : (p : Rat) + q = ⟨p * q.den + q.num, q.den, q.den_nz, cop⟩ := by
    rw [Rat.mk_eq_mkRat, add_mk, int_num, int_den, Rat.mkRat_eq_iff (by have := q.den_nz; omega) q.den_nz]
    simp
  rw [e]
  exact ⟨rfl, rfl⟩
theorem psub (p : Int) (q : Rat) : (q - (p : Rat)).num = q.num - p * q.den ∧ (q - (p : Rat)).den = q.den := by
  have e : q - (p : Rat) = ((-p : Int) : Rat) + q := by rw [Rat.intCast_neg]; grind
  rw [e]
  have := padd (-p) q
  exact ⟨by rw [this.1, Int.neg_mul]; omega, this.2⟩
theorem inv_nd {t : Rat} (h : 0 < t.num) : (1 / t).num = t.den ∧ ((1 / t).den : Int) = t.num := by
  have e : 1 / t = t⁻¹ := by rw [Rat.div_def, Rat.one_mul]
  have := inv_pos t h
  rw [← e] at this
  simp only [fr, PyData.tuple.injEq, List.cons.injEq, PyData.int.injEq, and_true] at this
  exact this
/-! ### floors and ceilings -/
def flo (q : Rat) : Int := q.num.fdiv q.den
def cei (q : Rat) : Int := -((-q.num).fdiv q.den)
theorem flo_iff {p : Int} {q : Rat} : p ≤ flo q ↔ (p : Rat) ≤ q := by
  rw [rle, int_num, int_den]
  unfold flo
  rw [fdiv_nat, Int.le_ediv_iff_mul_le (dpos q)]
  simp
theorem cei_iff {p : Int} {q : Rat} : cei q ≤ p ↔ q ≤ (p : Rat) := by
  rw [rle, int_num, int_den]
  unfold cei
  rw [fdiv_nat]
  have h := Int.le_ediv_iff_mul_le (a := -p) (b := -q.num) (dpos q)
  have : -(-q.num / (q.den : Int)) ≤ p ↔ -p ≤ -q.num / (q.den : Int) := by omega
  rw [this, h, Int.neg_mul]
  simp only [Int.natCast_one, Int.mul_one]
  omega
theorem flo_le (q : Rat) : (flo q : Rat) ≤ q := flo_iff.1 (Int.le_refl _)
theorem le_cei (q : Rat) : q ≤ (cei q : Rat) := cei_iff.1 (Int.le_refl _)
theorem int_le {p r : Int} : (p : Rat) ≤ (r : Rat) ↔ p ≤ r := by rw [rle]; simp [int_num, int_den]
theorem flo_mono {a b : Rat} (h : a ≤ b) : flo a ≤ flo b := flo_iff.2 (Rat.le_trans (flo_le a) h)
/-! ### of all in a range: the least bottom, of these the least; where all are above 0 the least top, too -/
structure Best (lo hi r : Rat) : Prop where
  ge : lo ≤ r
  le : r ≤ hi
  den : ∀ x, lo ≤ x → x ≤ hi → r.den ≤ x.den
  low : ∀ x, lo ≤ x → x ≤ hi → x.den = r.den → r ≤ x
  num : 0 < lo.num → ∀ x, lo ≤ x → x ≤ hi → r.num ≤ x.num
theorem Best.unique {lo hi r s : Rat} (a : Best lo hi r) (b : Best lo hi s) : r = s := by
  have h1 := a.den s b.ge b.le
  have h2 := b.den r a.ge a.le
  exact Rat.le_antisymm (a.low s b.ge b.le (by omega)) (b.low r a.ge a.le (by omega))
theorem pos_of_le {a b : Rat} (h : a ≤ b) (ha : 0 < a.num) : 0 < b.num := by
  rw [rle] at h
  have h1 : 0 < a.num * b.den := Int.mul_pos ha (dpos b)
  exact Int.pos_of_mul_pos_left (Int.lt_of_lt_of_le h1 h) (dpos a)
theorem best_stop {lo hi : Rat} (h : cei lo ≤ flo hi) : Best lo hi (cei lo : Rat) where
  ge := le_cei lo
  le := flo_iff.1 h
  den := fun x _ _ => by rw [int_den]; have := x.den_nz; omega
  low := fun x h1 _ e => by
    rw [int_den] at e
    have ex : x = (x.num : Rat) := Rat.ext rfl (by rw [e]; rfl)
    rw [ex] at h1 ⊢
    exact int_le.2 (cei_iff.2 h1)
  num := fun hp x h1 _ => by
    rw [int_num]
    have hx := pos_of_le h1 hp
    refine cei_iff.2 (Rat.le_trans h1 ?_)
    rw [rle, int_num, int_den]
    have := dpos x
    have e : x.num * ((1 : Nat) : Int) = x.num * 1 := rfl
    rw [e]
    exact Int.mul_le_mul_of_nonneg_left (by omega) (by omega)
theorem inv_le {a b : Rat} (ha : 0 < a.num) (h : a ≤ b) : 1 / b ≤ 1 / a := by
  have hb := pos_of_le h ha
  rw [rle] at h ⊢
  rw [(inv_nd ha).1, (inv_nd ha).2, (inv_nd hb).1, (inv_nd hb).2]
  rw [Int.mul_comm, Int.mul_comm (a.den : Int)]
  exact h
theorem inv_inv' {a : Rat} (ha : 0 < a.num) : 1 / (1 / a) = a := by
  have h1 := inv_nd ha
  have h2 := inv_nd (t := 1 / a) (by rw [h1.1]; exact dpos a)
  refine Rat.ext ?_ ?_
  · rw [h2.1, h1.2]
  · have := h2.2
    rw [h1.1] at this
    exact_mod_cast this
/-- the range of one turn further -/
structure Turned (lo hi : Rat) (p : Int) : Prop where
  p_eq : p = flo lo
  le : lo ≤ hi
  no : ¬ cei lo ≤ flo hi
section
variable {lo hi : Rat} {p : Int} (t : Turned lo hi p)
include t
theorem Turned.lo_pos : 0 < (lo - (p : Rat)).num := by
  have h1 : ¬ lo ≤ (p : Rat) := fun z => t.no (Int.le_trans (cei_iff.2 z) (by rw [t.p_eq]; exact flo_mono t.le))
  rw [rle, int_num, int_den] at h1
  rw [(psub p lo).1]
  simp only [Int.natCast_one, Int.mul_one] at h1
  omega
theorem Turned.sub_le : lo - (p : Rat) ≤ hi - (p : Rat) := by
  have h := t.le
  rw [rle] at h ⊢
  rw [(psub p lo).1, (psub p lo).2, (psub p hi).1, (psub p hi).2, Int.sub_mul, Int.sub_mul]
  have e : p * (lo.den : Int) * hi.den = p * hi.den * lo.den := by grind
  omega
theorem Turned.hi_pos : 0 < (hi - (p : Rat)).num := pos_of_le t.sub_le t.lo_pos
theorem Turned.hi_lt : (hi - (p : Rat)).num < hi.den := by
  have h1 : cei lo ≤ p + 1 := by
    refine cei_iff.2 ?_
    have : ¬ p + 1 ≤ flo lo := by have := t.p_eq; omega
    rw [flo_iff] at this
    exact Rat.le_of_lt (Rat.not_le.1 this)
  have h2 : ¬ p + 1 ≤ flo hi := fun z => t.no (Int.le_trans h1 z)
  rw [flo_iff, rle, int_num, int_den] at h2
  rw [(psub p hi).1]
  have e : (p + 1) * (hi.den : Int) = p * hi.den + hi.den := by rw [Int.add_mul, Int.one_mul]
  rw [e] at h2
  simp only [Int.natCast_one, Int.mul_one] at h2
  omega
theorem Turned.lo_lt : (lo - (p : Rat)).num < lo.den := by
  have : ¬ p + 1 ≤ flo lo := by have := t.p_eq; omega
  rw [flo_iff, rle, int_num, int_den] at this
  rw [(psub p lo).1]
  have e : (p + 1) * (lo.den : Int) = p * lo.den + lo.den := by rw [Int.add_mul, Int.one_mul]
  rw [e] at this
  simp only [Int.natCast_one, Int.mul_one] at this
  omega
theorem Turned.range : 1 / (hi - (p : Rat)) ≤ 1 / (lo - (p : Rat)) := inv_le t.lo_pos t.sub_le
theorem Turned.a_pos : 0 < (1 / (hi - (p : Rat))).num := by rw [(inv_nd t.hi_pos).1]; exact dpos _
theorem Turned.dens : (1 / (hi - (p : Rat))).den < hi.den ∧ (1 / (lo - (p : Rat))).den < lo.den := by
  have h1 := (inv_nd t.hi_pos).2
  have h2 := (inv_nd t.lo_pos).2
  have h3 := t.hi_lt
  have h4 := t.lo_lt
  omega
theorem Turned.sz {n : Nat} (s1 : Sz n lo) (s2 : Sz n hi) : Sz n (1 / (hi - (p : Rat))) ∧ Sz n (1 / (lo - (p : Rat))) := by
  have h1 := inv_nd t.hi_pos
  have h2 := inv_nd t.lo_pos
  have d := t.dens
  refine ⟨⟨?_, Nat.lt_trans d.1 s2.2⟩, ⟨?_, Nat.lt_trans d.2 s1.2⟩⟩
  · rw [h1.1, (psub p hi).2, nab]; exact s2.2
  · rw [h2.1, (psub p lo).2, nab]; exact s1.2
theorem best_step {r : Rat} (b : Best (1 / (hi - (p : Rat))) (1 / (lo - (p : Rat))) r) : Best lo hi ((p : Rat) + 1 / r) := by
  have hr : 0 < r.num := pos_of_le b.ge t.a_pos
  have ir := inv_nd hr
  have pr := padd p (1 / r)
  -- x, and what it is a turn further
  have key : ∀ x, lo ≤ x → x ≤ hi → ∃ y, 1 / (hi - (p : Rat)) ≤ y ∧ y ≤ 1 / (lo - (p : Rat)) ∧ (x.den : Int) = y.num ∧ x.num = p * y.num + y.den := by
    intro x h1 h2
    have hx : 0 < (x - (p : Rat)).num := by
      refine pos_of_le ?_ t.lo_pos
      rw [rle] at h1 ⊢
      rw [(psub p lo).1, (psub p lo).2, (psub p x).1, (psub p x).2, Int.sub_mul, Int.sub_mul]
      have e : p * (lo.den : Int) * x.den = p * x.den * lo.den := by grind
      omega
    have l1 : lo - (p : Rat) ≤ x - (p : Rat) := by
      rw [rle] at h1 ⊢
      rw [(psub p lo).1, (psub p lo).2, (psub p x).1, (psub p x).2, Int.sub_mul, Int.sub_mul]
      have e : p * (lo.den : Int) * x.den = p * x.den * lo.den := by grind
      omega
    have l2 : x - (p : Rat) ≤ hi - (p : Rat) := by
      rw [rle] at h2 ⊢
      rw [(psub p hi).1, (psub p hi).2, (psub p x).1, (psub p x).2, Int.sub_mul, Int.sub_mul]
      have e : p * (hi.den : Int) * x.den = p * x.den * hi.den := by grind
      omega
    have ix := inv_nd hx
    refine ⟨1 / (x - (p : Rat)), inv_le hx l2, inv_le t.lo_pos l1, ?_, ?_⟩
    · rw [ix.1, (psub p x).2]
    · rw [ix.1, ix.2, (psub p x).1, (psub p x).2]; omega
  have cmp : ∀ x, ((p : Rat) + 1 / r ≤ x ↔ (p * r.num + r.den) * x.den ≤ x.num * r.num) ∧ (x ≤ (p : Rat) + 1 / r ↔ x.num * r.num ≤ (p * r.num + r.den) * x.den) := by
    intro x
    rw [rle, rle, pr.1, pr.2, ir.1, ir.2]
    exact ⟨Iff.rfl, Iff.rfl⟩
  refine ⟨?_, ?_, ?_, ?_, ?_⟩
  · have h := b.le
    rw [rle, (inv_nd t.lo_pos).1, (inv_nd t.lo_pos).2, (psub p lo).1, (psub p lo).2] at h
    rw [(cmp lo).2]
    have e1 : r.num * (lo.num - p * lo.den) = lo.num * r.num - p * r.num * lo.den := by grind
    have e2 : (p * r.num + (r.den : Int)) * lo.den = p * r.num * lo.den + lo.den * r.den := by grind
    omega
  · have h := b.ge
    rw [rle, (inv_nd t.hi_pos).1, (inv_nd t.hi_pos).2, (psub p hi).1, (psub p hi).2] at h
    rw [(cmp hi).1]
    have e1 : r.num * (hi.num - p * hi.den) = hi.num * r.num - p * r.num * hi.den := by grind
    have e2 : (p * r.num + (r.den : Int)) * hi.den = p * r.num * hi.den + hi.den * r.den := by grind
    omega
  · intro x h1 h2
    obtain ⟨y, g1, g2, e1, e2⟩ := key x h1 h2
    have := b.num t.a_pos y g1 g2
    rw [pr.2]
    have := ir.2
    omega
  · intro x h1 h2 e
    obtain ⟨y, g1, g2, e1, e2⟩ := key x h1 h2
    have hd := b.den y g1 g2
    rw [pr.2] at e
    have en : y.num = r.num := by have := ir.2; omega
    rw [(cmp x).1, e1, e2, en]
    exact Int.mul_le_mul_of_nonneg_right (by omega) (by omega)
  · intro hp x h1 h2
    obtain ⟨y, g1, g2, e1, e2⟩ := key x h1 h2
    have hd := b.den y g1 g2
    have hn := b.num t.a_pos y g1 g2
    rw [pr.1, ir.1, ir.2, e2]
    have p0 : 0 ≤ p := by
      rw [t.p_eq, flo_iff, rle]
      have : (0 : Int) ≤ lo.num := by omega
      simpa [int_num, int_den] using this
    have := Int.mul_le_mul_of_nonneg_left hn p0
    omega
end
theorem Best.sz {lo hi r : Rat} {n : Nat} (b : Best lo hi r) (s1 : Sz n lo) (s2 : Sz n hi) : Sz (n + n) r := by
  have hd := b.den lo (Rat.le_refl) (Rat.le_trans b.ge b.le)
  have hdn : r.den < 2 ^ n := Nat.lt_of_le_of_lt hd s1.2
  refine ⟨?_, Nat.lt_of_lt_of_le hdn (Nat.pow_le_pow_right (by decide) (by omega))⟩
  have h1 := rle.1 b.ge
  have h2 := rle.1 b.le
  rw [Nat.pow_add]
  have dl := dpos lo
  have dh := dpos hi
  have dr := dpos r
  by_cases c : 0 ≤ r.num
  · have k1 : r.num ≤ r.num * hi.den := by
      have := Int.mul_le_mul_of_nonneg_left (show (1 : Int) ≤ hi.den by omega) c
      omega
    have k2 : hi.num * r.den ≤ hi.num.natAbs * r.den := Int.mul_le_mul_of_nonneg_right (by omega) (by omega)
    have k3 : r.num.natAbs ≤ hi.num.natAbs * r.den := by
      have : (r.num.natAbs : Int) ≤ ((hi.num.natAbs * r.den : Nat) : Int) := by rw [Int.natCast_mul]; omega
      exact_mod_cast this
    exact Nat.lt_of_le_of_lt k3 (Nat.mul_lt_mul'' s2.1 hdn)
  · have k1 : -r.num ≤ (-r.num) * lo.den := by
      have := Int.mul_le_mul_of_nonneg_left (show (1 : Int) ≤ lo.den by omega) (show 0 ≤ -r.num by omega)
      omega
    have k2 : (-lo.num) * r.den ≤ lo.num.natAbs * r.den := Int.mul_le_mul_of_nonneg_right (by omega) (by omega)
    rw [Int.neg_mul] at k1 k2
    have k3 : r.num.natAbs ≤ lo.num.natAbs * r.den := by
      have : (r.num.natAbs : Int) ≤ ((lo.num.natAbs * r.den : Nat) : Int) := by rw [Int.natCast_mul]; omega
      exact_mod_cast this
    exact Nat.lt_of_le_of_lt k3 (Nat.mul_lt_mul'' s1.1 hdn)
/-- what was taken, the last one first -/
def Chain (n : Nat) (lo hi : Rat) : List Int → Rat → Rat → Prop
  | [], a, b => a = lo ∧ b = hi
  | p :: us, a, b => ∃ a' b', Chain n lo hi us a' b' ∧ Turned a' b' p ∧ a = 1 / (b' - (p : Rat)) ∧ b = 1 / (a' - (p : Rat)) ∧ Sz n a' ∧ Sz n b'
end V2
set_option Elab.async false
set_option linter.all false
set_option maxRecDepth 100000
set_option maxHeartbeats 4000000
namespace V2
open PySem PySem.Spec PyProof.Rows L2
section
variable {ρ : En} {h : Ho} {Q : KD} {E : XD} {nx : En → Ho → Prop} {rt : KD} {bk ct : En → Ho → Prop} {ex : Ex → En → Ho → Prop} {f : WS} {t : WT}
theorem i_eqsr {i : Str} (k : Q (.d (.bool true)) h) : rEq2 (.d (.str i)) (.d (.str i)) h Q := by
  refine i_eqs ?_
  rw [decide_eq_true rfl]
  exact k
theorem i_whileE (I : Nat → En → Ho → Prop) {m0 : Nat} (h0 : I m0 ρ h)
    (hs : ∀ m ρ h, I m ρ h → t ρ h (fun b h1 => if b = true then f ρ h1 ⟨fun ρ' h' => ∃ m', m' < m ∧ I m' ρ' h', rt, nx, fun ρ' h' => ∃ m', m' < m ∧ I m' ρ' h', ex⟩ else nx ρ h1) (fun x h => ex x ρ h)) : sWhile t f ρ h ⟨nx, rt, bk, ct, ex⟩ :=
  ⟨I, ⟨m0, h0⟩, hs⟩
theorem i_slT {c : Int} {n : Nat} {ps : List PyData} (e : GetAt n ρ (.d (.tuple ps))) (hl : (stepL ps none none c).length ≤ sizeLine) (k : Q (.d (.tuple (stepL ps none none c))) h) : fSlT c (fVar n) oNone oNone ρ h Q E := i_var e ⟨hl, k⟩
theorem i_range2 {ga : WA} {QI : List D → (Ho → Prop) → Ho → Prop} (k : ga ρ h (fun ys h1 => ∃ i j, ys = [.d (.int i), .d (.int j)] ∧ (-(2 ^ 62) ≤ i ∧ i < 2 ^ 62 ∧ -(2 ^ 62) ≤ j ∧ j < 2 ^ 62) ∧ QI (rangeD i (j - i).toNat) (fun _ => True) h1) E) : iRange2 ga ρ h QI E := by
  have e : (fun (ys : List D) (h1 : Ho) => ∃ i j, ys = [.d (.int i), .d (.int j)] ∧ (-(2 ^ 62) ≤ i ∧ i < 2 ^ 62 ∧ -(2 ^ 62) ≤ j ∧ j < 2 ^ 62) ∧ QI (rangeD i (j - i).toNat) (fun _ => True) h1) = (fun ys h1 => match ys with
      | [.d (.int i), .d (.int j)] => (-(2 ^ 62) ≤ i ∧ i < 2 ^ 62 ∧ -(2 ^ 62) ≤ j ∧ j < 2 ^ 62) ∧ QI (rangeD i (j - i).toNat) (fun _ => True) h1
      | _ => False) := by
    funext ys h1
    apply propext
    constructor
    · rintro ⟨i, j, rfl, hq⟩; exact hq
    · split
      · exact fun hq => ⟨_, _, rfl, hq⟩
      · exact False.elim
  rw [e] at k
  exact k
theorem i_isr2 {i j : Int} {P : Int → Int → Prop} (k : P i j) : ∃ i' j', [D.d (.int i), D.d (.int j)] = [.d (.int i'), .d (.int j')] ∧ P i' j' := ⟨i, j, rfl, k⟩
end
theorem rev2 (x y : PyData) : stepL [x, y] none none (-1) = [y, x] := by
  simp [stepL, Builtin.Slice.sliceAdjust, Builtin.Slice.slicePlaces, List.range, List.range.loop]
/-! ### quotients beside what is less -/
theorem mk_cross {c : Int} {d : Nat} (hd : d ≠ 0) : (mkRat c d).num * d = c * (mkRat c d).den := by
  have h : mkRat (mkRat c d).num (mkRat c d).den = mkRat c d := Rat.mkRat_self _
  exact (Rat.mkRat_eq_iff (mkRat c d).den_nz hd).1 h
theorem le_mk {a : Rat} {c : Int} {d : Nat} (hd : d ≠ 0) : a ≤ mkRat c d ↔ a.num * d ≤ c * a.den := by
  have e := mk_cross (c := c) hd
  rw [rle]
  have dr := dpos (mkRat c d)
  have dd : (0 : Int) < d := by omega
  generalize mkRat c d = r at *
  constructor
  · intro h
    have := Int.mul_le_mul_of_nonneg_right h (Int.le_of_lt dd)
    have e1 : r.num * (a.den : Int) * d = (c * a.den) * r.den := by rw [Int.mul_right_comm, e]; grind
    have e2 : a.num * (r.den : Int) * d = (a.num * d) * r.den := by grind
    rw [e1, e2] at this
    exact Int.le_of_mul_le_mul_right this dr
  · intro h
    have := Int.mul_le_mul_of_nonneg_right h (Int.le_of_lt dr)
    have e1 : r.num * (a.den : Int) * d = (c * a.den) * r.den := by rw [Int.mul_right_comm, e]; grind
    have e2 : a.num * (r.den : Int) * d = (a.num * d) * r.den := by grind
    rw [← e1, ← e2] at this
    exact Int.le_of_mul_le_mul_right this dd
theorem mk_le {a : Rat} {c : Int} {d : Nat} (hd : d ≠ 0) : mkRat c d ≤ a ↔ c * a.den ≤ a.num * d := by
  have e := mk_cross (c := c) hd
  rw [rle]
  have dr := dpos (mkRat c d)
  have dd : (0 : Int) < d := by omega
  generalize mkRat c d = r at *
  have e1 : r.num * (a.den : Int) * d = (c * a.den) * r.den := by rw [Int.mul_right_comm, e]; grind
  have e2 : a.num * (r.den : Int) * d = (a.num * d) * r.den := by grind
  constructor
  · intro h
    have := Int.mul_le_mul_of_nonneg_right h (Int.le_of_lt dd)
    rw [e1, e2] at this
    exact Int.le_of_mul_le_mul_right this dr
  · intro h
    have := Int.mul_le_mul_of_nonneg_right h (Int.le_of_lt dr)
    rw [← e1, ← e2] at this
    exact Int.le_of_mul_le_mul_right this dd
theorem mk_den_le {c : Int} {d : Nat} (hd : d ≠ 0) : (mkRat c d).den ≤ d := by
  rw [Rat.den_mkRat, if_neg hd]
  exact Nat.div_le_self _ _
theorem mk_num_le {c : Int} {d : Nat} (hd : d ≠ 0) (hc : 0 ≤ c) : (mkRat c d).num ≤ c := by
  rw [Rat.num_mkRat, if_neg hd]
  exact Int.ediv_le_self _ hc
/-- a fraction of two numbers of which a sum of multiples is 1 -/
theorem rat_of {n : Int} {d : Nat} (hd : d ≠ 0) {u v : Int} (e : u * n + v * d = 1) : ∃ r : Rat, r.num = n ∧ r.den = d := by
  have cop : Nat.Coprime n.natAbs d := by
    have h1 : ((Nat.gcd n.natAbs d : Nat) : Int) ∣ n := Int.ofNat_dvd_left.2 (Nat.gcd_dvd_left _ _)
    have h2 : ((Nat.gcd n.natAbs d : Nat) : Int) ∣ (d : Int) := Int.natCast_dvd_natCast.2 (Nat.gcd_dvd_right _ _)
    have h3 := Int.dvd_add (Int.dvd_trans h1 (Int.dvd_mul_left u _)) (Int.dvd_trans h2 (Int.dvd_mul_left v _))
    rw [e] at h3
    have := Int.ofNat_dvd_left.1 h3
    exact Nat.dvd_one.1 this
  exact ⟨⟨n, d, hd, cop⟩, rfl, rfl⟩
theorem fr_of {r : Rat} {n d : Int} (h1 : r.num = n) (h2 : (r.den : Int) = d) : fr r = .tuple [.int n, .int d] := by unfold fr; rw [h1, h2]
/-- the other way round, and over 1 -/
theorem Best.neg_den {lo hi r s : Rat} (a : Best lo hi r) (b : Best (-hi) (-lo) s) : s.den = r.den := by
  have h1 := b.den (-r) (Rat.neg_le_neg a.le) (Rat.neg_le_neg a.ge)
  have h2 := a.den (-s) (by have := b.le; have := Rat.neg_le_neg this; rwa [Rat.neg_neg] at this) (by have := b.ge; have := Rat.neg_le_neg this; rwa [Rat.neg_neg] at this)
  rw [Rat.neg_den] at h1 h2
  omega
theorem Best.inv {lo hi r s : Rat} (hp : 0 < lo.num) (a : Best lo hi r) (b : Best (1 / hi) (1 / lo) s) : s = 1 / r := by
  have hr := pos_of_le a.ge hp
  have hh := pos_of_le a.le hr
  have h0 : 0 < (1 / hi).num := by rw [(inv_nd hh).1]; exact dpos _
  have hs := pos_of_le b.ge h0
  have m1 : 1 / hi ≤ 1 / r := inv_le hr a.le
  have m2 : 1 / r ≤ 1 / lo := inv_le hp a.ge
  have g1 : lo ≤ 1 / s := by have := inv_le hs b.le; rwa [inv_inv' hp] at this
  have g2 : 1 / s ≤ hi := by have := inv_le h0 b.ge; rwa [inv_inv' hh] at this
  have ir := inv_nd hr
  have is := inv_nd hs
  have d1 := b.den _ m1 m2
  have n1 := b.num h0 _ m1 m2
  have d2 := a.den _ g1 g2
  have n2 := a.num hp _ g1 g2
  rw [ir.1] at n1
  rw [is.1] at n2
  have e1 : s.num = (1 / r).num := by rw [ir.1]; have := is.2; omega
  have e2 : s.den = (1 / r).den := by have := ir.2; omega
  exact Rat.ext e1 e2
theorem Best.sub {lo hi lo' hi' r s : Rat} (a : Best lo hi r) (b : Best lo' hi' s) (h1 : lo ≤ lo') (h2 : hi' ≤ hi) : r.den ≤ s.den := a.den s (Rat.le_trans h1 b.ge) (Rat.le_trans b.le h2)
/-- between neighbours -/
theorem best_middle {p q p' q' : Int} (hp : 0 ≤ p) (hp' : 0 ≤ p') (hq : 1 ≤ q) (hq' : 0 ≤ q') (det : p' * q - p * q' = 1) {lo hi md : Rat} (l1 : lo.num = 2 * p + p') (l2 : (lo.den : Int) = 2 * q + q') (g1 : hi.num = p + 2 * p') (g2 : (hi.den : Int) = q + 2 * q') (m1 : md.num = p + p') (m2 : (md.den : Int) = q + q') : Best lo hi md := by
  have key : ∀ x : Rat, lo ≤ x → x ≤ hi → ∃ i j : Int, 1 ≤ i ∧ 1 ≤ j ∧ (x.den : Int) = i * q + j * q' ∧ x.num = i * p + j * p' := by
    intro x h1 h2
    rw [rle, l1, l2] at h1
    rw [rle, g1, g2] at h2
    have dx := dpos x
    have ex : (x.den : Int) = (p' * x.den - q' * x.num) * q + (q * x.num - p * x.den) * q' := by
      have : (p' * x.den - q' * x.num) * q + (q * x.num - p * x.den) * q' = (p' * q - p * q') * x.den := by grind
      rw [this, det, Int.one_mul]
    have en : x.num = (p' * x.den - q' * x.num) * p + (q * x.num - p * x.den) * p' := by
      have : (p' * x.den - q' * x.num) * p + (q * x.num - p * x.den) * p' = (p' * q - p * q') * x.num := by grind
      rw [this, det, Int.one_mul]
    have k1 : 0 ≤ 2 * (q * x.num - p * x.den) - (p' * x.den - q' * x.num) := by
      have : 2 * (q * x.num - p * x.den) - (p' * x.den - q' * x.num) = x.num * (2 * q + q') - (2 * p + p') * x.den := by grind
      omega
    have k2 : 0 ≤ 2 * (p' * x.den - q' * x.num) - (q * x.num - p * x.den) := by
      have : 2 * (p' * x.den - q' * x.num) - (q * x.num - p * x.den) = (p + 2 * p') * x.den - x.num * (q + 2 * q') := by grind
      omega
    generalize p' * x.den - q' * x.num = i at *
    generalize q * x.num - p * x.den = j at *
    have i1 : 1 ≤ i := by
      by_cases c : 1 ≤ i
      · exact c
      · have : i = 0 := by omega
        have : j = 0 := by omega
        subst_vars
        rw [Int.zero_mul, Int.zero_mul] at ex
        omega
    exact ⟨i, j, i1, by omega, ex, en⟩
  refine ⟨?_, ?_, ?_, ?_, ?_⟩
  · rw [rle, l1, l2, m1, m2]
    have : (p + p') * (2 * q + q') - (2 * p + p') * (q + q') = p' * q - p * q' := by grind
    omega
  · rw [rle, g1, g2, m1, m2]
    have : (p + 2 * p') * (q + q') - (p + p') * (q + 2 * q') = p' * q - p * q' := by grind
    omega
  · intro x h1 h2
    obtain ⟨i, j, hi, hj, e1, e2⟩ := key x h1 h2
    have a1 := Int.mul_le_mul_of_nonneg_right hi (show 0 ≤ q by omega)
    have a2 := Int.mul_le_mul_of_nonneg_right hj hq'
    omega
  · intro x h1 h2 e
    obtain ⟨i, j, hi, hj, e1, e2⟩ := key x h1 h2
    have a1 := Int.mul_le_mul_of_nonneg_right hi hp
    have a2 := Int.mul_le_mul_of_nonneg_right hj hp'
    rw [rle, m1, m2]
    have e3 : (x.den : Int) = q + q' := by omega
    rw [e3]
    exact Int.mul_le_mul_of_nonneg_right (by omega) (by omega)
  · intro _ x h1 h2
    obtain ⟨i, j, hi, hj, e1, e2⟩ := key x h1 h2
    have a1 := Int.mul_le_mul_of_nonneg_right hi hp
    have a2 := Int.mul_le_mul_of_nonneg_right hj hp'
    omega
/-! ### what is walked through: its length -/
def Long (n : Nat) (us : List Int) (a b : Rat) : Prop := us = [] ∨ ((a.den : Int) < a.num ∧ (b.den : Int) < b.num ∧ us.length ≤ 2 * n ∧ a.num.natAbs * a.den < 2 ^ (2 * n + 1 - us.length) ∧ b.num.natAbs * b.den < 2 ^ (2 * n + 1 - us.length))
theorem half_step {x : Rat} {p : Int} {k : Nat} (hk : 1 ≤ k) (hp : 1 ≤ p) (h0 : 0 < (x - (p : Rat)).num) (h1 : (x - (p : Rat)).num < x.den) (hx : x.num.natAbs * x.den < 2 ^ k) : (1 / (x - (p : Rat))).num.natAbs * (1 / (x - (p : Rat))).den < 2 ^ (k - 1) := by
  have i := inv_nd h0
  have e := psub p x
  have e1 : (1 / (x - (p : Rat))).num.natAbs = x.den := by rw [i.1, e.2, nab]
  have e2 : ((1 / (x - (p : Rat))).den : Int) = x.num - p * x.den := by rw [i.2, e.1]
  rw [e1]
  rw [e.1] at h0 h1
  have dx := dpos x
  have p1 : (x.den : Int) ≤ p * x.den := by
    have := Int.mul_le_mul_of_nonneg_right hp (show (0 : Int) ≤ x.den by omega)
    omega
  have h2 : 2 * (1 / (x - (p : Rat))).den ≤ x.num.natAbs := by omega
  have h3 : x.den * (2 * (1 / (x - (p : Rat))).den) ≤ x.den * x.num.natAbs := Nat.mul_le_mul_left _ h2
  obtain ⟨j, rfl⟩ : ∃ j, k = j + 1 := ⟨k - 1, by omega⟩
  rw [Nat.add_sub_cancel]
  rw [Nat.pow_succ] at hx
  rw [Nat.mul_comm x.num.natAbs] at hx
  rw [Nat.mul_left_comm] at h3
  omega
theorem long_step {n : Nat} {us : List Int} {a b : Rat} {p : Int} (t : Turned a b p) (sa : Sz n a) (sb : Sz n b) (l : Long n us a b) (hn : 0 < n) : Long n (p :: us) (1 / (b - (p : Rat))) (1 / (a - (p : Rat))) := by
  have ia := inv_nd t.lo_pos
  have ib := inv_nd t.hi_pos
  have d := t.dens
  have ea := psub p a
  have eb := psub p b
  have c1 : ((1 / (b - (p : Rat))).den : Int) < (1 / (b - (p : Rat))).num := by rw [ib.1, eb.2]; omega
  have c2 : ((1 / (a - (p : Rat))).den : Int) < (1 / (a - (p : Rat))).num := by rw [ia.1, ea.2]; omega
  have pos1 : 0 < (1 / (a - (p : Rat))).num.natAbs * (1 / (a - (p : Rat))).den := Nat.mul_pos (by omega) (by have := (1 / (a - (p : Rat))).den_nz; omega)
  rcases l with rfl | ⟨l1, l2, l3, l4, l5⟩
  · have z := t.sz sa sb
    refine .inr ⟨c1, c2, by simp only [List.length_cons, List.length_nil]; omega, ?_, ?_⟩
    · have := mul_lt_pow z.1.1 z.1.2
      have e : 2 * n + 1 - [p].length = n + n := by simp only [List.length_cons, List.length_nil]; omega
      rw [e]; exact this
    · have := mul_lt_pow z.2.1 z.2.2
      have e : 2 * n + 1 - [p].length = n + n := by simp only [List.length_cons, List.length_nil]; omega
      rw [e]; exact this
  · have p1 : 1 ≤ p := by
      rw [t.p_eq, flo_iff, rle, int_num, int_den]
      omega
    have k1 : 1 ≤ 2 * n + 1 - us.length := by omega
    have q1 := half_step k1 p1 t.hi_pos t.hi_lt l5
    have q2 := half_step k1 p1 t.lo_pos t.lo_lt l4
    have e : 2 * n + 1 - (p :: us).length = 2 * n + 1 - us.length - 1 := by rw [List.length_cons]; omega
    refine .inr ⟨c1, c2, ?_, by rw [e]; exact q1, by rw [e]; exact q2⟩
    rw [List.length_cons]
    have : 2 * n + 1 - us.length - 1 ≠ 0 := fun z => by
      rw [z, Nat.pow_zero] at q2
      omega
    omega
theorem Long.len {n : Nat} {us : List Int} {a b : Rat} (l : Long n us a b) : us.length ≤ 2 * n := by
  rcases l with rfl | l
  · exact Nat.zero_le _
  · exact l.2.2.1
end V2
set_option Elab.async false
set_option linter.all false
set_option maxRecDepth 100000
set_option maxHeartbeats 4000000
/-! ## zip and enumerate over lists and tuples, whichever -/
namespace V2
open PySem PySem.Spec PyProof.Rows L2
open PySem.W (Frag)
/-- of a source: true for a list, false for a tuple -/
def HasS (k : Bool) (h : Heap) (a : Addr) (its : Array Value) : Prop := match k with
  | true => h.IsList a its
  | false => h.IsTuple a its
def ItS (k : Bool) (h : Heap) (it a : Addr) (i : Nat) : Prop := match k with
  | true => h.IsListIter it a i
  | false => h.IsTupleIter it a i
def SqS (k : Bool) (K : Frag) (H : Hp) (a : Addr) (xs : List V) : Prop := match k with
  | true => SqL K H a xs
  | false => SqT K H a xs
def newS (k : Bool) (a : Addr) : Obj := match k with
  | true => { cls := .type "list_iterator", data := .fields #[.ref a, .int 0 0] }
  | false => { cls := .type "tuple_iterator", data := .fields #[.ref a, .int 0 0] }
section
variable {k : Bool} {h h2 : Heap} {it a : Addr} {i : Nat} {its : Array Value}
theorem ItS.obj (q : ItS k h it a i) : ∃ o, h.get? it = some o ∧ ∀ v, o.data ≠ .cell v := by
  cases k
  · obtain ⟨o, e, _, d⟩ := q
    exact ⟨o, e, fun v z => by rw [d] at z; cases z⟩
  · obtain ⟨o, e, _, d⟩ := q
    exact ⟨o, e, fun v z => by rw [d] at z; cases z⟩
theorem ItS.at (q : ItS k h it a i) (e : ∀ o, h.get? it = some o → h2.get? it = some o) : ItS k h2 it a i := by
  cases k
  · exact Heap.IsTupleIter.at q e
  · exact Heap.IsListIter.at q e
theorem ItS.start (e : h.get? it = some (newS k a)) : ItS k h it a 0 := by
  cases k
  · exact ⟨_, e, rfl, rfl⟩
  · exact ⟨_, e, rfl, rfl⟩
theorem HasS.live (q : HasS k h a its) : ∃ o, h.get? a = some o := by
  cases k
  · obtain ⟨o, e, _⟩ := q
    exact ⟨o, e⟩
  · obtain ⟨o, e, _⟩ := q
    exact ⟨o, e⟩
theorem begins_s : Begins (.ref a) (newS k a) (fun h => HasS k h a its) := by
  cases k
  · exact begins_tuple a its
  · exact begins_list a its
theorem draws_s {prog : Program} {w : World} {A : Around} (hh : A.handled = none) (ne : a ≠ it) : Draws prog w A it [it, a] its.size (fun i v => its[i]? = some v) (fun i h => ItS k h it a i ∧ HasS k h a its) := by
  cases k
  · exact Draws.tuple hh it a ne its
  · exact Draws.list hh it a ne its
end
theorem inv_s {k : Bool} {X : Cx} {pins : List (Addr × Obj)} {σ : L2.St} {H : Hp} {s : Shared} (I : Inv X pins σ H s) {a : Addr} {xs : List V} (q : SqS k X.K H a xs) : ∃ its : List Value, Vals xs its ∧ HasS k s.heap a its.toArray := by
  cases k
  · obtain ⟨its, rv, pl, _⟩ := I.tuple q
    exact ⟨its, rv, pl⟩
  · obtain ⟨its, rv, pl, _⟩ := I.list q
    exact ⟨its, rv, pl.isList⟩
theorem inj_s {k : Bool} {X : Cx} {pins : List (Addr × Obj)} {σ : L2.St} {H : Hp} {s : Shared} (I : Inv X pins σ H s) {a : Addr} {xs ys : List V} (q : SqS k X.K H a xs) (r : SqS k X.K H a ys) : xs = ys := by
  cases k
  · exact I.tuple_inj q r
  · exact I.list_inj q r
/-! ### zip -/
/-- the sources as they stand at each turn, the items in new pairs -/
def ItZ (k l : Bool) (K : Frag) (a b : Addr) : It :=
  ⟨fun i H => ∃ (xs ys : List V) (x y : V), SqS k K H a xs ∧ SqS l K H b ys ∧ xs[i]? = some x ∧ ys[i]? = some y,
    fun i H v H2 => ∃ T x y, v = .ref T ∧ H T = none ∧ H2 = upd H T (.tup [x, y]) ∧ (∀ xs, SqS k K H a xs → xs[i]? = some x) ∧ ∀ ys, SqS l K H b ys → ys[i]? = some y,
    fun i H => ∃ xs ys : List V, SqS k K H a xs ∧ SqS l K H b ys ∧ i ≤ xs.length ∧ i ≤ ys.length ∧ (i = xs.length ∨ i = ys.length)⟩
theorem turn_zz {P : Program} {w : World} {K : Frag} {es : List Expr} {n1 : Nat} {tp : Pos} {k l : Bool} {a b z TI TO p q : Addr} (S : ZipSep2 z TI TO p q [p, a] [q, b]) (nea : a ≠ p) (neb : b ≠ q) :
    Turn P w K (.Tuple es n1 tp) (ItZ k l K a b) [z, TI, TO, p, q] z (fun i h => IsZip h z TI TO .none ∧ IsTupOf2 h TI (.ref p) (.ref q) ∧ (∃ x y, IsTupOf2 h TO x y) ∧ ItS k h p a i ∧ ItS l h q b i) where
  mem := by simp
  obj := fun i h st c hc => by
    obtain ⟨g1, g2, ⟨x, y, g3⟩, g4, g5⟩ := st
    simp only [List.mem_cons, List.not_mem_nil, or_false] at hc
    rcases hc with rfl | rfl | rfl | rfl | rfl
    · exact ⟨_, g1, fun v e => nomatch e⟩
    · exact ⟨_, g2, fun v e => nomatch e⟩
    · exact ⟨_, g3, fun v e => nomatch e⟩
    · exact g4.obj
    · exact g5.obj
  keep := fun i h h2 st kp => by
    obtain ⟨g1, g2, ⟨x, y, g3⟩, g4, g5⟩ := st
    exact ⟨kp z (by simp) _ g1, kp TI (by simp) _ g2, ⟨x, y, kp TO (by simp) _ g3⟩, g4.at fun o e => kp p (by simp) o e, g5.at fun o e => kp q (by simp) o e⟩
  item := by
    intro X eP ew eK cal i pins s σ H E I fo st gd
    subst eP ew eK
    obtain ⟨g1, g2, ⟨x0, y0, g3⟩, g4, g5⟩ := st
    obtain ⟨xs, ys, x, y, s1, s2, ex, ey⟩ := gd
    obtain ⟨us, r1, h1⟩ := inv_s I s1
    obtain ⟨ws, r2, h2⟩ := inv_s I s2
    have hd : X.A.in1.handled = none := I.ok.hd cal
    have D1 := draws_s (k := k) (prog := X.prog) (w := X.w) (its := us.toArray) hd nea
    have D2 := draws_s (k := l) (prog := X.prog) (w := X.w) (its := ws.toArray) hd neb
    obtain ⟨u, eu, ru⟩ := r1.get ex
    obtain ⟨v, ev, rv⟩ := r2.get ey
    have i1 : i < us.toArray.size := by rw [List.size_toArray]; exact (List.getElem?_eq_some_iff.1 eu).1
    have i2 : i < ws.toArray.size := by rw [List.size_toArray]; exact (List.getElem?_eq_some_iff.1 ev).1
    have zl : z < s.heap.objs.size := Heap.lt_size g1
    refine wpAny_pyNext_zipD2_item S D1 D2 g1 g2 g3 ⟨g4, h1⟩ ⟨g5, h2⟩ i1 i2 fun x1 x2 m tk y1 y2 z' t' st1 st2 hT _ kp => ?_
    have e1 : x1 = u := by
      have : us.toArray[i]? = some x1 := y1
      rw [List.getElem?_toArray, eu] at this
      exact (Option.some.inj this).symm
    have e2 : x2 = v := by
      have : ws.toArray[i]? = some x2 := y2
      rw [List.getElem?_toArray, ev] at this
      exact (Option.some.inj this).symm
    subst e1 e2
    refine ⟨_, rfl, wpAny_letOwnedTupleGo_zip (s := { s with heap := m, toks := tk }) z' fun m2 z2 sb => ?_⟩
    have T2 : m2.get? s.heap.objs.size = some { cls := .type "tuple", data := .seq #[x1, x2] } := (sb.2 _ (Nat.ne_of_gt zl)).trans hT
    have ob : ObjOk X.prog X.w (upd H s.heap.objs.size (.tup [x, y])) m2 s.heap.objs.size (.tup [x, y]) := ⟨by show 2 ≤ sizeLine; decide, [x1, x2], .cons ru (.cons rv .nil), ⟨_, T2, rfl, _, rfl⟩⟩
    have chg : ∀ c o, c ∉ [z, TI, TO, p, q] → s.heap.get? c = some o → m2.get? c = some o := fun c o nc e => by
      simp only [List.mem_cons, List.not_mem_nil, or_false, not_or] at nc
      exact (sb.2 c nc.1).trans (kp c o nc.1 nc.2.2.1 nc.2.2.2.1 nc.2.2.2.2 e)
    have J := I.turnedNew (t' := tk) chg fo (Nat.le_refl _) ob
    refine ⟨.ref s.heap.objs.size, _, J, rfl, ⟨_, x, y, rfl, I.hok.fresh (Nat.le_refl _), rfl, fun ls e => by rw [inj_s I e s1]; exact ex, fun ls e => by rw [inj_s I e s2]; exact ey⟩, ⟨z2, ?_, ⟨x1, x2, ?_⟩, ?_, ?_⟩, fun c hc => ?_⟩
    · exact (sb.2 _ S.TIz).trans (kp _ _ S.TIz S.TITO S.TIi1 S.TIi2 g2)
    · exact (sb.2 _ S.TOz).trans t'
    · exact st1.1.at fun o e => (sb.2 _ (Ne.symm S.zi1)).trans e
    · exact st2.1.at fun o e => (sb.2 _ (Ne.symm S.zi2)).trans e
    · have hl : c < s.heap.objs.size := by
        simp only [List.mem_cons, List.not_mem_nil, or_false] at hc
        rcases hc with rfl | rfl | rfl | rfl | rfl
        · exact zl
        · exact Heap.lt_size g2
        · exact Heap.lt_size g3
        · obtain ⟨o, e, _⟩ := g4.obj; exact Heap.lt_size e
        · obtain ⟨o, e, _⟩ := g5.obj; exact Heap.lt_size e
      rw [upd_ne (Nat.ne_of_lt hl)]
      exact (fo c hc).1
  done := by
    intro X eP ew eK cal i pins s σ H E I fo st gd
    subst eP ew eK
    obtain ⟨g1, g2, ⟨x0, y0, g3⟩, g4, g5⟩ := st
    obtain ⟨xs, ys, s1, s2, l1, l2, en⟩ := gd
    obtain ⟨us, r1, h1⟩ := inv_s I s1
    obtain ⟨ws, r2, h2⟩ := inv_s I s2
    have hd : X.A.in1.handled = none := I.ok.hd cal
    have D1 := draws_s (k := k) (prog := X.prog) (w := X.w) (its := us.toArray) hd nea
    have D2 := draws_s (k := l) (prog := X.prog) (w := X.w) (its := ws.toArray) hd neb
    have a1 := r1.length
    have a2 := r2.length
    refine wpAny_pyNext_zipD2_end S D1 D2 g1 g2 g3 ⟨g4, h1⟩ ⟨g5, h2⟩ (by rw [List.size_toArray]; omega) (by rw [List.size_toArray]; omega) (by rw [List.size_toArray, List.size_toArray]; omega) fun m tk kp => ⟨rfl, ?_⟩
    refine I.turnedL (t' := tk) (ch := [z, TI, TO, p, q]) (fun c o nc e => ?_) fo
    simp only [List.mem_cons, List.not_mem_nil, or_false, not_or] at nc
    exact kp c o nc.1 nc.2.2.1 nc.2.2.2.1 nc.2.2.2.2 e
  self := fun A i s Q E st hq => wpAny_pyIter_zip st.1 hq
def iZZ (K : Frag) (ta : TA) : TI := fun σ H R => ta σ H fun vs H1 => ∃ (k l : Bool) (a b : Addr) (xs ys : List V), vs = [.ref a, .ref b] ∧ SqS k K H1 a xs ∧ SqS l K H1 b ys ∧ R (ItZ k l K a b) H1
theorem pi_zz {X : Cx} {e e2 : Expr} {ta : TA} {p pos tp : Pos} {es : List Expr} {n1 : Nat} (hg : Gl X "zip") (hm : X.mg "zip" = none) (ha : PA X [e, e2] ta)
    (hs : starEach [e, e2] X.env = (false, eval e X.env) :: starEach [e2] X.env := by rfl) (hpl : (backTo pos (starEach [e2] X.env)).any (·.1) = false := by rfl) :
    PI X (.Tuple es n1 tp) (.Call (.Name "zip" p) [e, e2] [] pos) (iZZ X.K ta) := by
  refine ⟨fun pn s0 sg G0 R J0 w0 => ?_⟩
  refine Call_ (ld_blt J0 hg hm PyProof.Rows.boot_zip (PyProof.Rows.callWith_type1 (thn (ha.run pos pn s0 sg G0 _ J0 w0) fun us a1 ⟨vs, G1, J1, r1, w1⟩ => ?_) hs hpl))
  obtain ⟨k, l, a, b, xs, ys, rfl, s1, s2, q⟩ := w1
  cases r1 with
  | cons c1 r1 =>
  cases r1 with
  | cons c2 r1 =>
  cases r1
  cases c1
  cases c2
  obtain ⟨us, _, h1⟩ := inv_s J1 s1
  obtain ⟨ws, _, h2⟩ := inv_s J1 s2
  obtain ⟨oa, ea⟩ := h1.live
  obtain ⟨ob, eb⟩ := h2.live
  have la := Heap.lt_size ea
  have lb := Heap.lt_size eb
  refine zip_begins2 (begins_s (k := k) (a := a) (its := us.toArray)) (begins_s (k := l) (a := b) (its := ws.toArray)) h1 h2 fun m hz hT hO e1 e2 _ kp => wpAny_pyIter_zip hz ?_
  have J2 : Inv X pn sg G1 { a1 with heap := m } := J1.kept (t' := a1.toks) kp
  have S := zip_sep2 (N := a1.heap.objs.size) (fp1 := [a]) (fp2 := [b]) (by simpa using la) (by simpa using lb)
  refine ⟨a1.heap.objs.size + 4, [a1.heap.objs.size + 4, a1.heap.objs.size + 2, a1.heap.objs.size + 3, a1.heap.objs.size, a1.heap.objs.size + 1], _, _, G1, rfl, J2, turn_zz (k := k) (l := l) S (Nat.ne_of_lt la) (Nat.ne_of_lt (Nat.lt_succ_of_lt lb)), ⟨hz, hT, ⟨_, _, hO⟩, ItS.start e1, ItS.start e2⟩, fun c hc => ?_, q⟩
  have hle : a1.heap.objs.size ≤ c := by
    simp only [List.mem_cons, List.not_mem_nil, or_false] at hc
    rcases hc with rfl | rfl | rfl | rfl | rfl
    · exact Nat.le_add_right _ _
    · exact Nat.le_add_right _ _
    · exact Nat.le_add_right _ _
    · exact Nat.le_refl _
    · exact Nat.le_add_right _ _
  exact J1.fpOk hle (J1.hok.fresh hle)
end V2
set_option Elab.async false
set_option linter.all false
set_option maxRecDepth 100000
set_option maxHeartbeats 4000000
/-! ## enumerate; both over data -/
namespace V2
open PySem PySem.Spec PyProof.Rows L2
open PySem.W (Frag)
/-! ### enumerate(x) -/
theorem meets_enum1 {v : Value} {o : Obj} {Z : Heap → Prop} (B : Begins v o Z) :
    Meets (Builtin.«enumerate.__new__» ⟨[.type "enumerate", v], []⟩) (fun _ R s => Z s.heap ∧
      R (.ok (.ret (.ref (s.heap.push o).objs.size))) { s with heap := (s.heap.push o).push { cls := .type "enumerate", data := .fields #[.none, .bool false, .ref s.heap.objs.size, rawInt 0, .none, .none] } }) :=
  .of_wp fun pg wd Ar R s hh => by
    obtain ⟨m, g, d, tk, os⟩ := s; obtain ⟨z, hh⟩ := hh
    have sub := sub_enumerate
    have go : ∀ {A2 : Around} {E : Value → Shared → Prop} {Q : Value → Shared → Prop}, Q (.ref m.objs.size) ⟨m.push o, g, d, tk, os⟩ → wpAny (model pg wd) A2 (pyIter v) Q E ⟨m, g, d, tk, os⟩ := fun q => B.iter pg wd _ _ ⟨m, g, d, tk, os⟩ _ z q
    wp_walk using go
    refine wpAny_stack_any fun sk => wpAny_pure ?_
    split
    · rename_i cl _ _ _ _ _
      cases (cl == Value.type "enumerate")
      · wp_walk using go
        exact ⟨_, rfl, hh⟩
      · wp_walk using go
        exact ⟨_, rfl, hh⟩
    · wp_walk using go
      exact ⟨_, rfl, hh⟩
theorem enum_starts {prog : Program} {w : World} {A : Around} {E : Value → Shared → Prop} {s : Shared} {v : Value} {o : Obj} {Z : Heap → Prop} {Q : Value → Shared → Prop} (B : Begins v o Z) (z : Z s.heap)
    (hq : ∀ m, IsEnum m (s.heap.objs.size + 1) s.heap.objs.size 0 .none → m.get? s.heap.objs.size = some o → (∀ b ob, s.heap.get? b = some ob → m.get? b = some ob) → Q (.ref (s.heap.objs.size + 1)) { s with heap := m }) :
    wpAny (model prog w) A (call (.type "enumerate") [v]) Q E s := by
  refine callType_new F.called_enumerate (by decide) (F.typeCall_enumerate_1 _) (F.newCall_enumerate_1 _) (fun obj => F.args_object_init_2 obj _) F.entry_enumerate_new (meets_enum1 B) ⟨z, ?_⟩
  have sz : (s.heap.push o).objs.size = s.heap.objs.size + 1 := Heap.size_push ..
  have e1 : IsEnum ((s.heap.push o).push { cls := .type "enumerate", data := .fields #[.none, .bool false, .ref s.heap.objs.size, rawInt 0, .none, .none] }) (s.heap.objs.size + 1) s.heap.objs.size 0 .none := by
    have q := Heap.get?_push_size (s.heap.push o) (o := { cls := .type "enumerate", data := .fields #[.none, .bool false, .ref s.heap.objs.size, rawInt 0, .none, .none] }) rfl
    rw [sz] at q; exact q
  show _ ∧ _
  rw [sz]
  exact ⟨⟨_, e1, rfl⟩, hq _ e1 (Heap.get?_push_of_some _ (Heap.get?_push_size _ B.free)) fun b ob x => Heap.get?_push_of_some _ (Heap.get?_push_of_some _ x)⟩
/-- the source as it stands at each turn, each item in a new pair with its place -/
def ItE (k : Bool) (K : Frag) (a : Addr) : It :=
  ⟨fun i H => ∃ (xs : List V) (x : V), SqS k K H a xs ∧ xs[i]? = some x,
    fun i H v H2 => ∃ T x, v = .ref T ∧ H T = none ∧ H2 = upd H T (.tup [.int (i : Nat), x]) ∧ ∀ xs, SqS k K H a xs → xs[i]? = some x,
    fun i H => ∃ xs : List V, SqS k K H a xs ∧ i = xs.length⟩
theorem turn_ee {P : Program} {w : World} {K : Frag} {es : List Expr} {n1 : Nat} {tp : Pos} {k : Bool} {a e p : Addr} (nea : a ≠ p) (nep : e ≠ p) (nee : e ≠ a) :
    Turn P w K (.Tuple es n1 tp) (ItE k K a) [e, p] e (fun i h => (∃ old, IsEnum h e p ((i : Nat) : Int) old) ∧ ItS k h p a i) where
  mem := by simp
  obj := fun i h st c hc => by
    obtain ⟨⟨old, g1⟩, g2⟩ := st
    simp only [List.mem_cons, List.not_mem_nil, or_false] at hc
    rcases hc with rfl | rfl
    · exact ⟨_, g1, fun v q => nomatch q⟩
    · exact g2.obj
  keep := fun i h h2 st kp => by
    obtain ⟨⟨old, g1⟩, g2⟩ := st
    exact ⟨⟨old, kp e (by simp) _ g1⟩, g2.at fun o q => kp p (by simp) o q⟩
  item := by
    intro X eP ew eK cal i pins s σ H E I fo st gd
    subst eP ew eK
    obtain ⟨⟨old, g1⟩, g2⟩ := st
    obtain ⟨xs, x, s1, ex⟩ := gd
    obtain ⟨us, r1, h1⟩ := inv_s I s1
    have hd : X.A.in1.handled = none := I.ok.hd cal
    have D1 := draws_s (k := k) (prog := X.prog) (w := X.w) (its := us.toArray) hd nea
    obtain ⟨u, eu, ru⟩ := r1.get ex
    have i1 : i < us.toArray.size := by rw [List.size_toArray]; exact (List.getElem?_eq_some_iff.1 eu).1
    have el : e < s.heap.objs.size := Heap.lt_size g1
    refine wpAny_pyNext_enum_itemC D1 g1 ⟨g2, h1⟩ i1 nep (by simp [nep, nee]) fun x1 m tk y1 o1 st1 hT _ kp => ?_
    have e1 : x1 = u := by
      have : us.toArray[i]? = some x1 := y1
      rw [List.getElem?_toArray, eu] at this
      exact (Option.some.inj this).symm
    subst e1
    refine ⟨_, rfl, wpAny_letOwnedTupleGo_enum (s := { s with heap := m, toks := tk + 1 }) o1 fun m2 z2 sb => ?_⟩
    have T2 : m2.get? s.heap.objs.size = some { cls := .type "tuple", data := .seq #[.int i tk, x1] } := (sb.2 _ (Nat.ne_of_gt el)).trans hT
    have ob : ObjOk X.prog X.w (upd H s.heap.objs.size (.tup [.int (i : Nat), x])) m2 s.heap.objs.size (.tup [.int (i : Nat), x]) := ⟨by show 2 ≤ sizeLine; decide, [.int i tk, x1], .cons ⟨_, rfl⟩ (.cons ru .nil), ⟨_, T2, rfl, _, rfl⟩⟩
    have chg : ∀ c o, c ∉ [e, p] → s.heap.get? c = some o → m2.get? c = some o := fun c o nc q => by
      simp only [List.mem_cons, List.not_mem_nil, or_false, not_or] at nc
      exact (sb.2 c nc.1).trans (kp c o nc.1 nc.2 q)
    have J := I.turnedNew (t' := tk + 1) chg fo (Nat.le_refl _) ob
    refine ⟨.ref s.heap.objs.size, _, J, rfl, ⟨_, x, rfl, I.hok.fresh (Nat.le_refl _), rfl, fun ls q => by rw [inj_s I q s1]; exact ex⟩, ⟨⟨x1, ?_⟩, ?_⟩, fun c hc => ?_⟩
    · have en : ((i + 1 : Nat) : Int) = (i : Int) + 1 := by omega
      rw [en]; exact z2
    · exact st1.1.at fun o q => (sb.2 _ (Ne.symm nep)).trans q
    · have hl : c < s.heap.objs.size := by
        simp only [List.mem_cons, List.not_mem_nil, or_false] at hc
        rcases hc with rfl | rfl
        · exact el
        · obtain ⟨o, q, _⟩ := g2.obj; exact Heap.lt_size q
      rw [upd_ne (Nat.ne_of_lt hl)]
      exact (fo c hc).1
  done := by
    intro X eP ew eK cal i pins s σ H E I fo st gd
    subst eP ew eK
    obtain ⟨⟨old, g1⟩, g2⟩ := st
    obtain ⟨xs, s1, rfl⟩ := gd
    obtain ⟨us, r1, h1⟩ := inv_s I s1
    have hd : X.A.in1.handled = none := I.ok.hd cal
    have D1 := draws_s (k := k) (prog := X.prog) (w := X.w) (its := us.toArray) hd nea
    have en : xs.length = us.toArray.size := by rw [List.size_toArray]; exact r1.length
    rw [en] at g1 g2
    refine wpAny_pyNext_enum_endD D1 g1 ⟨g2, h1⟩ fun m kp => ⟨rfl, ?_⟩
    refine I.turnedL (t' := s.toks) (ch := [e, p]) (fun c o nc q => ?_) fo
    simp only [List.mem_cons, List.not_mem_nil, or_false, not_or] at nc
    exact kp c o nc.2 q
  self := fun A i s Q E st hq => let ⟨⟨_, g1⟩, _⟩ := st; wpAny_pyIter_enum g1 hq
def iEE (K : Frag) (ta : TA) : TI := fun σ H R => ta σ H fun vs H1 => ∃ (k : Bool) (a : Addr) (xs : List V), vs = [.ref a] ∧ SqS k K H1 a xs ∧ R (ItE k K a) H1
theorem pi_ee {X : Cx} {e : Expr} {ta : TA} {p pos tp : Pos} {es : List Expr} {n1 : Nat} (hg : Gl X "enumerate") (hm : X.mg "enumerate" = none) (ha : PA X [e] ta) (hs : starEach [e] X.env = [(false, eval e X.env)] := by rfl) :
    PI X (.Tuple es n1 tp) (.Call (.Name "enumerate" p) [e] [] pos) (iEE X.K ta) := by
  refine ⟨fun pn s0 sg G0 R J0 w0 => ?_⟩
  refine Call_ (ld_blt J0 hg hm boot_enumerate (PyProof.Rows.callWith_type1 (thn (ha.run pos pn s0 sg G0 _ J0 w0) fun us a1 ⟨vs, G1, J1, r1, w1⟩ => ?_) hs rfl))
  obtain ⟨k, a, xs, rfl, s1, q⟩ := w1
  cases r1 with
  | cons c1 r1 =>
  cases r1
  cases c1
  obtain ⟨us, _, h1⟩ := inv_s J1 s1
  obtain ⟨oa, ea⟩ := h1.live
  have la := Heap.lt_size ea
  refine enum_starts (begins_s (k := k) (a := a) (its := us.toArray)) h1 fun m z1 e1 kp => wpAny_pyIter_enum z1 ?_
  have J2 : Inv X pn sg G1 { a1 with heap := m } := J1.kept (t' := a1.toks) kp
  refine ⟨a1.heap.objs.size + 1, [a1.heap.objs.size + 1, a1.heap.objs.size], _, _, G1, rfl, J2, turn_ee (k := k) (Nat.ne_of_lt la) (Nat.succ_ne_self _) (Nat.ne_of_gt (Nat.lt_succ_of_lt la)), ⟨⟨.none, z1⟩, ItS.start e1⟩, fun c hc => ?_, q⟩
  have hle : a1.heap.objs.size ≤ c := by
    simp only [List.mem_cons, List.not_mem_nil, or_false] at hc
    rcases hc with rfl | rfl
    · exact Nat.le_add_right _ _
    · exact Nat.le_refl _
  exact J1.fpOk hle (J1.hok.fresh hle)
/-! ### both over data -/
theorem src_key {K : Frag} {as1 : List Addr} {H1 : Hp} {h1 : Ho} {x : D} {xs : List D} {a : Addr} (r : Rel K as1 H1 (.ref a) x) (e : items h1 x = some xs) :
    ∃ k : Bool, ∀ as2 H2 h2, Later as1 H1 as2 H2 → HeapR K as2 H2 h2 → stay x xs h2 → ∃ us, SqS k K H2 a us ∧ RelAll K as2 H2 us xs := by
  cases r with
  | d r =>
    cases r with
    | lst sx ax =>
      simp only [items, Option.some.injEq] at e
      subst e
      exact ⟨true, fun as2 H2 h2 l _ _ => ⟨_, (sx.later l).sq, (ax.later l).rel⟩⟩
    | tup sx ax =>
      simp only [items, Option.some.injEq] at e
      subst e
      exact ⟨false, fun as2 H2 h2 l _ _ => ⟨_, (sx.later l).sq, (ax.later l).rel⟩⟩
  | @loc _ n hb =>
    refine ⟨true, fun as2 H2 h2 l r2 st => ?_⟩
    have st' : h2[n]? = some (O.lst xs) := st
    obtain ⟨c, hc, us, o1, o2⟩ := r2.at st'
    rw [l.at hb] at hc
    cases hc
    exact ⟨us, SqL.of o1, o2⟩
theorem new_pair {K : Frag} {as2 : List Addr} {H2 : Hp} {h2 : Ho} {T : Addr} {vs : List V} {ps : List PyData} (r2 : HeapR K as2 H2 h2) (hT : H2 T = none) (al : DvAll K as2 H2 vs ps) :
    Later as2 H2 as2 (upd H2 T (.tup vs)) ∧ HeapR K as2 (upd H2 T (.tup vs)) h2 ∧ Rel K as2 (upd H2 T (.tup vs)) (.ref T) (.d (.tuple ps)) := by
  have l : Later as2 H2 as2 (upd H2 T (.tup vs)) := Later.new _ hT
  refine ⟨l, r2.new _ hT, .d (.tup (.inl ⟨.inl upd_same, fun z => ?_⟩) (al.later l))⟩
  obtain ⟨u, e⟩ := r2.there z
  rw [hT] at e
  cases e
def zipD (ps qs : List PyData) : List D := (ps.zip qs).map fun z => D.d (.tuple [z.1, z.2])
def enumD (ps : List PyData) : List D := ps.zipIdx.map fun z => D.d (.tuple [.int (z.2 : Nat), z.1])
theorem zipD_len (ps qs : List PyData) : (zipD ps qs).length = min ps.length qs.length := by simp [zipD]
theorem zipD_get {ps qs : List PyData} {i : Nat} {z : D} (e : (zipD ps qs)[i]? = some z) : ∃ p q, ps[i]? = some p ∧ qs[i]? = some q ∧ z = .d (.tuple [p, q]) := by
  unfold zipD at e
  rw [List.getElem?_map, Option.map_eq_some_iff] at e
  obtain ⟨⟨p, q⟩, e1, rfl⟩ := e
  rw [List.getElem?_zip_eq_some] at e1
  exact ⟨p, q, e1.1, e1.2, rfl⟩
theorem enumD_len (ps : List PyData) : (enumD ps).length = ps.length := by simp [enumD]
theorem enumD_get {ps : List PyData} {i : Nat} {z : D} (e : (enumD ps)[i]? = some z) : ∃ p, ps[i]? = some p ∧ z = .d (.tuple [.int (i : Nat), p]) := by
  unfold enumD at e
  rw [List.getElem?_map, Option.map_eq_some_iff] at e
  obtain ⟨⟨p, j⟩, e1, rfl⟩ := e
  rw [List.getElem?_zipIdx, Option.map_eq_some_iff] at e1
  obtain ⟨q, e2, e3⟩ := e1
  cases e3
  exact ⟨p, e2, by simp⟩
theorem rel_data {K : Frag} {as : List Addr} {H : Hp} {us : List V} {xs : List D} {ps : List PyData} (r : RelAll K as H us xs) (e : allD xs = some ps) {i : Nat} {u : V} {p : PyData} (eu : us[i]? = some u) (ep : ps[i]? = some p) : Dv K as H u p := by
  obtain ⟨v, e1, d⟩ := (r.ofAllD e).get ep
  rw [eu] at e1
  cases e1
  exact d
theorem allD_len {xs : List D} {ps : List PyData} (e : allD xs = some ps) : xs.length = ps.length := by rw [allD_some e, List.length_map]
section
variable {X : Cx} {W : WX} {a b : Expr} {fa fb : WE} {ga : WA} {pos p tp : Pos} {es : List Expr} {n1 : Nat}
def iZip2 (ga : WA) : WI := fun ρ h Q E => ga ρ h (fun vs h1 => ∃ x y xs ys ps qs, vs = [x, y] ∧ items h1 x = some xs ∧ items h1 y = some ys ∧ allD xs = some ps ∧ allD ys = some qs ∧ Q (zipD ps qs) (fun h => stay x xs h ∧ stay y ys h) h1) E
def iEnum1 (ga : WA) : WI := fun ρ h Q E => ga ρ h (fun vs h1 => ∃ x xs ps, vs = [x] ∧ items h1 x = some xs ∧ allD xs = some ps ∧ Q (enumD ps) (stay x xs) h1) E
theorem SI.zip (hg : Gl X "zip") (hm : X.mg "zip" = none) (ha : SA X W [a, b] ga) (hs : starEach [a, b] X.env = (false, eval a X.env) :: starEach [b] X.env := by rfl) (hpl : (backTo pos (starEach [b] X.env)).any (·.1) = false := by rfl) :
    SI X W (.Tuple es n1 tp) (.Call (.Name "zip" p) [a, b] [] pos) (iZip2 ga) := by
  obtain ⟨_, pa, sa⟩ := ha
  refine ⟨_, pi_zz hg hm pa hs hpl, fun σ H as ρ h Q E R eR hR hq k kx => ?_⟩
  refine sa σ H as ρ h _ E _ eR hR hq (fun ws h1 vs as1 H1 hq1 l1 r1 rv => ?_) kx
  obtain ⟨x, y, xs, ys, ps, qs, rfl, ex, ey, ep, eq, q⟩ := hq1
  obtain ⟨u, v, rfl, ru, ru2⟩ := relAll2 rv
  obtain ⟨a1, _, rfl, _⟩ := items_rel ru r1 ex
  obtain ⟨b1, _, rfl, _⟩ := items_rel ru2 r1 ey
  obtain ⟨k1, key1⟩ := src_key ru ex
  obtain ⟨k2, key2⟩ := src_key ru2 ey
  obtain ⟨us, s1, m1⟩ := key1 as1 H1 h1 (Later.refl _ _) r1 (stay_items ex)
  obtain ⟨ts, s2, m2⟩ := key2 as1 H1 h1 (Later.refl _ _) r1 (stay_items ey)
  refine ⟨k1, k2, a1, b1, us, ts, rfl, s1, s2, k _ _ h1 as1 H1 _ q ⟨stay_items ex, stay_items ey⟩ l1 r1 ?_⟩
  intro i as2 H2 h2 l2 r2 st
  obtain ⟨us, s1, m1⟩ := key1 as2 H2 h2 l2 r2 st.1
  obtain ⟨ts, s2, m2⟩ := key2 as2 H2 h2 l2 r2 st.2
  have n1 := m1.length.trans (allD_len ep)
  have n2 := m2.length.trans (allD_len eq)
  refine ⟨fun hi => ?_, fun hi => ?_, fun v H3 y z ez => ?_⟩
  · rw [zipD_len] at hi
    exact ⟨us, ts, us[i]'(by omega), ts[i]'(by omega), s1, s2, List.getElem?_eq_getElem _, List.getElem?_eq_getElem _⟩
  · rw [zipD_len] at hi
    exact ⟨us, ts, s1, s2, by omega, by omega, by omega⟩
  · obtain ⟨T, u1, u2, rfl, hT, rfl, f1, f2⟩ := y
    obtain ⟨p1, p2, e1, e2, rfl⟩ := zipD_get ez
    exact new_pair r2 hT (.cons (rel_data m1 ep (f1 us s1) e1) (.cons (rel_data m2 eq (f2 ts s2) e2) .nil))
theorem SI.enum (hg : Gl X "enumerate") (hm : X.mg "enumerate" = none) (ha : SA X W [a] ga) (hs : starEach [a] X.env = [(false, eval a X.env)] := by rfl) :
    SI X W (.Tuple es n1 tp) (.Call (.Name "enumerate" p) [a] [] pos) (iEnum1 ga) := by
  obtain ⟨_, pa, sa⟩ := ha
  refine ⟨_, pi_ee hg hm pa hs, fun σ H as ρ h Q E R eR hR hq k kx => ?_⟩
  refine sa σ H as ρ h _ E _ eR hR hq (fun ws h1 vs as1 H1 hq1 l1 r1 rv => ?_) kx
  obtain ⟨x, xs, ps, rfl, ex, ep, q⟩ := hq1
  obtain ⟨u, rfl, ru⟩ := relAll1 rv
  obtain ⟨a1, _, rfl, _⟩ := items_rel ru r1 ex
  obtain ⟨k1, key1⟩ := src_key ru ex
  obtain ⟨us, s1, m1⟩ := key1 as1 H1 h1 (Later.refl _ _) r1 (stay_items ex)
  refine ⟨k1, a1, us, rfl, s1, k _ _ h1 as1 H1 _ q (stay_items ex) l1 r1 ?_⟩
  intro i as2 H2 h2 l2 r2 st
  obtain ⟨us, s1, m1⟩ := key1 as2 H2 h2 l2 r2 st
  have n1 := m1.length.trans (allD_len ep)
  refine ⟨fun hi => ?_, fun hi => ?_, fun v H3 y z ez => ?_⟩
  · rw [enumD_len] at hi
    exact ⟨us, us[i]'(by omega), s1, List.getElem?_eq_getElem _⟩
  · rw [enumD_len] at hi
    exact ⟨us, s1, by omega⟩
  · obtain ⟨T, u1, rfl, hT, rfl, f1⟩ := y
    obtain ⟨p1, e1, rfl⟩ := enumD_get ez
    exact new_pair r2 hT (.cons (.int _) (.cons (rel_data m1 ep (f1 us s1) e1) .nil))
end
end V2
set_option Elab.async false
set_option linter.all false
set_option maxRecDepth 100000
set_option maxHeartbeats 4000000
/-! ## all, any over a list of truths; steps for walks of pairs -/
namespace V2
open PySem PySem.Spec PyProof.Rows L2
open PySem.W (Frag)
theorem RelAll.truths {K : Frag} {as : List Addr} {H : Hp} : ∀ {bs : List Bool} {vs : List V}, RelAll K as H vs (bs.map fun b => D.d (.bool b)) → vs = bs.map V.bl
  | [], _, h => by cases h; rfl
  | b :: bs, _, h => by
    cases h with
    | cons h1 h2 =>
      cases h1 with | d h1 =>
      cases h1
      rw [RelAll.truths h2]; rfl
def rAllB : WR := fun xs h Q => ∃ (x : D) (bs : List Bool), xs = [x] ∧ litems h x = some (bs.map fun b => D.d (.bool b)) ∧ Q (.d (.bool (bs.all id))) h
def rAnyB : WR := fun xs h Q => ∃ (x : D) (bs : List Bool), xs = [x] ∧ litems h x = some (bs.map fun b => D.d (.bool b)) ∧ Q (.d (.bool (bs.any id))) h
section
variable {X : Cx} {W : WX} {a : Expr} {ga : WA} {pos p : Pos}
theorem cp_allB : CpA X (L2.rAll X.K) rAllB := by
  rintro xs h Q vs as H QV rv hR ⟨x, bs, rfl, e, q⟩ k
  obtain ⟨v, rfl, r⟩ := relAll1 rv
  obtain ⟨a, us, rfl, s, ra⟩ := litems_rel r hR e
  rw [ra.truths] at s
  exact ⟨a, bs, rfl, s, k.qd hR q (.bl _)⟩
theorem cp_anyB : CpA X (L2.rAny X.K) rAnyB := by
  rintro xs h Q vs as H QV rv hR ⟨x, bs, rfl, e, q⟩ k
  obtain ⟨v, rfl, r⟩ := relAll1 rv
  obtain ⟨a, us, rfl, s, ra⟩ := litems_rel r hR e
  rw [ra.truths] at s
  exact ⟨a, bs, rfl, s, k.qd hR q (.bl _)⟩
theorem SE.all (hg : Gl X "all") (hm : X.mg "all" = none) (hc : X.calm = true) (ha : SA X W [a] ga) (he : starEach [a] X.env = (false, eval a X.env) :: starEach [] X.env := by rfl) : SE X W (.Call (.Name "all" p) [a] [] pos) (fCall rAllB ga) := .callB (cr_all hc) cp_allB hg hm (by decide +kernel) ha (he := he) (hpl := rfl)
theorem SE.any (hg : Gl X "any") (hm : X.mg "any" = none) (hc : X.calm = true) (ha : SA X W [a] ga) (he : starEach [a] X.env = (false, eval a X.env) :: starEach [] X.env := by rfl) : SE X W (.Call (.Name "any" p) [a] [] pos) (fCall rAnyB ga) := .callB (cr_any hc) cp_anyB hg hm (by decide +kernel) ha (he := he) (hpl := rfl)
end
section
variable {ρ : En} {h : Ho} {Q : KD} {E : XD} {x y : D}
theorem i_zip2 {ga : WA} {QI : List D → (Ho → Prop) → Ho → Prop} (k : ga ρ h (fun vs h1 => ∃ x y xs ys ps qs, vs = [x, y] ∧ items h1 x = some xs ∧ items h1 y = some ys ∧ allD xs = some ps ∧ allD ys = some qs ∧ QI (zipD ps qs) (fun h => stay x xs h ∧ stay y ys h) h1) E) : iZip2 ga ρ h QI E := k
theorem i_enum1 {ga : WA} {QI : List D → (Ho → Prop) → Ho → Prop} (k : ga ρ h (fun vs h1 => ∃ x xs ps, vs = [x] ∧ items h1 x = some xs ∧ allD xs = some ps ∧ QI (enumD ps) (stay x xs) h1) E) : iEnum1 ga ρ h QI E := k
theorem i_allB {bs : List Bool} (e : litems h x = some (bs.map fun b => D.d (.bool b))) (k : Q (.d (.bool (bs.all id))) h) : rAllB [x] h Q := ⟨x, bs, rfl, e, k⟩
end
/-! ### isinstance of data -/
theorem i_isiD {T : String} {n : Nat} {p : PyData} {b : Bool} {ρ : En} {h : Ho} {Q : KD} {E : XD} (e : GetAt n ρ (.d p)) (hb : kitB (tyName p) T = some b) (k : Q (.d (.bool b)) h) : fIsi T (fVar n) ρ h Q E := i_var e ⟨b, hb, k⟩
def isInt : PyData → Bool
  | .int _ => true
  | .bool _ => true
  | _ => false
def isBool : PyData → Bool
  | .bool _ => true
  | _ => false
def isTup : PyData → Bool
  | .tuple _ => true
  | _ => false
theorem kit_int (p : PyData) : kitB (tyName p) "int" = some (isInt p) := by cases p <;> simp only [tyName, isInt, isBool, isTup] <;> decide +kernel
theorem kit_bool (p : PyData) : kitB (tyName p) "bool" = some (isBool p) := by cases p <;> simp only [tyName, isInt, isBool, isTup] <;> decide +kernel
theorem kit_tup (p : PyData) : kitB (tyName p) "tuple" = some (isTup p) := by cases p <;> simp only [tyName, isInt, isBool, isTup] <;> decide +kernel
end V2
set_option Elab.async false
set_option linter.all false
set_option maxRecDepth 100000
set_option maxHeartbeats 4000000
/-! ## a list's slice with a step -/
namespace V2
open PySem PySem.Spec PyProof.Rows L2
open PySem.W (Frag)
/-- what xs[lo:hi:c] picks out of a list -/
def pickL {α : Type} (xs : List α) (lo hi : Option Int) (c : Int) : List α :=
  (sliceRange (sliceBounds lo hi (some c) xs.length).1 (sliceBounds lo hi (some c) xs.length).2.1 (sliceBounds lo hi (some c) xs.length).2.2).filterMap fun k => xs[k]?
theorem vals_pickS {xs : List V} {us : List Value} (r : Vals xs us) (lo hi : Option Int) (c : Int) : Vals (pickL xs lo hi c) (pickL us lo hi c) := by
  unfold pickL
  rw [r.length]
  exact vals_pickF r (fun k => k) _
theorem dv_pickS {K : Frag} {as : List Addr} {H : Hp} {vs : List V} {ps : List PyData} (r : DvAll K as H vs ps) (lo hi : Option Int) (c : Int) : DvAll K as H (pickL vs lo hi c) (pickL ps lo hi c) := by
  unfold pickL
  rw [r.length]
  exact dv_pickF r (fun k => k) _
theorem pick_arr (us : List Value) (lo hi : Option Int) (c : Int) : slicePick us.toArray lo hi (some c) = (pickL us lo hi c).toArray := by
  unfold slicePick pickL
  rw [List.size_toArray]
  congr 2
  funext k
  exact List.getElem?_toArray ..
def tSlL (K : Frag) (te : TE) (tl th : TO) (c : Int) : TE := fun σ H Q => te σ H fun x H1 => tl σ H1 fun l H2 => th σ H2 fun u H3 => ∃ a xs, x = .ref a ∧ SqL K H3 a xs ∧ (pickL xs l u c).length ≤ sizeLine ∧ ∀ p, H3 p = none → Q (.ref p) (upd H3 p (.lst (pickL xs l u c)))
theorem pe_slL {X : Cx} {e se : Expr} {te : TE} {lo hi : Option Expr} {tl th : TO} {pos p2 : Pos} {c : Int} (c0 : c ≠ 0) (he : PE X e te) (hl : PO X lo tl) (hu : PO X hi th) (hs : StepC X se c) :
    PE X (.Subscript e (.Slice lo hi (some se) p2) pos) (tSlL X.K te tl th c) := by
  obtain ⟨ts, hs, hts⟩ := hs
  refine ⟨fun pn a0 sg G0 Q0 J0 w0 => ?_⟩
  refine Subscript_ (thn (he.run pn a0 sg G0 _ J0 w0) fun v a1 ⟨x, G1, J1, r1, w1⟩ => ?_)
  refine wpAny_Slice (thn (hl.run pn a1 sg G1 _ J1 w1) fun v1 a2 ⟨l, G2, J2, m1, w2⟩ => thn (hu.run pn a2 sg G2 _ J2 w2) fun v2 a3 ⟨u, G3, J3, m2, w3⟩ => ?_)
  refine thn (hs.run pn a3 sg G3 (fun o G4 => o = some c ∧ G4 = G3) J3 (hts sg G3 _ ⟨rfl, rfl⟩)) fun v3 a4 ⟨o, G4, J4, m3, eo, eG⟩ => ?_
  subst eo eG
  obtain ⟨b, xs, rfl, sx, hz, q⟩ := w3
  cases r1
  have J5 : Inv X pn sg G4 { a4 with heap := a4.heap.push { cls := .type "slice", data := .fields #[v1, v2, v3] } } := J4.kept (t' := a4.toks) fun _ _ z => Heap.get?_push_of_some _ z
  obtain ⟨its, rv, ht, hn⟩ := J5.list sx
  show wpAny (model X.prog X.w) X.A (subscriptTail e (.Slice lo hi (some se) p2) (.ref b) (.ref a4.heap.objs.size)) (EP X pn sg Q0) X.xe { a4 with heap := a4.heap.push { cls := .type "slice", data := .fields #[v1, v2, v3] } }
  refine tail_any (ops := [.ref b, .ref a4.heap.objs.size]) ht.isList.typeIs PySem.slot_list_getitem.lookup ?_ (by with_unfolding_all rfl)
  have hlen := rv.length
  refine wpAny_getItem_list_slice ht.isList (Heap.IsSliceOf.new _ v1 v2 v3) m1 m2 m3 (by simpa using c0) ?_ (by rw [List.size_toArray]; omega)
  rw [pick_arr]
  refine ⟨.ref _, _, J5.laid (t' := a4.toks) (o := .lst (pickL xs l u c)) (fun _ _ z => Heap.get?_push_of_some _ z) (Nat.le_refl _) ?_, rfl, q _ (J5.hok.fresh (Nat.le_refl _))⟩
  exact ⟨hz, _, 0, vals_pickS rv l u c, Heap.get?_push_size _ rfl⟩
def fSlL (c : Int) (fa : WE) (lo hi : En → Ho → (Option Int → Ho → Prop) → XD → Prop) : WE := fun ρ h Q E => fa ρ h (fun x h1 => lo ρ h1 (fun l h2 => hi ρ h2 (fun u h3 => match x with
  | .d (.list ps) => (pickL ps l u c).length ≤ sizeLine ∧ Q (.d (.list (pickL ps l u c))) h3
  | _ => False) E) E) E
theorem SE.slL {X : Cx} {W : WX} {a se : Expr} {fa : WE} {lo hi : Option Expr} {fl fu} {p2 pos : Pos} {c : Int} (c0 : c ≠ 0) (ha : SE X W a fa) (hl : SO X W lo fl) (hu : SO X W hi fu) (hs : StepC X se c) : SE X W (.Subscript a (.Slice lo hi (some se) p2) pos) (fSlL c fa fl fu) := by
  obtain ⟨_, pa, sa⟩ := ha
  obtain ⟨_, pl, sl⟩ := hl
  obtain ⟨_, pu, su⟩ := hu
  refine ⟨_, pe_slL c0 pa pl pu hs, fun σ H as ρ h Q E QV eR hR hq k kx => ?_⟩
  refine sa σ H as ρ h _ E _ eR hR hq (fun x h1 v as1 H1 hq1 l1 r1 rv => ?_) kx
  refine sl σ H1 as1 ρ h1 _ E _ (eR.later l1) r1 hq1 (fun lo h2 as2 H2 hq2 l2 r2 => ?_) (kx.later l1)
  refine su σ H2 as2 ρ h2 _ E _ ((eR.later l1).later l2) r2 hq2 (fun hi h3 as3 H3 hq3 l3 r3 => ?_) ((kx.later l1).later l2)
  have k3 := ((k.later l1).later l2).later l3
  have rv3 := (rv.later l2).later l3
  split at hq3
  · cases rv3 with | d rv3 =>
    cases rv3 with | lst sx ax =>
    have d := dv_pickS ax lo hi c
    exact ⟨_, _, rfl, sx.sq, by rw [d.length]; exact hq3.1, fun p hp => k3.newLst r3 hq3.2 d hp⟩
  · exact hq3.elim
/-! ## the truth of data -/
def tTru (fa : WE) : WT := fun ρ h Q E => fa ρ h (fun x h1 => match x with
  | .d .none => Q false h1
  | .d (.bool b) => Q b h1
  | .d (.int i) => Q (i != 0) h1
  | x => match items h1 x with
    | some xs => Q (!xs.isEmpty) h1
    | none => False) E
theorem relAll_empty {K : Frag} {as : List Addr} {H : Hp} {vs : List V} {xs : List D} (r : RelAll K as H vs xs) : (!vs.isEmpty) = !xs.isEmpty := by
  cases r <;> rfl
theorem ST.tru {X : Cx} {W : WX} {a : Expr} {fa : WE} (ha : SE X W a fa) (he : ∀ whole, isTrue a X.env whole = (do let v ← whole; standAt a.pos; holding [v] (truthy v)) := by intro _; rfl) : ST X W a (tTru fa) := by
  obtain ⟨ta, pa, sa⟩ := ha
  refine ⟨_, pt_truth pa he, fun σ H as ρ h Q E QV eR hR hq k kx => ?_⟩
  refine sa σ H as ρ h _ E _ eR hR hq (fun x h1 v as1 H1 hq1 l1 r1 rv => ?_) kx
  split at hq1
  · cases rv with | d rv =>
    cases rv
    exact ⟨_, rfl, k _ _ _ _ hq1 l1 r1⟩
  · cases rv with | d rv =>
    cases rv
    exact ⟨_, rfl, k _ _ _ _ hq1 l1 r1⟩
  · cases rv with | d rv =>
    cases rv
    exact ⟨_, rfl, k _ _ _ _ hq1 l1 r1⟩
  · split at hq1
    · rename_i xs e
      obtain ⟨p, vs, rfl, s, ra⟩ := items_rel rv r1 e
      refine ⟨_, ?_, k _ _ _ _ hq1 l1 r1⟩
      rcases s with s | s
      · exact .inl ⟨vs, s, (relAll_empty ra).symm⟩
      · exact .inr (.inl ⟨vs, s, (relAll_empty ra).symm⟩)
    · exact hq1.elim
end V2
set_option Elab.async false
set_option linter.all false
set_option maxRecDepth 100000
set_option maxHeartbeats 4000000
/-! ## the least and the greatest of a list of ints; comprehensions over places, and with draws -/
namespace V2
open PySem PySem.Spec PyProof.Rows L2
open PySem.W (Frag)
def rMinL : WR := fun xs h Q => ∃ (x : D) (ns : List Int), xs = [x] ∧ litems h x = some (ns.map fun i => D.d (.int i)) ∧ 0 < ns.length ∧ ∀ m, m ∈ ns → (∀ y, y ∈ ns → m ≤ y) → Q (.d (.int m)) h
def rMaxL : WR := fun xs h Q => ∃ (x : D) (ns : List Int), xs = [x] ∧ litems h x = some (ns.map fun i => D.d (.int i)) ∧ 0 < ns.length ∧ ∀ m, m ∈ ns → (∀ y, y ∈ ns → y ≤ m) → Q (.d (.int m)) h
section
variable {X : Cx} {W : WX} {a : Expr} {ga : WA} {pos p : Pos}
theorem cp_minL : CpA X (L2.rMin X.K) rMinL := by
  rintro xs h Q vs as H QV rv hR ⟨x, ns, rfl, e, hn, q⟩ k
  obtain ⟨v, rfl, r⟩ := relAll1 rv
  obtain ⟨a, us, rfl, s, ra⟩ := litems_rel r hR e
  rw [ra.ints] at s
  exact ⟨a, ns, rfl, s, hn, fun m h1 h2 => k.qd hR (q m h1 h2) (.int _)⟩
theorem cp_maxL : CpA X (L2.rMax X.K) rMaxL := by
  rintro xs h Q vs as H QV rv hR ⟨x, ns, rfl, e, hn, q⟩ k
  obtain ⟨v, rfl, r⟩ := relAll1 rv
  obtain ⟨a, us, rfl, s, ra⟩ := litems_rel r hR e
  rw [ra.ints] at s
  exact ⟨a, ns, rfl, s, hn, fun m h1 h2 => k.qd hR (q m h1 h2) (.int _)⟩
theorem SE.minL (hg : Gl X "min") (hm : X.mg "min" = none) (hc : X.calm = true) (ha : SA X W [a] ga) (he : starEach [a] X.env = (false, eval a X.env) :: starEach [] X.env := by rfl) : SE X W (.Call (.Name "min" p) [a] [] pos) (fCall rMinL ga) := .callB (cr_min hc) cp_minL hg hm (by decide +kernel) ha (he := he) (hpl := rfl)
theorem SE.maxL (hg : Gl X "max") (hm : X.mg "max" = none) (hc : X.calm = true) (ha : SA X W [a] ga) (he : starEach [a] X.env = (false, eval a X.env) :: starEach [] X.env := by rfl) : SE X W (.Call (.Name "max" p) [a] [] pos) (fCall rMaxL ga) := .callB (cr_max hc) cp_maxL hg hm (by decide +kernel) ha (he := he) (hpl := rfl)
end
section
variable {ρ : En} {h h0 hb rest : Ho} {Q : KD} {E : XD} {st : Ho → Prop} {wg : WG} {tt : WT} {te : WE} {xs : List D}
theorem i_minL {x : D} {ns : List Int} (el : litems h x = some (ns.map cell)) (hn : 0 < ns.length) (k : ∀ m, m ∈ ns → (∀ y, y ∈ ns → m ≤ y) → Q (.d (.int m)) h) : rMinL [x] h Q := ⟨x, ns, rfl, el, hn, k⟩
/-- lists of draws -/
theorem lcd_ind (dh : Deal rest h0) (nr : noRef (rest.length + 2) rest = true) {QL : List PyData → Ho → Prop} (I : Nat → List PyData → Prop) (hst : ∀ h, st h)
    (hs : ∀ (k : Nat) (x : D) (acc : List PyData) (h : Ho) (G : KD), xs[k]? = some x → I k acc → Deal (rest ++ [.lst (acc.map D.d)]) h → (∀ p h2, I (k + 1) (acc ++ [p]) → Deal (rest ++ [.lst (acc.map D.d)]) h2 → G (.d p) h2) → ∃ ρ1, wg x h ρ = some ρ1 ∧ acc.length < sizeLine ∧ te ρ1 h G noX)
    (he : ∀ acc h, I xs.length acc → Deal rest h → QL acc h) (hI : I 0 []) :
    st (h0 ++ [.lst []]) ∧ lcGo wg tTrue te st h0.length ρ (fun h2 => ∃ hh acc ps, h2 = hh ++ [.lst acc] ∧ hh.length = h0.length ∧ (hh = h0 ∨ noRef h0.length hh = true) ∧ allD acc = some ps ∧ QL ps hh) xs (h0 ++ [.lst []]) := by
  refine ⟨hst _, ?_⟩
  have hl := dh.len
  rw [hl]
  have aux : ∀ (ys : List D) (k : Nat), (∀ j, ys[j]? = xs[k + j]?) → k + ys.length = xs.length → ∀ acc h, I k acc → Deal (rest ++ [.lst (acc.map D.d)]) h → lcGo wg tTrue te st (rest.length + 2) ρ (fun h2 => ∃ hh acc ps, h2 = hh ++ [.lst acc] ∧ hh.length = rest.length + 2 ∧ (hh = h0 ∨ noRef (rest.length + 2) hh = true) ∧ allD acc = some ps ∧ QL ps hh) ys h := by
    intro ys
    induction ys with
    | nil =>
      intro k _ hk acc h hi d
      obtain ⟨cs, mix, rfl, h1, h2, h3, h4⟩ := d.is
      refine ⟨.lst (cs.map cell) :: .lst [.loc 0, cell mix] :: rest, acc.map D.d, acc, rfl, rfl, .inr ?_, allD_map _, he acc _ (by rw [← hk]; simpa using hi) ⟨cs, mix, rfl, h1, h2, h3, h4⟩⟩
      unfold noRef at nr ⊢
      rw [List.all_cons, List.all_cons, nr, Bool.and_true, Bool.and_eq_true]
      refine ⟨?_, ?_⟩
      · rw [List.all_eq_true]
        intro x hx
        obtain ⟨c, _, rfl⟩ := List.mem_map.1 hx
        rfl
      · show ((0 != rest.length + 2) && true && true) = true
        simp
    | cons y ys ih =>
      intro k hj hk acc h hi d
      obtain ⟨ρ1, e1, e2, e3⟩ := hs k y acc h (fun y h2 => match h2[rest.length + 2]? with
        | some (.lst acc) => acc.length < sizeLine ∧ st (h2.set (rest.length + 2) (.lst (acc ++ [y]))) ∧ lcGo wg tTrue te st (rest.length + 2) ρ (fun h2 => ∃ hh acc ps, h2 = hh ++ [.lst acc] ∧ hh.length = rest.length + 2 ∧ (hh = h0 ∨ noRef (rest.length + 2) hh = true) ∧ allD acc = some ps ∧ QL ps hh) ys (h2.set (rest.length + 2) (.lst (acc ++ [y])))
        | _ => False) (by rw [← Nat.add_zero k, ← hj 0]; rfl) hi d (fun p h2 hi2 d2 => by
          have g : h2[rest.length + 2]? = some (.lst (acc.map D.d)) := d2.at' (by simp)
          simp only [g]
          refine ⟨?_, hst _, ih (k + 1) (fun j => by rw [Nat.add_assoc, Nat.add_comm 1 j, ← hj (j + 1)]; rfl) (by rw [← hk, List.length_cons]; omega) (acc ++ [p]) _ hi2 ?_⟩
          · obtain ⟨ρ1, _, e2, _⟩ := hs k y acc h (fun _ _ => True) (by rw [← Nat.add_zero k, ← hj 0]; rfl) hi d (fun _ _ _ _ => trivial)
            rw [List.length_map]
            exact e2
          · have := d2.put rest.length (.lst (acc.map D.d ++ [D.d p]))
            rw [List.set_append_right _ _ (Nat.le_refl _), Nat.sub_self, List.set_cons_zero] at this
            rw [List.map_append]
            exact this)
      unfold lcGo
      rw [e1]
      unfold tTrue
      dsimp only
      rw [if_pos rfl]
      exact e3
  exact aux xs 0 (fun j => by rw [Nat.zero_add]) (by simp) [] _ hI (dh.snoc _)
/-- the list of draws is a place -/
theorem lcl_ind (dh : Deal rest h0) {QL : Ho → Prop} (I : Nat → List PyData → Prop) (hst : ∀ h, st h)
    (hs : ∀ (k : Nat) (x : D) (acc : List PyData) (h : Ho) (G : KD), xs[k]? = some x → I k acc → Deal (rest ++ [.lst (acc.map D.d)]) h → (∀ p h2, I (k + 1) (acc ++ [p]) → Deal (rest ++ [.lst (acc.map D.d)]) h2 → G (.d p) h2) → ∃ ρ1, wg x h ρ = some ρ1 ∧ acc.length < sizeLine ∧ te ρ1 h G noX)
    (he : ∀ acc h, I xs.length acc → Deal (rest ++ [.lst (acc.map D.d)]) h → QL h) (hI : I 0 []) :
    st (h0 ++ [.lst []]) ∧ lcGo wg tTrue te st h0.length ρ QL xs (h0 ++ [.lst []]) := by
  refine ⟨hst _, ?_⟩
  have hl := dh.len
  rw [hl]
  have aux : ∀ (ys : List D) (k : Nat), (∀ j, ys[j]? = xs[k + j]?) → k + ys.length = xs.length → ∀ acc h, I k acc → Deal (rest ++ [.lst (acc.map D.d)]) h → lcGo wg tTrue te st (rest.length + 2) ρ QL ys h := by
    intro ys
    induction ys with
    | nil =>
      intro k _ hk acc h hi d
      exact he acc h (by rw [← hk]; simpa using hi) d
    | cons y ys ih =>
      intro k hj hk acc h hi d
      obtain ⟨ρ1, e1, e2, e3⟩ := hs k y acc h (fun y h2 => match h2[rest.length + 2]? with
        | some (.lst acc) => acc.length < sizeLine ∧ st (h2.set (rest.length + 2) (.lst (acc ++ [y]))) ∧ lcGo wg tTrue te st (rest.length + 2) ρ QL ys (h2.set (rest.length + 2) (.lst (acc ++ [y])))
        | _ => False) (by rw [← Nat.add_zero k, ← hj 0]; rfl) hi d (fun p h2 hi2 d2 => by
          have g : h2[rest.length + 2]? = some (.lst (acc.map D.d)) := d2.at' (by simp)
          simp only [g]
          refine ⟨?_, hst _, ih (k + 1) (fun j => by rw [Nat.add_assoc, Nat.add_comm 1 j, ← hj (j + 1)]; rfl) (by rw [← hk, List.length_cons]; omega) (acc ++ [p]) _ hi2 ?_⟩
          · obtain ⟨ρ1, _, e2, _⟩ := hs k y acc h (fun _ _ => True) (by rw [← Nat.add_zero k, ← hj 0]; rfl) hi d (fun _ _ _ _ => trivial)
            rw [List.length_map]
            exact e2
          · have := d2.put rest.length (.lst (acc.map D.d ++ [D.d p]))
            rw [List.set_append_right _ _ (Nat.le_refl _), Nat.sub_self, List.set_cons_zero] at this
            rw [List.map_append]
            exact this)
      unfold lcGo
      rw [e1]
      unfold tTrue
      dsimp only
      rw [if_pos rfl]
      exact e3
  exact aux xs 0 (fun j => by rw [Nat.zero_add]) (by simp) [] _ hI (dh.snoc _)
/-- over a place that the turns leave alone -/
theorem lcv_indS {QL : List PyData → Ho → Prop} (I : Nat → List D → Prop) (hst : ∀ acc, st (hb ++ [.lst acc]))
    (hs : ∀ (k : Nat) (x : D) (acc : List D), xs[k]? = some x → I k acc → ∃ ρ1 y, wg x (hb ++ [.lst acc]) ρ = some ρ1 ∧ (∀ P : KD, P y (hb ++ [.lst acc]) → te ρ1 (hb ++ [.lst acc]) P noX) ∧ acc.length < sizeLine ∧ I (k + 1) (acc ++ [y]))
    (he : ∀ acc, I xs.length acc → ∃ ps, AllD acc ps ∧ QL ps hb) (h0 : I 0 []) :
    st (hb ++ [.lst []]) ∧ lcGo wg tTrue te st hb.length ρ (fun h2 => ∃ hh acc ps, h2 = hh ++ [.lst acc] ∧ hh.length = hb.length ∧ (hh = hb ∨ noRef hb.length hh = true) ∧ allD acc = some ps ∧ QL ps hh) xs (hb ++ [.lst []]) := by
  refine ⟨hst _, ?_⟩
  have aux : ∀ (ys : List D) (k : Nat), (∀ j, ys[j]? = xs[k + j]?) → k + ys.length = xs.length → ∀ acc, I k acc → lcGo wg tTrue te st hb.length ρ (fun h2 => ∃ hh acc ps, h2 = hh ++ [.lst acc] ∧ hh.length = hb.length ∧ (hh = hb ∨ noRef hb.length hh = true) ∧ allD acc = some ps ∧ QL ps hh) ys (hb ++ [.lst acc]) := by
    intro ys
    induction ys with
    | nil =>
      intro k _ hk acc hi
      obtain ⟨ps, a, q⟩ := he acc (by rw [← hk]; simpa using hi)
      exact ⟨hb, acc, ps, rfl, rfl, .inl rfl, a.eq, q⟩
    | cons y ys ih =>
      intro k hj hk acc hi
      obtain ⟨ρ1, z, e1, e2, e3, e4⟩ := hs k y acc (by rw [← Nat.add_zero k, ← hj 0]; rfl) hi
      have ihk := ih (k + 1) (fun j => by rw [Nat.add_assoc, Nat.add_comm 1 j, ← hj (j + 1)]; rfl) (by rw [← hk, List.length_cons]; omega)
      unfold lcGo
      rw [e1]
      unfold tTrue
      dsimp only
      rw [if_pos rfl]
      refine e2 _ ?_
      have g1 : (hb ++ [O.lst acc])[hb.length]? = some (.lst acc) := by simp
      have g2 : (hb ++ [O.lst acc]).set hb.length (.lst (acc ++ [z])) = hb ++ [.lst (acc ++ [z])] := by simp
      simp only [g1, g2]
      exact ⟨e3, hst _, ihk _ e4⟩
  exact aux xs 0 (fun j => by rw [Nat.zero_add]) (by simp) [] h0
end
end V2
set_option Elab.async false
set_option linter.all false
set_option maxRecDepth 100000
set_option maxHeartbeats 4000000
/-! ## texts over data: methods, slices, signs, numbers as texts, f-strings; more within an except suite -/
namespace V2
open PySem PySem.Spec PyProof.Rows L2
open PySem.W (Frag)
theorem MtR.mono {X : Cx} {id : String} {r r' : V → List V → Hp → VK → Prop} (h : MtR X id r) (i : ∀ x xs H Q, r' x xs H Q → r x xs H Q) : MtR X id r' := fun pins s σ H x xs v us Q I rx rs q => h pins s σ H x xs v us Q I rx rs (i _ _ _ _ q)
/-- a text's method without arguments -/
def fM0 (g : Str → PyData) (fo : WE) : WE := fun ρ h Q E => fo ρ h (fun x h1 => match x with
  | .d (.str a) => Q (.d (g a)) h1
  | _ => False) E
/-- with another text -/
def fM1 (C : Str → Str → Prop) (g : Str → Str → PyData) (fo fe : WE) : WE := fun ρ h Q E => fo ρ h (fun x h1 => match x with
  | .d (.str a) => fe ρ h1 (fun y h2 => match y with
    | .d (.str b) => C a b ∧ Q (.d (g a b)) h2
    | _ => False) E
  | _ => False) E
def strsD (ys : List Str) : List PyData := ys.map PyData.str
theorem dv_strs {K : Frag} {as : List Addr} {H : Hp} : ∀ ys : List Str, DvAll K as H (ys.map V.str) (strsD ys)
  | [] => .nil
  | y :: ys => .cons (.str y) (dv_strs ys)
section
variable {X : Cx} {W : WX} {o e a b : Expr} {fo fe fa fb : WE} {name : Str} {apos pos p : Pos} {id : String}
theorem SE.m0 {gV : Str → V} {g : Str → PyData} (slot : Slot "str" name id) (ty : typeOf (.builtin id) = pure (.type "method_descriptor")) (rule : MtR X id (fun x xs H Q => ∃ a, x = .str a ∧ xs = [] ∧ True ∧ Q (gV a) H)) (hg : ∀ K as H a, Dv K as H (gV a) (g a)) (ho : SE X W o fo)
    (hbase : attributeBase o name X.env (eval o X.env) = eval o X.env := by rfl) (hline : (apos.endLine == pos.line) = true := by rfl) : SE X W (.Call (.Attribute o name apos) [] [] pos) (fM0 g fo) := by
  obtain ⟨_, po, so⟩ := ho
  refine ⟨_, pe_m0 slot ty rule po hbase hline, fun σ H as ρ h Q E QV eR hR hq k kx => ?_⟩
  refine so σ H as ρ h _ E _ eR hR hq (fun x h1 v as1 H1 hq1 l1 r1 rv => ?_) kx
  split at hq1
  · cases rv with | d rv =>
    cases rv
    exact ⟨⟨_, rfl⟩, _, rfl, rfl, trivial, (k.later l1).qd r1 hq1 (hg _ _ _ _)⟩
  · exact hq1.elim
theorem SE.isascii (ho : SE X W o fo) (hbase : attributeBase o "isascii" X.env (eval o X.env) = eval o X.env := by rfl) (hline : (apos.endLine == pos.line) = true := by rfl) : SE X W (.Call (.Attribute o "isascii" apos) [] [] pos) (fM0 (fun a => .bool (Txt.isascii a)) fo) := SE.m0 PySem.F.slot_str_isascii PySem.F.type_str_isascii mt_isascii (fun _ _ _ _ => .bl _) ho hbase hline
theorem SE.isdigit (ho : SE X W o fo) (hbase : attributeBase o "isdigit" X.env (eval o X.env) = eval o X.env := by rfl) (hline : (apos.endLine == pos.line) = true := by rfl) : SE X W (.Call (.Attribute o "isdigit" apos) [] [] pos) (fM0 (fun a => .bool (Txt.isdigit a)) fo) := SE.m0 PySem.F.slot_str_isdigit PySem.F.type_str_isdigit mt_isdigit (fun _ _ _ _ => .bl _) ho hbase hline
theorem SE.m1 {C : Str → Str → Prop} {gV : Str → Str → V} {g : Str → Str → PyData} (slot : Slot "str" name id) (ty : typeOf (.builtin id) = pure (.type "method_descriptor")) (rule : MtR X id (fun x xs H Q => ∃ a b, x = .str a ∧ xs = [.str b] ∧ C a b ∧ Q (gV a b) H)) (hg : ∀ K as H a b, Dv K as H (gV a b) (g a b)) (ho : SE X W o fo) (he : SE X W e fe)
    (hs : starEach [e] X.env = [(false, eval e X.env)] := by rfl) (hbase : attributeBase o name X.env (eval o X.env) = eval o X.env := by rfl) (hline : (apos.endLine == pos.line) = true := by rfl) : SE X W (.Call (.Attribute o name apos) [e] [] pos) (fM1 C g fo fe) := by
  obtain ⟨_, po, so⟩ := ho
  obtain ⟨_, pe, se⟩ := he
  refine ⟨_, pe_m1 slot ty rule po pe hs hbase hline, fun σ H as ρ h Q E QV eR hR hq k kx => ?_⟩
  refine so σ H as ρ h _ E _ eR hR hq (fun x h1 v as1 H1 hq1 l1 r1 rv => ?_) kx
  split at hq1
  · cases rv with | d rv =>
    cases rv
    refine ⟨⟨_, rfl⟩, ?_⟩
    refine se σ H1 as1 ρ h1 _ E _ (eR.later l1) r1 hq1 (fun y h2 w as2 H2 hq2 l2 r2 rw' => ?_) (kx.later l1)
    split at hq2
    · cases rw' with | d rw' =>
      cases rw'
      exact ⟨_, _, rfl, rfl, hq2.1, ((k.later l1).later l2).qd r2 hq2.2 (hg _ _ _ _ _)⟩
    · exact hq2.elim
  · exact hq1.elim
theorem SE.startswith (ho : SE X W o fo) (he : SE X W e fe) (hs : starEach [e] X.env = [(false, eval e X.env)] := by rfl) (hbase : attributeBase o "startswith" X.env (eval o X.env) = eval o X.env := by rfl) (hline : (apos.endLine == pos.line) = true := by rfl) :
    SE X W (.Call (.Attribute o "startswith" apos) [e] [] pos) (fM1 (fun _ _ => True) (fun a b => .bool (Txt.startswith a b)) fo fe) :=
  SE.m1 (gV := fun a b => .bl (Txt.startswith a b)) PySem.F.slot_str_startswith PySem.F.type_str_startswith (MtR.mono mt_startswith fun _ _ _ _ ⟨a, b, h1, h2, _, q⟩ => ⟨a, b, h1, h2, q⟩) (fun _ _ _ _ _ => .bl _) ho he hs hbase hline
theorem SE.removeprefix (ho : SE X W o fo) (he : SE X W e fe) (hs : starEach [e] X.env = [(false, eval e X.env)] := by rfl) (hbase : attributeBase o "removeprefix" X.env (eval o X.env) = eval o X.env := by rfl) (hline : (apos.endLine == pos.line) = true := by rfl) :
    SE X W (.Call (.Attribute o "removeprefix" apos) [e] [] pos) (fM1 (fun a _ => a.length ≤ sizeLine) (fun a b => .str (Txt.removeprefix a b)) fo fe) :=
  SE.m1 (gV := fun a b => .str (Txt.removeprefix a b)) PySem.F.slot_str_removeprefix PySem.F.type_str_removeprefix mt_removeprefix (fun _ _ _ _ _ => .str _) ho he hs hbase hline
/-- a new list of texts, a new tuple of three -/
theorem SE.split (ho : SE X W o fo) (he : SE X W e fe) (hs : starEach [e] X.env = [(false, eval e X.env)] := by rfl) (hbase : attributeBase o "split" X.env (eval o X.env) = eval o X.env := by rfl) (hline : (apos.endLine == pos.line) = true := by rfl) :
    SE X W (.Call (.Attribute o "split" apos) [e] [] pos) (fM1 (fun a b => (b.length == 0) = false ∧ a.length + 2 ≤ sizeLine) (fun a b => .list (strsD (Txt.split a b))) fo fe) := by
  obtain ⟨_, po, so⟩ := ho
  obtain ⟨_, pe, se⟩ := he
  refine ⟨_, pe_split po pe hs hbase hline, fun σ H as ρ h Q E QV eR hR hq k kx => ?_⟩
  refine so σ H as ρ h _ E _ eR hR hq (fun x h1 v as1 H1 hq1 l1 r1 rv => ?_) kx
  split at hq1
  · cases rv with | d rv =>
    cases rv
    refine ⟨⟨_, rfl⟩, ?_⟩
    refine se σ H1 as1 ρ h1 _ E _ (eR.later l1) r1 hq1 (fun y h2 w as2 H2 hq2 l2 r2 rw' => ?_) (kx.later l1)
    split at hq2
    · cases rw' with | d rw' =>
      cases rw'
      exact ⟨_, _, rfl, rfl, hq2.1.1, hq2.1.2, fun p hp => ((k.later l1).later l2).newLst r2 hq2.2 (dv_strs _) hp⟩
    · exact hq2.elim
  · exact hq1.elim
theorem SE.partition (ho : SE X W o fo) (he : SE X W e fe) (hs : starEach [e] X.env = [(false, eval e X.env)] := by rfl) (hbase : attributeBase o "partition" X.env (eval o X.env) = eval o X.env := by rfl) (hline : (apos.endLine == pos.line) = true := by rfl) :
    SE X W (.Call (.Attribute o "partition" apos) [e] [] pos) (fM1 (fun a b => (b.length == 0) = false ∧ a.length ≤ sizeLine) (fun a b => .tuple [.str (Txt.partition a b).1, .str (Txt.partition a b).2.1, .str (Txt.partition a b).2.2]) fo fe) := by
  obtain ⟨_, po, so⟩ := ho
  obtain ⟨_, pe, se⟩ := he
  refine ⟨_, pe_partition po pe hs hbase hline, fun σ H as ρ h Q E QV eR hR hq k kx => ?_⟩
  refine so σ H as ρ h _ E _ eR hR hq (fun x h1 v as1 H1 hq1 l1 r1 rv => ?_) kx
  split at hq1
  · cases rv with | d rv =>
    cases rv
    refine ⟨⟨_, rfl⟩, ?_⟩
    refine se σ H1 as1 ρ h1 _ E _ (eR.later l1) r1 hq1 (fun y h2 w as2 H2 hq2 l2 r2 rw' => ?_) (kx.later l1)
    split at hq2
    · cases rw' with | d rw' =>
      cases rw'
      exact ⟨_, _, rfl, rfl, hq2.1.1, hq2.1.2, fun p hp => ((k.later l1).later l2).newTup r2 hq2.2 (.cons (.str _) (.cons (.str _) (.cons (.str _) .nil))) hp⟩
    · exact hq2.elim
  · exact hq1.elim
end
/-! ### numbers and texts -/
def rStr1 : WR := fun xs h Q => match xs with
  | [.d (.int i)] => i.natAbs.log2 < 1920 ∧ Q (.d (.str (Str.ofString (toString i)))) h
  | _ => False
def rIntS : WR := fun xs h Q => match xs with
  | [.d (.str a)] => ∃ n, PySem.intText? a = some n ∧ a.length ≤ 640 ∧ Q (.d (.int n)) h
  | _ => False
def rLenS : WR := fun xs h Q => match xs with
  | [.d (.str z)] => z.length ≤ sizeLine ∧ Q (.d (.int z.length)) h
  | _ => rLen xs h Q
section
variable {X : Cx} {W : WX} {a b : Expr} {es : List Expr} {ga : WA} {fa fb : WE} {pos p p2 : Pos}
theorem cp_str1 : CpA X (fun xs H Q => ∃ i, xs = [.int i] ∧ i.natAbs.log2 < 1920 ∧ Q (.str (toString i)) H) rStr1 := by
  intro xs h Q vs as H QV rv hR hq k
  unfold rStr1 at hq
  split at hq
  · obtain ⟨v, rfl, r⟩ := relAll1 rv
    rw [rel_int r]
    exact ⟨_, rfl, hq.1, k.qd hR hq.2 (.str _)⟩
  · exact hq.elim
theorem cp_intS : CpA X (fun xs H Q => ∃ a n, xs = [.str a] ∧ PySem.intText? a = some n ∧ a.length ≤ 640 ∧ Q (.int n) H) rIntS := by
  intro xs h Q vs as H QV rv hR hq k
  unfold rIntS at hq
  split at hq
  · obtain ⟨v, rfl, r⟩ := relAll1 rv
    obtain ⟨n, e1, e2, q⟩ := hq
    cases r with | d r =>
    cases r
    exact ⟨_, n, rfl, e1, e2, k.qd hR q (.int _)⟩
  · exact hq.elim
theorem SE.str1 (hg : Gl X "str") (hm : X.mg "str" = none) (ha : SA X W [a] ga) (he : starEach [a] X.env = (false, eval a X.env) :: starEach [] X.env := by rfl) : SE X W (.Call (.Name "str" p) [a] [] pos) (fCall rStr1 ga) := .callTy call_str_int cp_str1 hg hm (by decide +kernel) ha (he := he) (hpl := rfl)
theorem SE.intS (hg : Gl X "int") (hm : X.mg "int" = none) (ha : SA X W [a] ga) (he : starEach [a] X.env = (false, eval a X.env) :: starEach [] X.env := by rfl) : SE X W (.Call (.Name "int" p) [a] [] pos) (fCall rIntS ga) := .callTy call_int_str cp_intS hg hm (by decide +kernel) ha (he := he) (hpl := rfl)
theorem cp_lenS : CpA X (fun xs H Q => (∃ p ys, xs = [.ref p] ∧ (SqL X.K H p ys ∨ SqT X.K H p ys) ∧ Q (.int ys.length) H) ∨ ∃ z, xs = [.str z] ∧ z.length ≤ sizeLine ∧ Q (.int z.length) H) rLenS := by
  intro xs h Q vs as H QV rv hR hq k
  unfold rLenS at hq
  split at hq
  · obtain ⟨v, rfl, r⟩ := relAll1 rv
    cases r with | d r =>
    cases r
    exact .inr ⟨_, rfl, hq.1, k.qd hR hq.2 (.int _)⟩
  · exact .inl (cp_len _ _ _ _ _ _ _ rv hR hq k)
theorem SE.lenS (hg : Gl X "len") (hm : X.mg "len" = none) (ha : SA X W [a] ga) (he : starEach [a] X.env = (false, eval a X.env) :: starEach [] X.env := by rfl) : SE X W (.Call (.Name "len" p) [a] [] pos) (fCall rLenS ga) := .callB (call_len_seq.or call_len_str) cp_lenS hg hm (by decide +kernel) ha (he := he) (hpl := rfl)
/-! ### one sign: s[i], in, for -/
def rIxS2 : WR2 := fun x y h Q => match x with
  | .d (.str z) => ∃ i c, y = .d (.int i) ∧ z.length ≤ sizeLine ∧ L2.atI z.cps.toList i = some c ∧ Q (.d (.str ⟨#[c]⟩)) h
  | _ => rIx2 x y h Q
theorem cp_ixS : Cp2 X (fun x y H Q => (rIxL X.K x y H Q ∨ rIxT X.K x y H Q) ∨ rIxS x y H Q) rIxS2 := by
  intro x y h Q v w as H QV rx ry hR hq k
  unfold rIxS2 at hq
  split at hq
  · obtain ⟨i, c, rfl, h1, h2, q⟩ := hq
    cases rx with | d rx =>
    cases rx
    rw [rel_int ry]
    exact .inr ⟨_, i, c, rfl, rfl, h1, h2, k.qd hR q (.str _)⟩
  · exact .inl (cp_ix _ _ _ _ _ _ _ _ _ rx ry hR hq k)
theorem SE.ixS (ha : SE X W a fa) (hb : SE X W b fb) (hs : PlainIx b := by exact fun _ _ => rfl) : SE X W (.Subscript a b pos) (fBin rIxS2 fa fb) := by
  obtain ⟨ta, pa, sa⟩ := ha
  obtain ⟨tb, pb, sb⟩ := hb
  exact ⟨_, pe_ix ((ix_list.or ix_tup).or ix_str) pa pb hs, sp_op cp_ixS sa sb⟩
def rInS : WR2 := fun x y h Q => match x, y with
  | .d (.str s), .d (.str z) => ∃ c, s = ⟨#[c]⟩ ∧ Q (.d (.bool (decide (c ∈ z.cps.toList)))) h
  | _, _ => False
theorem cp_inS : Cp2 X (fun x y H Q => ∃ (c : Nat) (z : Str), x = .str ⟨#[c]⟩ ∧ y = .str z ∧ Q (.bl (decide (c ∈ z.cps.toList))) H) rInS := by
  intro x y h Q v w as H QV rx ry hR hq k
  unfold rInS at hq
  split at hq
  · obtain ⟨c, rfl, q⟩ := hq
    cases rx with | d rx =>
    cases ry with | d ry =>
    cases rx
    cases ry
    exact ⟨c, _, rfl, rfl, k.qd hR q (.bl _)⟩
  · exact hq.elim
theorem SE.inS (ha : SE X W a fa) (hb : SE X W b fb) (hm : behindInMarks .In b = false := by rfl) : SE X W (.Compare a [.In] [b] pos) (fBin rInS fa fb) := .cmp op_in_sign cp_inS ha hb hm
theorem ST.inS (ha : SE X W a fa) (hb : SE X W b fb) (hm : behindInMarks .In b = false := by rfl) : ST X W (.Compare a [.In] [b] pos) (tVal (fBin rInS fa fb)) := .cmp op_in_sign cp_inS ha hb hm
def signs (z : Str) : List D := z.cps.toList.map fun c => D.d (.str ⟨#[c]⟩)
def iSigns (fa : WE) : WI := fun ρ h Q E => fa ρ h (fun x h1 => match x with
  | .d (.str z) => Q (signs z) (fun _ => True) h1
  | _ => False) E
theorem walks_signs {K : Frag} {as1 : List Addr} {H1 : Hp} {z : Str} {st : Ho → Prop} : Walks K as1 H1 (signs z) st (Its z) := by
  intro i as2 H2 h2 l r2 _
  have hlen : (signs z).length = z.cps.size := by simp [signs]
  refine ⟨fun hi => by rw [hlen] at hi; exact hi, fun hi => by rw [hlen] at hi; exact Nat.le_of_eq hi.symm, fun v H3 y x ex => ?_⟩
  obtain ⟨rfl, c, hc, rfl⟩ := y
  refine ⟨Later.refl _ _, r2, ?_⟩
  unfold signs at ex
  rw [List.getElem?_map, Array.getElem?_toList, hc] at ex
  cases ex
  exact .d (.str _)
theorem SI.signs {tg : Expr} (ha : SE X W a fa) : SI X W tg a (iSigns fa) := by
  obtain ⟨_, pa, sa⟩ := ha
  refine ⟨_, pi_str pa, fun σ H as ρ h Q E R eR hR hq k kx => ?_⟩
  refine sa σ H as ρ h _ E _ eR hR hq (fun x h1 v as1 H1 hq1 l1 r1 rv => ?_) kx
  split at hq1
  · cases rv with | d rv =>
    cases rv
    exact ⟨_, rfl, k _ _ h1 as1 H1 _ hq1 trivial l1 r1 walks_signs⟩
  · exact hq1.elim
/-! ### slices of a text -/
def fSlS (fa : WE) (lo hi : En → Ho → (Option Int → Ho → Prop) → XD → Prop) : WE := fun ρ h Q E => fa ρ h (fun x h1 => lo ρ h1 (fun l h2 => hi ρ h2 (fun u h3 => match x with
  | .d (.str z) => z.length ≤ sizeLine ∧ Q (.d (.str (cutS z l u))) h3
  | _ => False) E) E) E
theorem SE.sliceS {lo hi : Option Expr} {fl fu} (ha : SE X W a fa) (hl : SO X W lo fl) (hu : SO X W hi fu) : SE X W (.Subscript a (.Slice lo hi Option.none p2) pos) (fSlS fa fl fu) := by
  obtain ⟨_, pa, sa⟩ := ha
  obtain ⟨_, pl, sl⟩ := hl
  obtain ⟨_, pu, su⟩ := hu
  refine ⟨_, pe_slice sl_str pa pl pu, fun σ H as ρ h Q E QV eR hR hq k kx => ?_⟩
  refine sa σ H as ρ h _ E _ eR hR hq (fun x h1 v as1 H1 hq1 l1 r1 rv => ?_) kx
  refine sl σ H1 as1 ρ h1 _ E _ (eR.later l1) r1 hq1 (fun lo h2 as2 H2 hq2 l2 r2 => ?_) (kx.later l1)
  refine su σ H2 as2 ρ h2 _ E _ ((eR.later l1).later l2) r2 hq2 (fun hi h3 as3 H3 hq3 l3 r3 => ?_) ((kx.later l1).later l2)
  have k3 := ((k.later l1).later l2).later l3
  split at hq3
  · cases rv with | d rv =>
    cases rv
    exact ⟨_, rfl, hq3.1, k3.qd r3 hq3.2 (.str _)⟩
  · exact hq3.elim
end
/-! ### f-strings -/
def fFmt (fa : WE) : WE := fun ρ h Q E => fa ρ h (fun x h1 => match x with
  | .d (.int i) => i.natAbs.log2 < 1920 ∧ Q (.d (.str (Str.ofString (toString i)))) h1
  | .d (.str y) => y.length ≤ sizeLine ∧ Q (.d (.str y)) h1
  | _ => False) E
def fJs : List WE → Str → En → Ho → (Str → Ho → Prop) → XD → Prop
  | [], acc, _, h, Q, _ => Q acc h
  | f :: fs, acc, ρ, h, Q, E => f ρ h (fun x h1 => match x with
    | .d (.str y) => (acc ++ y).length ≤ sizeLine ∧ fJs fs (acc ++ y) ρ h1 Q E
    | _ => False) E
def fJoin (fs : List WE) : WE := fun ρ h Q E => fJs fs Str.empty ρ h (fun z h1 => Q (.d (.str z)) h1) E
section
variable {X : Cx} {W : WX} {a : Expr} {es : List Expr} {fa : WE} {pos : Pos}
theorem SE.fmt (ha : SE X W a fa) : SE X W (.FormattedValue a (-1) none pos) (fFmt fa) := by
  obtain ⟨_, pa, sa⟩ := ha
  refine ⟨_, pe_fmt pa, fun σ H as ρ h Q E QV eR hR hq k kx => ?_⟩
  refine sa σ H as ρ h _ E _ eR hR hq (fun x h1 v as1 H1 hq1 l1 r1 rv => ?_) kx
  split at hq1
  · rw [rel_int rv]
    exact .inr ⟨_, rfl, hq1.1, (k.later l1).qd r1 hq1.2 (.str _)⟩
  · cases rv with | d rv =>
    cases rv
    exact .inl ⟨_, rfl, hq1.1, (k.later l1).qd r1 hq1.2 (.str _)⟩
  · exact hq1.elim
def SJ (X : Cx) (W : WX) (es : List Expr) (fs : List WE) : Prop := ∃ ts, PJ X es ts ∧ ∀ acc σ H as ρ h (Q : Str → Ho → Prop) E (QV : Str → Hp → Prop), EnvR X.K as H ρ σ → HeapR X.K as H h → fJs fs acc ρ h Q E →
  (∀ z h' as1 H', Q z h' → Later as H as1 H' → HeapR X.K as1 H' h' → QV z H') → XTo X W as H σ E → tJs ts acc σ H QV
theorem SJ.nil : SJ X W [] [] := ⟨[], .nil, fun _ _ _ _ _ _ _ _ _ _ hR hq k _ => k _ _ _ _ hq (Later.refl _ _) hR⟩
theorem SJ.cons {fs : List WE} (ha : SE X W a fa) (hr : SJ X W es fs) : SJ X W (a :: es) (fa :: fs) := by
  obtain ⟨_, pa, sa⟩ := ha
  obtain ⟨_, pr, sr⟩ := hr
  refine ⟨_, .cons pa pr, fun acc σ H as ρ h Q E QV eR hR hq k kx => ?_⟩
  refine sa σ H as ρ h _ E _ eR hR hq (fun x h1 v as1 H1 hq1 l1 r1 rv => ?_) kx
  split at hq1
  · cases rv with | d rv =>
    cases rv
    exact ⟨_, rfl, hq1.1, sr _ σ H1 as1 ρ h1 Q E QV (eR.later l1) r1 hq1.2 (fun z h' as2 H2 q l r => k z h' as2 H2 q (l1.trans l) r) (kx.later l1)⟩
  · exact hq1.elim
theorem SE.join {v1 v2 : Expr} {rest : List Expr} {fs : List WE} (h : SJ X W (v1 :: v2 :: rest) fs) : SE X W (.JoinedStr (v1 :: v2 :: rest) pos) (fJoin fs) := by
  obtain ⟨_, pj, sj⟩ := h
  exact ⟨_, pe_joined pj, fun σ H as ρ h Q E QV eR hR hq k kx => sj _ σ H as ρ h _ E _ eR hR hq (fun z h' as1 H' q l r => (k.later l).qd r q (.str _)) kx⟩
end
/-! ### within an except suite -/
section
variable {X : Cx} {i : Nat} {n : Str} {pos p : Pos} {e b : Expr} {es rest : List Expr} {fe fb : XE'} {ga : Ex → WA} {ft gt : Ex → WT}
theorem SXW.or1 (he : SXT X i e ft) : SXW X i (.BoolOp .Or [e] pos) ft := by
  intro a oe cls d pn hz hd
  obtain ⟨_, pe, se⟩ := he a oe cls d pn hz hd
  exact ⟨_, pw_or1 pe, se⟩
theorem SXW.or (he : SXT X i e ft) (hb : SXW X i (.BoolOp .Or (b :: rest) pos) gt) : SXW X i (.BoolOp .Or (e :: b :: rest) pos) (fun x => tOr2 (ft x) (gt x)) := by
  intro a oe cls d pn hz hd
  obtain ⟨_, pe, se⟩ := he a oe cls d pn hz hd
  obtain ⟨_, pb, sb⟩ := hb a oe cls d pn hz hd
  refine ⟨_, pw_or pe pb, fun x σ H as ρ h Q E QV eR hR ho hq k => ?_⟩
  refine se x σ H as ρ h _ E _ eR hR ho hq (fun c h1 as1 H1 hq1 l1 r1 => ?_)
  cases c with
  | true => exact iteT (k _ _ _ _ hq1 l1 r1)
  | false => exact iteF (sb x σ H1 as1 ρ h1 Q E QV (eR.later l1) r1 (ho.later l1) hq1 (k.later l1))
theorem SXE.add (he : SXE X i e fe) (hb : SXE X i b fb) : SXE X i (.BinOp e .Add b pos) (fun x => fBin rAdd2 (fe x) (fb x)) := by
  intro a oe cls d pn hz hd
  obtain ⟨_, pe, se⟩ := he a oe cls d pn hz hd
  obtain ⟨_, pb, sb⟩ := hb a oe cls d pn hz hd
  refine ⟨_, pe_op op_addV pe pb, fun x σ H as ρ h Q E QV eR hR ho hq k => ?_⟩
  refine se x σ H as ρ h _ E _ eR hR ho hq (fun y h1 v as1 H1 hq1 l1 r1 rv => ?_)
  refine sb x σ H1 as1 ρ h1 _ E _ (eR.later l1) r1 (ho.later l1) hq1 (fun z h2 w as2 H2 hq2 l2 r2 rw' => ?_)
  exact cp_add (X := X.suite a ((a, oe) :: pn)) y z h2 Q v w as2 H2 QV (rv.later l2) rw' r2 hq2 (k.later (l1.trans l2))
theorem SXE.str1 (hg : Gl X "str") (hm : X.mg "str" = none) (ha : SXA X i [e] ga) (he : starEach [e] X.env = (false, eval e X.env) :: starEach [] X.env := by rfl) : SXE X i (.Call (.Name "str" p) [e] [] pos) (fun x => fCall rStr1 (ga x)) := by
  intro a oe cls d pn hz hd
  obtain ⟨_, pa, sa⟩ := ha a oe cls d pn hz hd
  refine ⟨_, pe_callTy call_str_int hg hm (by decide +kernel) pa (he := he) (hpl := rfl), fun x σ H as ρ h Q E QV eR hR ho hq k => ?_⟩
  refine sa x σ H as ρ h _ E _ eR hR ho hq (fun xs h1 vs as1 H1 hq1 l1 r1 rv => ?_)
  exact cp_str1 (X := X.suite a ((a, oe) :: pn)) _ _ _ _ _ _ _ rv r1 hq1 (k.later l1)
/-- if c: return a; return b -/
theorem suite_ifret {c : Expr} {p1 p2 p3 : Pos} (hc : SXT X i c ft) (he : SXE X i e fe) (hb : SXE X i b fb) : SSuite X i [.If c [.Return (some e) p1] [] p2, .Return (some b) p3] (fun x => sRet (fIf (ft x) (fe x) (fb x))) := by
  intro a oe cls d pn hz hd
  obtain ⟨_, pc, sc⟩ := hc a oe cls d pn hz hd
  obtain ⟨_, pe, se⟩ := he a oe cls d pn hz hd
  obtain ⟨_, pb, sb⟩ := hb a oe cls d pn hz hd
  refine ⟨_, pss_cons (ps_if pc (pss_one (ps_ret pe)) pss_nil) (pss_one (ps_ret pb)), fun x σ H as ρ h D D' eR hs hR xr hq k => ?_⟩
  refine sc x σ H as ρ h _ (exOf D ρ) _ eR hR ⟨hs, xr⟩ hq (fun t h1 as1 H1 hq1 l1 r1 => ?_)
  have kr : ∀ y h' v as2 H', D.rt y h' → Later as1 H1 as2 H' → HeapR X.K as2 H' h' → Rel X.K as2 H' v y → D'.rt v H' := fun y h' v as2 H' q l r rr => k.rt _ _ _ _ _ q (l1.trans l) r rr
  have hh : Hold X i a cls d x σ as1 H1 := Hold.later l1 ⟨hs, xr⟩
  cases t with
  | true => exact iteT (se x σ H1 as1 ρ h1 D.rt (exOf D ρ) D'.rt (eR.later l1) r1 hh hq1 kr)
  | false => exact iteF (sb x σ H1 as1 ρ h1 D.rt (exOf D ρ) D'.rt (eR.later l1) r1 hh hq1 kr)
end
end V2
set_option Elab.async false
set_option linter.all false
set_option maxRecDepth 100000
set_option maxHeartbeats 4000000
/-! A dict that is used as a set of tuples of ints: {}, in, d[k] = v -/
namespace V2
open PySem PySem.Spec PyProof.Rows L2
open PySem.W (Frag)
def intsD : List PyData → Option (List Int)
  | [] => some []
  | .int i :: r => (intsD r).map (i :: ·)
  | _ => none
def keyOf : PyData → Option (List Int)
  | .tuple ps => intsD ps
  | _ => none
theorem intsD_vals {K : Frag} {as : List Addr} {H : Hp} : ∀ {ps : List PyData} {ks : List Int} {vs : List V}, intsD ps = some ks → DvAll K as H vs ps → vs = ks.map V.int
  | [], ks, vs, e, h => by
    cases h
    cases e
    rfl
  | p :: ps, ks, vs, e, h => by
    cases p with
    | int i =>
      simp only [intsD, Option.map_eq_some_iff] at e
      obtain ⟨r, e1, rfl⟩ := e
      cases h with
      | cons h1 h2 =>
        cases h1
        rw [intsD_vals e1 h2]
        rfl
    | _ => cases e
theorem key_rel {K : Frag} {as : List Addr} {H : Hp} {p : PyData} {ks : List Int} {v : V} (e : keyOf p = some ks) (r : Rel K as H v (.d p)) : ∃ b, v = .ref b ∧ TupR K as H b (ks.map V.int) := by
  cases p with
  | tuple ps =>
    cases r with | d r =>
    cases r with
    | @tup a xs ds h1 h2 =>
      rw [intsD_vals e h2] at h1
      exact ⟨a, rfl, h1⟩
  | _ => cases e
def addK (ks : List (List Int)) (k : List Int) : List (List Int) := if k ∈ ks then ks else ks ++ [k]
theorem any_mem {xs : List (List Int × Addr × Value)} {k : List Int} : (xs.any fun z => decide (z.1 = k)) = decide (k ∈ xs.map (·.1)) := by
  by_cases c : k ∈ xs.map (·.1)
  · rw [decide_eq_true c, List.any_eq_true]
    obtain ⟨z, h1, h2⟩ := List.mem_map.1 c
    exact ⟨z, h1, decide_eq_true h2⟩
  · rw [decide_eq_false c, List.any_eq_false]
    intro z hz e
    exact c (List.mem_map.2 ⟨z, hz, of_decide_eq_true e⟩)
def fDct : WE := fun _ h Q _ => Q (.loc h.length) (h ++ [.keys []])
def rInK : WR2 := fun x y h Q => match x, y with
  | .d p, .loc n => match h[n]? with
    | some (.keys ks) => match keyOf p with
      | some k => Q (.d (.bool (decide (k ∈ ks)))) h
      | none => False
    | _ => False
  | _, _ => False
/-- o[i] = e, o a dict of the store -/
def sPut (fe fo fi : WE) : WS := fun ρ h D => fe ρ h (fun y h1 => fo ρ h1 (fun x h2 => fi ρ h2 (fun z h3 => match x, z with
  | .loc n, .d p => match h3[n]? with
    | some (.keys ks) => match keyOf p with
      | some k => ks.length < sizeLine ∧ D.nx ρ (h3.set n (.keys (addK ks k)))
      | none => False
    | _ => False
  | _, _ => False) (exOf D ρ)) (exOf D ρ)) (exOf D ρ)
section
variable {X : Cx} {W : WX} {a b e : Expr} {fa fb fe : WE} {pos : Pos}
theorem SE.dct : SE X W (.Dict [] [] pos) fDct := ⟨_, pe_dnewKd, fun σ H as ρ h Q E QV eR hR hq k kx => by
  intro p hp hs
  obtain ⟨r1, e⟩ := hR.placeO (ob := kdO p []) (o := .keys []) hp ⟨hs, [], upd_same, rfl, fun z hz => nomatch hz⟩
  exact k _ _ _ _ _ hq (Later.place _ hp) r1 (.loc e)⟩
theorem cp_inK : Cp2 X (rInKd X.K) rInK := by
  intro x y h Q v w as H QV rx ry hR hq k
  unfold rInK at hq
  split at hq
  · rename_i p n
    split at hq
    · rename_i ks en
      split at hq
      · rename_i kk ek
        obtain ⟨b, rfl, tb⟩ := key_rel ek rx
        cases ry with | loc hn =>
        obtain ⟨d, hd, hs, xs, o1, o2, o3⟩ := hR.at en
        rw [hn] at hd
        cases hd
        refine ⟨_, xs, b, kk, rfl, hs, o1, rfl, tb.sq, fun z hz => (o3 z hz).sq, ?_⟩
        rw [any_mem, o2]
        exact k.qd hR hq (.bl _)
      · exact hq.elim
    · exact hq.elim
  · exact hq.elim
theorem SE.inK (hu : X.A.units + 64 < cLine) (ha : SE X W a fa) (hb : SE X W b fb) (hm : behindInMarks .In b = false := by rfl) : SE X W (.Compare a [.In] [b] pos) (fBin rInK fa fb) := .cmp (op_inKd (by omega)) cp_inK ha hb hm
theorem ST.inK (hu : X.A.units + 64 < cLine) (ha : SE X W a fa) (hb : SE X W b fb) (hm : behindInMarks .In b = false := by rfl) : ST X W (.Compare a [.In] [b] pos) (tVal (fBin rInK fa fb)) := .cmp (op_inKd (by omega)) cp_inK ha hb hm
theorem stored_keys {xs : List (List Int × Addr × Value)} {k : List Int} {b : Addr} {r : Value} : (storedH xs k b r).map (·.1) = addK (xs.map (·.1)) k := by
  unfold storedH addK
  rw [atKey_some, any_mem]
  by_cases c : k ∈ xs.map (·.1)
  · rw [if_pos (decide_eq_true c), if_pos c]
    rw [List.map_map]
    apply List.map_congr_left
    intro z _
    show (putAt k r z).1 = z.1
    unfold putAt
    split <;> rfl
  · rw [if_neg (by rw [decide_eq_false c]; decide), if_neg c, List.map_append]
    rfl
theorem stored_tups {K : Frag} {as : List Addr} {H : Hp} {xs : List (List Int × Addr × Value)} {k : List Int} {b : Addr} {r : Value} (h : ∀ z ∈ xs, TupR K as H z.2.1 (z.1.map V.int)) (hb : TupR K as H b (k.map V.int)) :
    ∀ z ∈ storedH xs k b r, TupR K as H z.2.1 (z.1.map V.int) := by
  intro z hz
  unfold storedH at hz
  split at hz
  · obtain ⟨y, hy, rfl⟩ := List.mem_map.1 hz
    unfold putAt
    split
    · exact h y hy
    · exact h y hy
  · rcases List.mem_append.1 hz with hz | hz
    · exact h z hz
    · rw [List.mem_singleton] at hz
      subst hz
      exact hb
theorem SS.put {o i : Expr} {fo fi : WE} {pos' : Pos} (hu : X.A.units + 64 < cLine) (he : SE X W e fe) (ho : SE X W o fo) (hi : SE X W i fi)
    (ha : ∀ v, assign (.Subscript o i pos') X.env v = (do
      let ov ← holding [v] (eval o X.env)
      let iv ← holding [v, ov] (eval i X.env)
      standAt pos'
      holding [v, ov, iv] (setItem ov iv v)
      release [v, ov, iv] []) := by intro _; rfl) (hs : swapsWithSole [.Subscript o i pos'] e pos.line X.env = pure false := by rfl) (hw : swappedStores [.Subscript o i pos'] e X.env = pure none := by rfl)
    (h1 : (assignEach [.Subscript o i pos'] X.env).map (·.2) = [assign (.Subscript o i pos') X.env] := by rfl) : SS X W (.Assign [.Subscript o i pos'] e pos) (sPut fe fo fi) := by
  obtain ⟨_, pe, se⟩ := he
  obtain ⟨_, po, so⟩ := ho
  obtain ⟨_, pi, si⟩ := hi
  refine ⟨_, ps_asg pe (pg_sub po pi (set_kd (by omega)) ha) hs hw h1, fun σ H as ρ h D D' eR hR hq k => ?_⟩
  refine se σ H as ρ h _ _ _ eR hR hq (fun y h1 v as1 H1 hq1 l1 r1 rv => ?_) (k.x eR)
  refine so σ H1 as1 ρ h1 _ _ _ (eR.later l1) r1 hq1 (fun x h2 u as2 H2 hq2 l2 r2 ru => ?_) (k.kx eR l1)
  have l12 := l1.trans l2
  refine si σ H2 as2 ρ h2 _ _ _ (eR.later l12) r2 hq2 (fun z h3 w as3 H3 hq3 l3 r3 rw' => ?_) (k.kx eR l12)
  have l13 := l12.trans l3
  split at hq3
  · rename_i n p
    split at hq3
    · rename_i ks en
      split at hq3
      · rename_i kk ek
        obtain ⟨hlen, hq3⟩ := hq3
        have ru3 := ru.later l3
        cases ru3 with | @loc ad _ hb =>
        obtain ⟨c, rfl, tc⟩ := key_rel ek rw'
        obtain ⟨d, hb', hs', xs, o1, o2, o3⟩ := r3.at en
        rw [hb] at hb'
        cases hb'
        refine ⟨_, xs, c, kk, rfl, hs', o1, rfl, tc.sq, fun z hz => (o3 z hz).sq, ?_, fun r => ?_⟩
        · rw [← o2, List.length_map] at hlen
          exact hlen
        · have lw : Later as3 H3 as3 (upd H3 ad (kdO ad (storedH xs kk c r))) := Later.write _ (List.mem_of_getElem? hb)
          refine k.nx _ _ _ _ _ hq3 (l13.trans lw) (r3.writeO hb ⟨hs', storedH xs kk c r, upd_same, ?_, ?_⟩) (eR.later (l13.trans lw))
          · rw [stored_keys, o2]
          · exact stored_tups (fun z hz => (o3 z hz).later lw) (tc.later lw)
      · exact hq3.elim
    · exact hq3.elim
  · exact hq3.elim
end
end V2
set_option Elab.async false
set_option linter.all false
set_option maxRecDepth 100000
set_option maxHeartbeats 4000000
/-! try: body, except c: suite; without a name -/
namespace V2
open PySem PySem.Spec PyProof.Rows L2
open PySem.W (Frag)
/-- what a suite wants behind: no exception may leave it -/
def sufO (D : Nx) : Nx := { nx := D.nx, rt := D.rt, bk := D.bk, ct := D.ct, ex := fun _ _ _ => False }
def sTryO (m : Str → Option Bool) (f : WS) (sf : WS) : WS := fun ρ h D => f ρ h { D with ex := fun x ρ1 h1 => match m x.cls with
  | some true => sf ρ1 h1 (sufO D)
  | some false => D.ex x ρ1 h1
  | none => False }
section
variable {X : Cx} {W : WX} {x : Str} {c : Value} {body suite : List Stmt} {b₀ : Stmt} {np pos pos' : Pos} {f sf : WS} {m : Str → Option Bool}
theorem SS.tryO (hs : X.stack = X.env :: X.outer) (hf : X.env.frame = some X.env.locals) (hc : Names X x c) (tk : Takes X W)
    (hm : ∀ nm C b, X.mg nm = some (.ref C) → m nm = some b → PySem.W.exmOne X.K (.ref C) c = some b)
    (hb : ∀ (W' : WX) (pn : List (Addr × Obj)) (xe : Value → Shared → Prop), Takes (X.tr pn xe) W' → PassesOwn (model X.prog X.w) X.A X.env xe → SB (X.tr pn xe) W' body f)
    (hsu : ∀ (a : Addr) (oe : Obj) (pn : List (Addr × Obj)), SB (X.suite a ((a, oe) :: pn)) WF0 (b₀ :: suite) sf) :
    SS X W (.Try body [.ExceptHandler (some (.Name x np)) none (b₀ :: suite) pos'] [] [] pos) (sTryO m f sf) := by
  let tb : WX → TS := fun W' => fun D' σ H => ∃ as ρ h D, EnvR X.K as H ρ σ ∧ HeapR X.K as H h ∧ f ρ h D ∧ STo X W' as H D D'
  let ts : Addr → Value → Option Addr → TS := fun _ _ _ => fun D' σ H => ∃ as ρ h D, EnvR X.K as H ρ σ ∧ HeapR X.K as H h ∧ sf ρ h D ∧ STo X WF0 as H D D'
  refine ⟨_, ps_try_only (tb := tb) (ts := ts) (Wout := W) hs hf hc tk (fun W' pn xe tk' ho => ?_) (fun a oe cls d pn hz hd => ?_), fun σ H as ρ h D D' eR hR hq k => ?_⟩
  · obtain ⟨t, pt, st⟩ := hb W' pn xe tk' ho
    exact pss_mono pt fun D' σ H ⟨as, ρ, h, D, h1, h2, h3, h4⟩ => st σ H as ρ h D D' h1 h2 h3 ⟨h4.nx, h4.bk, h4.ct, h4.rt, h4.ex⟩
  · obtain ⟨t, pt, st⟩ := hsu a oe pn
    exact pss_mono pt fun D' σ H ⟨as, ρ, h, D, h1, h2, h3, h4⟩ => st σ H as ρ h D D' h1 h2 h3 ⟨h4.nx, h4.bk, h4.ct, h4.rt, h4.ex⟩
  · refine ⟨as, ρ, h, _, eR, hR, hq, ⟨k.nx, k.bk, k.ct, k.rt, ?_⟩⟩
    intro x ρ1 h1 cls dd σ1 as1 H1 q l1 r1 eR1 xr
    obtain ⟨C, g1, rfl, g3⟩ := id xr
    have q : (match m x.cls with
      | some true => sf ρ1 h1 (sufO D)
      | some false => D.ex x ρ1 h1
      | none => False) := q
    split at q
    · rename_i em
      refine ⟨true, hm _ _ _ g1 em, fun _ a ha => ?_, fun z => Bool.noConfusion z⟩
      refine ⟨as1, ρ1, h1, _, eR1, r1, q, ⟨?_, ?_, ?_, ?_, ?_⟩⟩
      · intro ρ2 h2 σ2 as2 H2 q2 l2 r2 eR2
        exact k.nx _ _ _ _ _ q2 (l1.trans l2) r2 eR2
      · intro ρ2 h2 σ2 as2 H2 q2 l2 r2 eR2
        exact k.bk _ _ _ _ _ q2 (l1.trans l2) r2 eR2
      · intro ρ2 h2 σ2 as2 H2 q2 l2 r2 eR2
        exact k.ct _ _ _ _ _ q2 (l1.trans l2) r2 eR2
      · intro y h2 v as2 H2 q2 l2 r2 rv
        exact k.rt _ _ _ _ _ q2 (l1.trans l2) r2 rv
      · intro x2 ρ2 h2 cls2 dd2 σ2 as2 H2 q2
        exact q2.elim
    · rename_i em
      exact ⟨false, hm _ _ _ g1 em, fun z => Bool.noConfusion z, fun _ => k.ex _ _ _ _ _ _ _ _ q l1 r1 eR1 xr⟩
    · exact q.elim
end
theorem i_tryO {ρ : En} {h : Ho} {m : Str → Option Bool} {f sf : WS} {nx : En → Ho → Prop} {rt : KD} {bk ct : En → Ho → Prop} {ex : Ex → En → Ho → Prop} (k : f ρ h ⟨nx, rt, bk, ct, fun x ρ1 h1 => match m x.cls with
  | some true => sf ρ1 h1 ⟨nx, rt, bk, ct, fun _ _ _ => False⟩
  | some false => ex x ρ1 h1
  | none => False⟩) : sTryO m f sf ρ h ⟨nx, rt, bk, ct, ex⟩ := k
section
variable {X : Cx} {i : Nat} {pos : Pos} {e b : Expr} {fe fb : XE'}
/-- in a suite: e == b -/
theorem SXE.eq (hu : X.A.units + 64 < cLine) (he : SXE X i e fe) (hb : SXE X i b fb) (hm : behindInMarks .Eq b = false := by rfl) : SXE X i (.Compare e [.Eq] [b] pos) (fun x => fBin rEq2 (fe x) (fb x)) := by
  intro a oe cls d pn hz hd
  obtain ⟨_, pe, se⟩ := he a oe cls d pn hz hd
  obtain ⟨_, pb, sb⟩ := hb a oe cls d pn hz hd
  refine ⟨_, pe_cmpR (op_eq.or (op_eqD hu)) pe pb hm, fun x σ H as ρ h Q E QV eR hR ho hq k => ?_⟩
  refine se x σ H as ρ h _ E _ eR hR ho hq (fun y h1 v as1 H1 hq1 l1 r1 rv => ?_)
  refine sb x σ H1 as1 ρ h1 _ E _ (eR.later l1) r1 (ho.later l1) hq1 (fun z h2 w as2 H2 hq2 l2 r2 rw' => ?_)
  exact cp_eq (X := X.suite a ((a, oe) :: pn)) y z h2 Q v w as2 H2 QV (rv.later l2) rw' r2 hq2 (k.later (l1.trans l2))
end
/-! ### the rules of V3c -/
theorem i_dct {ρ : En} {h : Ho} {Q : KD} {E : XD} (k : Q (.loc h.length) (h ++ [.keys []])) : fDct ρ h Q E := k
theorem i_inK {n : Nat} {p : PyData} {ks : List (List Int)} {k : List Int} {h : Ho} {Q : KD} (e : h[n]? = some (.keys ks)) (ek : keyOf p = some k) (q : Q (.d (.bool (decide (k ∈ ks)))) h) : rInK (.d p) (.loc n) h Q := by
  unfold rInK
  simp only [e, ek]
  exact q
def putK' (nx : En → Ho → Prop) (ρ : En) (x z : D) (h3 : Ho) : Prop := match x, z with
  | .loc n, .d p => match h3[n]? with
    | some (.keys ks) => match keyOf p with
      | some k => ks.length < sizeLine ∧ nx ρ (h3.set n (.keys (addK ks k)))
      | none => False
    | _ => False
  | _, _ => False
theorem i_put {ρ : En} {h : Ho} {fe fo fi : WE} {nx : En → Ho → Prop} {rt : KD} {bk ct : En → Ho → Prop} {ex : Ex → En → Ho → Prop} (k : fe ρ h (fun _ h1 => fo ρ h1 (fun x h2 => fi ρ h2 (fun z h3 => putK' nx ρ x z h3) (fun x h => ex x ρ h)) (fun x h => ex x ρ h)) (fun x h => ex x ρ h)) : sPut fe fo fi ρ h ⟨nx, rt, bk, ct, ex⟩ := k
theorem putK_loc {nx : En → Ho → Prop} {ρ : En} {n : Nat} {p : PyData} {ks : List (List Int)} {k : List Int} {h h2 : Ho} (e : h[n]? = some (.keys ks)) (ek : keyOf p = some k) (hl : ks.length < sizeLine) (es : h.set n (.keys (addK ks k)) = h2) (q : nx ρ h2) : putK' nx ρ (.loc n) (.d p) h := by
  simp only [putK', e, ek]
  exact ⟨hl, by rw [es]; exact q⟩
end V2
set_option Elab.async false
set_option linter.all false
set_option maxRecDepth 100000
set_option maxHeartbeats 4000000
/-! list(zip(a, b)) of two tuples of data: the word alone; its soundness (SE.zipL) is still to be shown -/
namespace V2
open PySem PySem.Spec PyProof.Rows L2
open PySem.W (Frag)
def fZipL (ga : WA) : WE := fun ρ h Q E => ga ρ h (fun xs h1 => match xs with
  | [.d (.tuple ps), .d (.tuple qs)] => ps.length = qs.length ∧ Q (.d (.list (List.zipWith (fun p q => PyData.tuple [p, q]) ps qs))) h1
  | _ => False) E
theorem i_zipL {ρ : En} {h : Ho} {Q : KD} {E : XD} {ga : WA} (k : ga ρ h (fun xs h1 => ∃ ps qs, xs = [.d (.tuple ps), .d (.tuple qs)] ∧ ps.length = qs.length ∧ Q (.d (.list (List.zipWith (fun p q => PyData.tuple [p, q]) ps qs))) h1) E) : fZipL ga ρ h Q E := by
  have e : (fun (xs : List D) (h1 : Ho) => ∃ ps qs, xs = [.d (.tuple ps), .d (.tuple qs)] ∧ ps.length = qs.length ∧ Q (.d (.list (List.zipWith (fun p q => PyData.tuple [p, q]) ps qs))) h1) = (fun xs h1 => match xs with
      | [.d (.tuple ps), .d (.tuple qs)] => ps.length = qs.length ∧ Q (.d (.list (List.zipWith (fun p q => PyData.tuple [p, q]) ps qs))) h1
      | _ => False) := by
    funext xs h1
    apply propext
    constructor
    · rintro ⟨ps, qs, rfl, k⟩
      exact k
    · intro k
      split at k
      · exact ⟨_, _, rfl, k⟩
      · exact k.elim
  rw [e] at k
  exact k
end V2
set_option Elab.async false
set_option linter.all false
set_option maxRecDepth 100000
set_option maxHeartbeats 4000000
/-! list(zip(a, b)) of two tuples, over the machine -/
namespace VZ
open PySem PySem.Spec PyProof.Rows RZ PySem.W
section
variable {P : Program} {W : World} {Ar : Around} {Ex : Value → Shared → Prop} {st : Shared}
variable {Z I O T J K S la lb : Addr} {fl : Bool} {oT : Obj} {m n : Nat} {us vs : Array Value}

theorem heldOne {u v : Value} {R : Value → Shared → Prop} (D : ZipApart Z I O J K la lb) (zh : IsZipHeld st.heap Z I O T fl) (th : st.heap.get? T = some oT) (ih : IsPair st.heap I (.ref J) (.ref K))
    (jh : st.heap.IsTupleIter J la m) (kh : st.heap.IsTupleIter K lb n) (ah : st.heap.IsTuple la us) (bh : st.heap.IsTuple lb vs) (eu : us[m]? = some u) (ev : vs[n]? = some v)
    (fin : ∀ g, IsZipHeld g Z I O T true → g.IsTupleIter J la (m + 1) → g.IsTupleIter K lb (n + 1) → IsPair g st.heap.objs.size u v → g.objs.size = st.heap.objs.size + 1 →
      (∀ c o, c ≠ Z → c ≠ J → c ≠ K → st.heap.get? c = some o → g.get? c = some o) → R (.ref st.heap.objs.size) { st with heap := g }) :
    wpAny (model P W) Ar (Builtin.«zip.__next__» ⟨[.ref Z], []⟩) (fun q s' => ∃ w, q = .done (.ret w) ∧ R w s') Ex st := by
  show wpAny _ _ (field (.ref Z) 2 >>= _) _ _ _
  refine wpAny_bind (wpAny_field zh rfl (x := .bool false) rfl ?_)
  show wpAny _ _ (field (.ref Z) 3 >>= _) _ _ _
  refine wpAny_bind (wpAny_field zh rfl (x := .ref I) rfl (wpAny_bind (wpAny_seqItems ih rfl ?_)))
  show wpAny _ _ (Builtin.SmallTypes.ownedTupleIsFree (.ref Z) >>= _) _ _ _
  refine wpAny_bind (wpAny_tupleHeld_zip zh th fun g1 z1 s1 => ?_)
  simp only [Bool.false_eq_true, if_false]; refine wpAny_bind ?_
  rw [← Array.forIn_toList]; simp only [List.forIn_cons, List.forIn_nil]
  refine wpAny_bind (wpAny_bind (wpAny_holding ?_)); show wpAny _ _ (Builtin.SmallTypes.nextOf (.ref J) >>= _) _ _ _
  refine wpAny_bind (nextOf_tuple_item (s := { st with heap := g1 }) (jh.extBut s1.extBut D.i1z) (ah.extBut s1.extBut D.l1z) eu fun g2 j2 s2 => wpAny_pure (wpAny_pure ?_))
  refine wpAny_bind (wpAny_bind (wpAny_holding ?_)); show wpAny _ _ (Builtin.SmallTypes.nextOf (.ref K) >>= _) _ _ _
  refine wpAny_bind (nextOf_tuple_item (s := { st with heap := g2 }) ((kh.extBut s1.extBut D.i2z).extBut s2.extBut D.i12.symm) ((bh.extBut s1.extBut D.l2z).extBut s2.extBut D.l2i1) ev fun g3 k3 s3 => wpAny_pure ?_)
  refine wpAny_pure (wpAny_pure ?_); show wpAny _ _ (newTuple [u, v] >>= _) _ _ _
  refine wpAny_bind (wpAny_newTuple ?_)
  have sz : g3.objs.size = st.heap.objs.size := by rw [s3.1, s2.1, s1.1]
  have z3 : IsZipHeld g3 Z I O T true := s3.extBut _ _ D.i2z.symm (s2.extBut _ _ D.i1z.symm z1)
  have kp : ∀ c o, c ≠ Z → c ≠ J → c ≠ K → st.heap.get? c = some o → g3.get? c = some o := fun c o c1 c2 c3 e => s3.extBut _ _ c3 (s2.extBut _ _ c2 (s1.extBut _ _ c1 e))
  have j3 : g3.IsTupleIter J la (m + 1) := j2.extBut s3.extBut D.i12
  refine wpAny_pure ⟨_, rfl, ?_⟩; show R (.ref g3.objs.size) _
  have pr : IsPair (g3.push { cls := .type "tuple", data := .seq #[u, v] }) g3.objs.size u v := Heap.get?_push_size _ rfl
  have s4 : (g3.push { cls := .type "tuple", data := .seq #[u, v] }).objs.size = g3.objs.size + 1 := Heap.size_push ..
  rw [sz] at pr s4 ⊢
  exact fin _ (Heap.get?_push_of_some _ z3) (j3.at fun o e => Heap.get?_push_of_some _ e) (k3.at fun o e => Heap.get?_push_of_some _ e) pr s4 fun c o c1 c2 c3 e => Heap.get?_push_of_some _ (kp c o c1 c2 c3 e)

theorem heldEnd {R : Fin → Shared → Prop} (hh : Ar.handled = none) (D : ZipApart Z I O J K la lb) (zh : IsZipHeld st.heap Z I O T fl) (th : st.heap.get? T = some oT) (ih : IsPair st.heap I (.ref J) (.ref K))
    (jh : st.heap.IsTupleIter J la m) (ah : st.heap.IsTuple la us) (eu : us[m]? = none)
    (bad : ∀ g e, (∀ c o, c ≠ Z → c ≠ J → c ≠ K → st.heap.get? c = some o → g.get? c = some o) → (∃ o, g.get? e = some o ∧ o.cls = .type "StopIteration") → Ex (.ref e) { st with heap := g }) :
    wpAny (model P W) Ar (Builtin.«zip.__next__» ⟨[.ref Z], []⟩) R Ex st := by
  show wpAny _ _ (field (.ref Z) 2 >>= _) _ _ _
  refine wpAny_bind (wpAny_field zh rfl (x := .bool false) rfl ?_)
  show wpAny _ _ (field (.ref Z) 3 >>= _) _ _ _
  refine wpAny_bind (wpAny_field zh rfl (x := .ref I) rfl (wpAny_bind (wpAny_seqItems ih rfl ?_)))
  show wpAny _ _ (Builtin.SmallTypes.ownedTupleIsFree (.ref Z) >>= _) _ _ _
  refine wpAny_bind (wpAny_tupleHeld_zip zh th fun g1 z1 s1 => ?_)
  simp only [Bool.false_eq_true, if_false]; refine wpAny_bind ?_
  rw [← Array.forIn_toList]; simp only [List.forIn_cons, List.forIn_nil]
  refine wpAny_bind (wpAny_bind (wpAny_holding ?_)); show wpAny _ _ (Builtin.SmallTypes.nextOf (.ref J) >>= _) _ _ _
  refine wpAny_bind (nextOf_tuple_end (s := { st with heap := g1 }) hh (jh.extBut s1.extBut D.i1z) (ah.extBut s1.extBut D.l1z) eu fun g2 e s2 he => ?_)
  exact bad g2 e (fun c o c1 c2 _ x => s2 _ _ c2 (s1.extBut _ _ c1 x)) he

/-- a zip of two tuples, n pairs out; the last one that is out lies behind S -/
structure ZAt (h : Heap) (Z I O J K la lb S : Addr) (n : Nat) : Prop where
  pair : IsPair h I (.ref J) (.ref K)
  one : h.IsTupleIter J la n
  two : h.IsTupleIter K lb n
  self : (IsZip h Z I O .none ∧ ∃ x y, IsPair h O x y) ∨ ∃ T fl o, IsZipHeld h Z I O T fl ∧ h.get? T = some o ∧ S < T
theorem ZAt.keep {h g : Heap} (a : ZAt h Z I O J K la lb S n) (hz : Z < S) (hi : I < S) (ho : O < S) (hj : J < S) (hk : K < S) (k : ∀ c o, c ≠ S → h.get? c = some o → g.get? c = some o) : ZAt g Z I O J K la lb S n := by
  refine ⟨k _ _ (Nat.ne_of_lt hi) a.pair, a.one.at fun o e => k _ o (Nat.ne_of_lt hj) e, a.two.at fun o e => k _ o (Nat.ne_of_lt hk) e, ?_⟩
  rcases a.self with ⟨h1, x, y, h2⟩ | ⟨T, fl, o, h1, h2, h3⟩
  · exact .inl ⟨k _ _ (Nat.ne_of_lt hz) h1, x, y, k _ _ (Nat.ne_of_lt ho) h2⟩
  · exact .inr ⟨T, fl, o, k _ _ (Nat.ne_of_lt hz) h1, k _ _ (Nat.ne_of_gt h3) h2, h3⟩

theorem zNext {u v : Value} {R : Option Value → Shared → Prop} (D : ZipApart Z I O J K la lb) (a : ZAt st.heap Z I O J K la lb S n) (hS : Z < S ∧ I < S ∧ O < S ∧ J < S ∧ K < S) (hl : S < st.heap.objs.size)
    (ah : st.heap.IsTuple la us) (bh : st.heap.IsTuple lb vs) (eu : us[n]? = some u) (ev : vs[n]? = some v)
    (fin : ∀ g, ZAt g Z I O J K la lb S (n + 1) → IsPair g st.heap.objs.size u v → g.objs.size = st.heap.objs.size + 1 →
      (∀ c o, c ≠ Z → c ≠ O → c ≠ J → c ≠ K → st.heap.get? c = some o → g.get? c = some o) → R (some (.ref st.heap.objs.size)) { st with heap := g }) :
    wpAny (model P W) Ar (pyNext (.ref Z)) R Ex st := by
  rcases a.self with ⟨h1, x, y, h2⟩ | ⟨T, fl, o, h1, h2, h3⟩
  · exact pyNext_zipT_item D h1 a.pair h2 a.one a.two ah bh eu ev fun g a1 a2 a3 a4 a5 a6 a7 =>
      fin g ⟨a7 _ _ D.TIz D.TITO D.TIi1 D.TIi2 a.pair, a3, a4, .inr ⟨_, false, _, a1, a5, hl⟩⟩ a5 a6 a7
  · have ty : st.TypeIs (.ref Z) "zip" := ⟨_, h1, rfl⟩
    unfold pyNext
    refine wpAny_bind (wpAny_attempt (wpAny_callSpecial?_slot (name := Str.ofString "__next__") ty PySem.F.slot_zip_next (wpAny_call_entry PySem.F.slot_zip_next ty PySem.F.entry_zip_next ?_ (PySem.F.args_zip_next_1 _))))
    refine heldOne D h1 h2 a.pair a.one a.two ah bh eu ev fun g a1 a3 a4 a5 a6 a7 => wpAny_pure ?_
    have lt : ∀ {c : Addr}, c < S → T ≠ c := fun h e => absurd (Nat.lt_trans h h3) (by rw [e]; exact Nat.lt_irrefl _)
    exact fin g ⟨a7 _ _ D.TIz D.TIi1 D.TIi2 a.pair, a3, a4, .inr ⟨T, true, o, a1, a7 _ _ (lt hS.1) (lt hS.2.2.2.1) (lt hS.2.2.2.2) h2, h3⟩⟩ a5 a6 fun c o c1 _ c3 c4 e => a7 c o c1 c3 c4 e

theorem zEnd {R : Option Value → Shared → Prop} (hh : Ar.handled = none) (D : ZipApart Z I O J K la lb) (a : ZAt st.heap Z I O J K la lb S n) (ah : st.heap.IsTuple la us) (bh : st.heap.IsTuple lb vs) (eu : us[n]? = none)
    (fin : ∀ g, (∀ c o, c ≠ Z → c ≠ O → c ≠ J → c ≠ K → st.heap.get? c = some o → g.get? c = some o) → R none { st with heap := g }) :
    wpAny (model P W) Ar (pyNext (.ref Z)) R Ex st := by
  rcases a.self with ⟨h1, x, y, h2⟩ | ⟨T, fl, o, h1, h2, h3⟩
  · exact pyNext_zipT_end hh D h1 a.pair h2 a.one a.two ah bh (.inl eu) fin
  · have ty : st.TypeIs (.ref Z) "zip" := ⟨_, h1, rfl⟩
    unfold pyNext
    refine wpAny_bind (wpAny_attempt (wpAny_callSpecial?_slot (name := Str.ofString "__next__") ty PySem.F.slot_zip_next (wpAny_call_entry PySem.F.slot_zip_next ty PySem.F.entry_zip_next ?_ (PySem.F.args_zip_next_1 _))))
    refine heldEnd hh D h1 h2 a.pair a.one ah eu fun g e hk he => ?_
    obtain ⟨o, ho, hc⟩ := he
    exact wpAny_bind (wpAny_isInstance (T := "StopIteration") (b := true) ⟨o, ho, hc⟩ isSubtype_stop (wpAny_pure (fin _ fun c o c1 _ c3 c4 e => hk c o c1 c3 c4 e)))

/-- the pairs that were laid -/
structure Laid (us vs : Array Value) (S : Addr) (h : Heap) (as : List Addr) : Prop where
  rise : as.Pairwise (· < ·)
  above : ∀ a ∈ as, S < a
  pairs : ∀ (j : Nat) (a : Addr), as[j]? = some a → ∃ u v, us[j]? = some u ∧ vs[j]? = some v ∧ IsPair h a u v
theorem Laid.there {h : Heap} {as : List Addr} (g : Laid us vs S h as) {a : Addr} (ha : a ∈ as) : a < h.objs.size := by
  obtain ⟨j, hj⟩ := List.mem_iff_getElem?.mp ha
  obtain ⟨_, _, _, _, e⟩ := g.pairs j a hj
  exact Heap.lt_size e
theorem Laid.more {h g g2 : Heap} {as : List Addr} {u v : Value} (l : Laid us vs S h as) (hS : S < h.objs.size) (eu : us[as.length]? = some u) (ev : vs[as.length]? = some v) (k : ∀ c o, S < c → h.get? c = some o → g2.get? c = some o) (p : IsPair g2 h.objs.size u v) : Laid us vs S g2 (as ++ [h.objs.size]) := by
  refine ⟨List.pairwise_append.mpr ⟨l.rise, List.pairwise_singleton _ _, fun a ha b hb => ?_⟩, fun a ha => ?_, fun j b hj => ?_⟩
  · rw [List.mem_singleton.mp hb]; exact l.there ha
  · rcases List.mem_append.mp ha with ha | ha
    · exact l.above a ha
    · rw [List.mem_singleton.mp ha]; exact hS
  · by_cases h1 : j < as.length
    · rw [List.getElem?_append_left h1] at hj
      obtain ⟨u', v', e1, e2, e3⟩ := l.pairs j b hj
      exact ⟨u', v', e1, e2, k b _ (l.above b (List.mem_of_getElem? hj)) e3⟩
    · have hlt := (List.getElem?_eq_some_iff.mp hj).1
      have e : j = as.length := by simp at hlt; omega
      subst e
      rw [List.getElem?_concat_length] at hj
      cases hj
      exact ⟨u, v, eu, ev, p⟩

theorem zLoop {C : Result → Shared → Prop} (hh : Ar.handled = none) (D : ZipApart Z I O J K la lb) (hS : Z < S ∧ I < S ∧ O < S ∧ J < S ∧ K < S) (hab : la < S ∧ lb < S) (lO : lb ≠ O ∧ la ≠ O) (sz : us.size = vs.size) (fit : us.size ≤ sizeLine) (res : Value) {h0 : Heap}
    (fin : ∀ g tk acc c as, (∀ b o, b ≠ S → b ≠ Z → b ≠ O → b ≠ J → b ≠ K → h0.get? b = some o → g.get? b = some o) → g.get? S = some { cls := .type "list", dict := none, data := .seq acc c, slots := #[] } → as.length = us.size → Laid us vs S g as →
      acc.toList = as.map Value.ref → C (.ok (.ret res)) { st with heap := g, toks := tk }) :
    ∀ (k i : Nat) (h : Heap) (tk c : Nat) (acc : Array Value) (as : List Addr), us.size - i = k → i ≤ us.size → ZAt h Z I O J K la lb S i → h.IsTuple la us → h.IsTuple lb vs → (∀ b o, b ≠ S → b ≠ Z → b ≠ O → b ≠ J → b ≠ K → h0.get? b = some o → h.get? b = some o) →
      h.get? S = some { cls := .type "list", dict := none, data := .seq acc c, slots := #[] } → acc.toList = as.map Value.ref → as.length = i → Laid us vs S h as →
      codeAny (model P W) Ar (.builtin "list.extend.loop" ⟨[.ref S, .ref Z, res], []⟩) C { st with heap := h, toks := tk } := by
  have nS : ∀ {c : Addr}, c < S → S ≠ c := fun h e => absurd h (by rw [e]; exact Nat.lt_irrefl _)
  intro k
  induction k with
  | zero =>
    intro i h tk c acc as hk hi za ta tb kp gS hacc hal hL
    refine codeAny_builtin PySem.F.entry_extend_loop ?_
    rw [Around.under_plainId PySem.F.plain_extend_loop _]; show wpAny _ Ar.in1 (pyNext (.ref Z) >>= _) _ _ _
    refine wpAny_bind (zEnd (st := { st with heap := h, toks := tk }) (Ar := Ar.in1) hh D za ta tb (Array.getElem?_eq_none (by omega)) fun g q => wpAny_pure ?_)
    refine fin g tk acc c as (fun b o b0 b1 b2 b3 b4 e => q b o b1 b2 b3 b4 (kp b o b0 b1 b2 b3 b4 e)) (q S _ (nS hS.1) (nS hS.2.2.1) (nS hS.2.2.2.1) (nS hS.2.2.2.2) gS) (by omega) ⟨hL.rise, hL.above, fun j a hj => ?_⟩ hacc
    obtain ⟨u, v, e1, e2, e3⟩ := hL.pairs j a hj
    have big : ∀ {c : Addr}, c < S → a ≠ c := fun h e => absurd (Nat.lt_trans h (hL.above a (List.mem_of_getElem? hj))) (by rw [e]; exact Nat.lt_irrefl _)
    exact ⟨u, v, e1, e2, q a _ (big hS.1) (big hS.2.2.1) (big hS.2.2.2.1) (big hS.2.2.2.2) e3⟩
  | succ k ih =>
    intro i h tk c acc as hk hi za ta tb kp gS hacc hal hL
    have lt : i < us.size := by omega
    have asz : acc.size = i := by rw [← Array.length_toList, hacc, List.length_map, hal]
    have Sl : S < h.objs.size := Heap.lt_size gS
    refine codeAny_builtin PySem.F.entry_extend_loop ?_
    rw [Around.under_plainId PySem.F.plain_extend_loop _]; show wpAny _ Ar.in1 (pyNext (.ref Z) >>= _) _ _ _
    refine wpAny_bind (zNext (st := { st with heap := h, toks := tk }) D za hS Sl ta tb (Array.getElem?_eq_getElem lt) (Array.getElem?_eq_getElem (by omega)) fun g zg pg gs q => ?_)
    dsimp only at pg gs q ⊢
    have gS' := q S _ (nS hS.1) (nS hS.2.2.1) (nS hS.2.2.2.1) (nS hS.2.2.2.2) gS
    have up : ∀ b o, b ≠ S → g.get? b = some o → (g.update S (Obj.mapSeq (·.push (Value.ref h.objs.size)))).get? b = some o := fun b o hb e => (Heap.get?_update_other _ _ (Ne.symm hb)).trans e
    show wpAny _ Ar.in1 (updateSeq S (·.push (Value.ref h.objs.size)) >>= _) _ _ _
    refine wpAny_bind (wpAny_updateSeq gS' rfl (wpAny_pure ⟨plainId_quiet PySem.F.plain_extend_loop _, ?_⟩) (by rw [asz]; omega) (by show (acc.push (Value.ref h.objs.size)).size ≤ sizeLine + 1; rw [Array.size_push, asz]; omega))
    refine ih (i + 1) _ tk _ (acc.push (Value.ref h.objs.size)) (as ++ [h.objs.size]) (by omega) lt (zg.keep hS.1 hS.2.1 hS.2.2.1 hS.2.2.2.1 hS.2.2.2.2 up) ?_ ?_ (fun b o b0 b1 b2 b3 b4 e => up b o b0 (q b o b1 b2 b3 b4 (kp b o b0 b1 b2 b3 b4 e))) (Heap.get?_update_self _ gS' rfl) (by rw [Array.toList_push, hacc, List.map_append]; rfl) (by rw [List.length_append, hal]; rfl) ?_
    · obtain ⟨o, h1, h2⟩ := ta
      exact ⟨o, up _ _ (Ne.symm (nS hab.1)) (q _ _ D.l1z D.l1TO D.l1i1 D.l1i2 h1), h2⟩
    · obtain ⟨o, h1, h2⟩ := tb
      exact ⟨o, up _ _ (Ne.symm (nS hab.2)) (q _ _ D.l2z D.l2TO D.l2i1 D.l2i2 h1), h2⟩
    · refine hL.more (g := g) Sl (by rw [hal]; exact Array.getElem?_eq_getElem lt) (by rw [hal]; exact Array.getElem?_eq_getElem (by omega)) (fun b o hb e => ?_) (up _ _ (Nat.ne_of_gt Sl) pg)
      have big : ∀ {c : Addr}, c < S → b ≠ c := fun h e => absurd (Nat.lt_trans h hb) (by rw [e]; exact Nat.lt_irrefl _)
      exact up _ _ (Nat.ne_of_gt hb) (q _ _ (big hS.1) (big hS.2.2.1) (big hS.2.2.2.1) (big hS.2.2.2.2) e)
end
end VZ
set_option Elab.async false
set_option linter.all false
set_option maxRecDepth 100000
set_option maxHeartbeats 4000000
namespace VZ
open PySem PySem.Spec PyProof.Rows RZ PySem.W
theorem zNoLen : typeLookup (.type "zip") "__len__" = pure none := am_miss_of_fast (by decide +kernel)
theorem zNoHint : typeLookup (.type "zip") "__length_hint__" = pure none := am_miss_of_fast (by decide +kernel)
section
variable {P : Program} {W : World} {Ar : Around} {Ex : Value → Shared → Prop} {st : Shared}
variable {Z I O T J K S la lb : Addr} {fl : Bool} {oT : Obj} {m n : Nat} {us vs : Array Value}
theorem zExtend {C : Result → Shared → Prop} (hh : Ar.handled = none) (D : ZipApart Z I O J K la lb) (hS : Z < S ∧ I < S ∧ O < S ∧ J < S ∧ K < S) (hab : la < S ∧ lb < S) (sz : us.size = vs.size) (fit : us.size ≤ sizeLine) (res : Value) (c0 : Nat)
    (za : ZAt st.heap Z I O J K la lb S 0) (ta : st.heap.IsTuple la us) (tb : st.heap.IsTuple lb vs) (zz : IsZip st.heap Z I O .none) (gS : st.heap.get? S = some { cls := .type "list", data := .seq #[] c0 })
    (fin : ∀ g tk acc c as, (∀ b o, b ≠ S → b ≠ Z → b ≠ O → b ≠ J → b ≠ K → st.heap.get? b = some o → g.get? b = some o) → g.get? S = some { cls := .type "list", dict := none, data := .seq acc c, slots := #[] } → as.length = us.size → Laid us vs S g as →
      acc.toList = as.map Value.ref → C (.ok (.ret res)) { st with heap := g, toks := tk }) :
    wpAny (model P W) Ar.in1 (Builtin.List.listExtendWith (.ref S) (.ref Z) res)
      (fun q s' => match q with | .done f => C (.ok f) s' | .again c' => c'.quiet = true ∧ codeAny (model P W) Ar c' C s') (fun e s' => C (.error e) s') st := by
  have ty : st.TypeIs (.ref Z) "zip" := ⟨_, zz, rfl⟩
  have nS : ∀ {c : Addr}, c < S → c ≠ S := fun h => Nat.ne_of_lt h
  unfold Builtin.List.listExtendWith
  refine wpAny_bind (wpAny_typeOf (T := "zip") ty ?_)
  have q1 : Builtin.List.listSameRef (.ref S) (.ref Z) = false := by simp [Builtin.List.listSameRef, Ne.symm (nS hS.1)]
  have q2 : (Value.type "zip" == Value.type "list") = false := by decide
  have q3 : (Value.type "zip" == Value.type "tuple") = false := by decide
  simp only [q1, q2, q3, Bool.or_false, Bool.false_eq_true, if_false]
  refine wpAny_bind (wpAny_pyIter_zip zz ?_)
  refine wpAny_bind (wpAny_holding ?_)
  unfold Builtin.List.listLengthHint
  refine wpAny_bind (wpAny_specialOf ty zNoLen ?_)
  show wpAny _ Ar.in1 (specialOf (Value.ref Z) (Str.ofString "__length_hint__") >>= _) _ _ _
  refine wpAny_bind (wpAny_specialOf ty zNoHint ?_)
  refine wpAny_pure ?_
  refine wpAny_bind (wpAny_rule (wpAny_bind ?_))
  show wpAny _ Ar.in1 (updateSeq S (·.push Value.none) >>= fun _ => updateSeq S (·.pop)) _ _ _
  refine wpAny_bind (wpAny_updateSeq gS rfl ?_)
  have g2 := Heap.get?_update_self (Obj.mapSeq fun xs => xs.push Value.none) gS rfl
  refine wpAny_updateSeq (hz := by seq_fits) g2 rfl ?_
  have g3 := Heap.get?_update_self (Obj.mapSeq fun xs => xs.pop) g2 rfl
  have oth : ∀ b o, b ≠ S → st.heap.get? b = some o → ((st.heap.update S (Obj.mapSeq fun xs => xs.push Value.none)).update S (Obj.mapSeq fun xs => xs.pop)).get? b = some o := fun b o hb e =>
    (Heap.get?_update_other _ _ (Ne.symm hb)).trans ((Heap.get?_update_other _ _ (Ne.symm hb)).trans e)
  refine wpAny_pure ⟨plainId_quiet PySem.F.plain_extend_loop _, ?_⟩
  refine zLoop (st := st) hh D hS hab ⟨D.l2TO, D.l1TO⟩ sz fit res (h0 := st.heap) fin us.size 0 _ st.toks _ #[] [] (Nat.sub_zero _) (Nat.zero_le _) (za.keep hS.1 hS.2.1 hS.2.2.1 hS.2.2.2.1 hS.2.2.2.2 oth) ?_ ?_ (fun b o b0 _ _ _ _ e => oth b o b0 e) g3 rfl rfl ⟨List.Pairwise.nil, (fun _ h => nomatch h), (fun j a h => by simp at h)⟩
  · obtain ⟨o, h1, h2⟩ := ta
    exact ⟨o, oth _ _ (nS hab.1) h1, h2⟩
  · obtain ⟨o, h1, h2⟩ := tb
    exact ⟨o, oth _ _ (nS hab.2) h1, h2⟩

theorem zCall {Q : Value → Shared → Prop} (hh : Ar.handled = none) (D : ZipApart Z I O J K la lb) (hS : Z < st.heap.objs.size ∧ I < st.heap.objs.size ∧ O < st.heap.objs.size ∧ J < st.heap.objs.size ∧ K < st.heap.objs.size)
    (sz : us.size = vs.size) (fit : us.size ≤ sizeLine) (zp : IsPair st.heap I (.ref J) (.ref K)) (jh : st.heap.IsTupleIter J la 0) (kh : st.heap.IsTupleIter K lb 0) (zz : IsZip st.heap Z I O .none) (oo : ∃ x y, IsPair st.heap O x y)
    (ta : st.heap.IsTuple la us) (tb : st.heap.IsTuple lb vs)
    (fin : ∀ g tk acc c as, (∀ b o, b ≠ Z → b ≠ O → b ≠ J → b ≠ K → st.heap.get? b = some o → g.get? b = some o) → g.get? st.heap.objs.size = some { cls := .type "list", dict := none, data := .seq acc c, slots := #[] } → as.length = us.size →
      Laid us vs st.heap.objs.size g as → acc.toList = as.map Value.ref → Q (.ref st.heap.objs.size) { st with heap := g, toks := tk }) :
    wpAny (model P W) Ar (call (.type "list") [.ref Z]) Q Ex st := by
  refine callType_codes (Q₁ := fun v s1 => v = .ref st.heap.objs.size ∧ s1 = { st with heap := st.heap.push { cls := .type "list", data := .seq #[] } }) PySem.F.called_list (PySem.F.typeCall_list_1 _) PySem.F.entry_list_init
    (code_list_new _ ⟨rfl, rfl⟩) fun v s1 h1 => ?_
  obtain ⟨rfl, rfl⟩ := h1
  generalize eS : st.heap.objs.size = S at hS fin ⊢
  have gS : (st.heap.push { cls := .type "list", data := .seq #[] }).get? S = some { cls := .type "list", data := .seq #[] } := by rw [← eS]; exact Heap.get?_push_size _ rfl
  have pk : ∀ b o, st.heap.get? b = some o → (st.heap.push { cls := .type "list", data := .seq #[] }).get? b = some o := fun b o e => Heap.get?_push_of_some _ e
  refine ⟨⟨_, gS, rfl⟩, PySem.F.args_list_init_2 _ _, ?_⟩
  show wpAny _ _ (do let old ← Builtin.List.listItems (.ref S); Builtin.List.listUpdate (.ref S) (fun _ => #[]); letGo old.toList.reverse; Builtin.List.listExtendWith (.ref S) (.ref Z) .none) _ _ _
  refine wpAny_bind ?_
  unfold Builtin.List.listItems
  refine wpAny_bind (wpAny_seqItems gS rfl (wpAny_pure ?_))
  show wpAny _ _ (updateSeq S (fun _ => #[]) >>= fun _ => letGo (#[] : Array Value).toList.reverse >>= fun _ => Builtin.List.listExtendWith (.ref S) (.ref Z) .none) _ _ _
  refine wpAny_bind (wpAny_updateSeq gS rfl ?_)
  have g2 := Heap.get?_update_self (Obj.mapSeq fun _ => (#[] : Array Value)) gS rfl
  have oth : ∀ b o, b ≠ S → st.heap.get? b = some o → ((st.heap.push { cls := .type "list", data := .seq #[] }).update S (Obj.mapSeq fun _ => (#[] : Array Value))).get? b = some o :=
    fun b o hb e => (Heap.get?_update_other _ _ (Ne.symm hb)).trans (pk b o e)
  have lt : ∀ {b : Addr} {o : Obj}, st.heap.get? b = some o → b < S := fun e => by rw [← eS]; exact Heap.lt_size e
  have o2 : ∀ b o, st.heap.get? b = some o → ((st.heap.push { cls := .type "list", data := .seq #[] }).update S (Obj.mapSeq fun _ => (#[] : Array Value))).get? b = some o := fun b o e => oth b o (Nat.ne_of_lt (lt e)) e
  have la' : la < S := by obtain ⟨o, h1, _⟩ := ta; exact lt h1
  have lb' : lb < S := by obtain ⟨o, h1, _⟩ := tb; exact lt h1
  refine wpAny_bind (wpAny_letGo ?_)
  have ta2 : Heap.IsTuple ((st.heap.push { cls := .type "list", data := .seq #[] }).update S (Obj.mapSeq fun _ => (#[] : Array Value))) la us := by obtain ⟨o, h1, h2⟩ := ta; exact ⟨o, o2 _ _ h1, h2⟩
  have tb2 : Heap.IsTuple ((st.heap.push { cls := .type "list", data := .seq #[] }).update S (Obj.mapSeq fun _ => (#[] : Array Value))) lb vs := by obtain ⟨o, h1, h2⟩ := tb; exact ⟨o, o2 _ _ h1, h2⟩
  obtain ⟨x, y, oo⟩ := oo
  refine zExtend (Ar := Ar.in1) (C := wants (fun r s2 => r = .none ∧ Q (.ref S) s2) Ex) (st := { st with heap := (st.heap.push { cls := .type "list", data := .seq #[] }).update S (Obj.mapSeq fun _ => (#[] : Array Value)) }) (us := us) (vs := vs) (la := la) (lb := lb) (I := I) (O := O) (J := J) (K := K) hh D hS ⟨la', lb'⟩ sz fit .none _ ⟨o2 _ _ zp, jh.at fun o e => o2 _ o e, kh.at fun o e => o2 _ o e, .inl ⟨o2 _ _ zz, x, y, o2 _ _ oo⟩⟩ ta2 tb2 (o2 _ _ zz) g2 fun g tk acc c as k gg l La ac => ?_
  exact ⟨rfl, fin g tk acc c as (fun b o b1 b2 b3 b4 e => k b o (Nat.ne_of_lt (lt e)) b1 b2 b3 b4 (o2 b o e)) gg l La ac⟩
end
end VZ
set_option Elab.async false
set_option linter.all false
set_option maxRecDepth 100000
set_option maxHeartbeats 4000000
namespace VZ
open PySem PySem.Spec PyProof.Rows RZ PySem.W L2
theorem valsBack {xs : List V} {us : List Value} {i : Nat} {u : Value} (r : Vals xs us) (e : us[i]? = some u) : ∃ x, xs[i]? = some x ∧ RelV x u := by
  have l := r.length
  have hi := (List.getElem?_eq_some_iff.mp e).1
  obtain ⟨u', e1, e2⟩ := r.get (List.getElem?_eq_getElem (show i < xs.length by omega))
  rw [e] at e1
  cases e1
  exact ⟨_, List.getElem?_eq_getElem (by omega), e2⟩
theorem ndAt {α : Type} {l : List α} (hN : l.Nodup) {i j : Nat} {x : α} (a : l[i]? = some x) (b : l[j]? = some x) : i = j := by
  obtain ⟨h1, e1⟩ := List.getElem?_eq_some_iff.mp a
  obtain ⟨h2, e2⟩ := List.getElem?_eq_some_iff.mp b
  exact (List.getElem_inj hN).mp (e1.trans e2.symm)
theorem lt5 (n : Nat) : n + 4 < n + 5 ∧ n + 2 < n + 5 ∧ n + 3 < n + 5 ∧ n < n + 5 ∧ n + 1 < n + 5 := by omega
theorem ne5 {c n : Nat} (h : c < n) : c ≠ n + 4 ∧ c ≠ n + 3 ∧ c ≠ n ∧ c ≠ n + 1 := by omega
theorem refVals : ∀ as : List Addr, Vals (as.map V.ref) (as.map Value.ref)
  | [] => .nil
  | _ :: as => .cons rfl (refVals as)
/-- list(zip(x, y)) of two tuples as long: new pairs in a new list -/
def tZipL (K : PySem.W.Frag) (ta : TA) : TE := fun σ H Q => ta σ H fun vs H1 => ∃ (a b : Addr) (xs ys : List V), vs = [.ref a, .ref b] ∧ SqT K H1 a xs ∧ SqT K H1 b ys ∧ xs.length = ys.length ∧
  ∀ (l : Addr) (cs : List Addr) (H2 : Hp), (∀ c ∈ l :: cs, H1 c = none) → (∀ c o, H1 c = some o → H2 c = some o) → cs.length = xs.length →
    (∀ (j : Nat) (c : Addr), cs[j]? = some c → ∃ x y, xs[j]? = some x ∧ ys[j]? = some y ∧ H2 c = some (.tup [x, y])) → H2 l = some (.lst (cs.map V.ref)) → Q (.ref l) H2
theorem pe_zipL {X : Cx} {e e2 : Expr} {ta : TA} {p pos p2 pos2 : Pos} (hg : Gl X "list") (hm : X.mg "list" = none) (hg2 : Gl X "zip") (hm2 : X.mg "zip" = none) (hc : X.calm = true) (ha : PA X [e, e2] ta)
    (hs : starEach [e, e2] X.env = (false, eval e X.env) :: starEach [e2] X.env := by rfl) (hpl : (backTo pos2 (starEach [e2] X.env)).any (·.1) = false := by rfl)
    (hs1 : starEach [Expr.Call (.Name "zip" p2) [e, e2] [] pos2] X.env = (false, eval (.Call (.Name "zip" p2) [e, e2] [] pos2) X.env) :: starEach [] X.env := by rfl) (hpl1 : (backTo pos (starEach [] X.env)).any (·.1) = false := by rfl) :
    PE X (.Call (.Name "list" p) [.Call (.Name "zip" p2) [e, e2] [] pos2] [] pos) (tZipL X.K ta) := by
  refine ⟨fun pins s σ H Q I h => ?_⟩
  refine Call_ (ld_blt I hg hm PyProof.Rows.boot_list (PyProof.Rows.callWith_type1 ?_ hs1 hpl1))
  rw [hs1]
  show wpAny _ _ (spliced ((false, eval _ X.env) :: backTo pos (starEach [] X.env))) _ _ s
  refine Calls.spliced_cons ?_
  refine Call_ (ld_blt I hg2 hm2 PyProof.Rows.boot_zip (PyProof.Rows.callWith_type1 (thn (ha.run pos2 pins s σ H _ I h) fun us s1 ⟨vs, H1, I1, r1, q1⟩ => ?_) hs hpl))
  obtain ⟨a, b, xs, ys, rfl, hx, hy, len, q⟩ := q1
  cases r1 with | cons ra rr =>
  cases rr with | cons rb rr =>
  cases rr
  cases ra
  cases rb
  obtain ⟨ia, rva, pa, za⟩ := I1.tuple hx
  obtain ⟨ib, rvb, pb, zb⟩ := I1.tuple hy
  obtain ⟨oa, ea, _⟩ := id pa
  obtain ⟨ob, eb, _⟩ := id pb
  refine call_zipT (show s1.heap.IsTuple a ia.toArray from pa) (show s1.heap.IsTuple b ib.toArray from pb) fun g1 hz hTI hTO h1 h2 hsz hk => Calls.spliced_nil ?_
  generalize en : s1.heap.objs.size = n at hz hTI hTO h1 h2 hsz
  have D := PySem.W.ktu_apart n a b (by rw [← en]; exact Heap.lt_size ea) (by rw [← en]; exact Heap.lt_size eb)
  have la := rva.length
  have lb := rvb.length
  have pa2 : g1.IsTuple a ia.toArray := by obtain ⟨o, e1, e3⟩ := pa; exact ⟨o, hk _ _ e1, e3⟩
  have pb2 : g1.IsTuple b ib.toArray := by obtain ⟨o, e1, e3⟩ := pb; exact ⟨o, hk _ _ e1, e3⟩
  refine zCall (st := { s1 with heap := g1 }) (us := ia.toArray) (vs := ib.toArray) (I.ok.hd hc) D (by show _ ∧ _ ∧ _ ∧ _ ∧ _; rw [hsz]; exact lt5 n) (by simp; omega) (by simp; omega) hTI h1 h2 hz ⟨_, _, hTO⟩ pa2 pb2 fun g tk acc c cs k gl cl La hacc => ?_
  have big : ∀ c, s1.heap.objs.size ≤ c → H1 c = none := fun c h => I1.hok.fresh h
  have kp : ∀ c o, s1.heap.get? c = some o → g.get? c = some o := fun c o e => by
    have lt : c < n := by rw [← en]; exact Heap.lt_size e
    exact k c o (ne5 lt).1 (ne5 lt).2.1 (ne5 lt).2.2.1 (ne5 lt).2.2.2 (hk c o e)
  have I2 : Inv X pins σ H1 { s1 with heap := g, toks := tk } := I1.kept (t' := tk) kp
  show EP X pins σ Q (.ref g1.objs.size) _
  have l0 : s1.heap.objs.size ≤ g1.objs.size := by rw [hsz, en]; omega
  have csz : cs.length ≤ sizeLine := by rw [cl]; simp; omega
  have accE : acc = (cs.map Value.ref).toArray := by rw [← hacc]
  have I3 : Inv X pins σ (upd H1 g1.objs.size (.lst (cs.map V.ref))) { s1 with heap := g, toks := tk } := I2.take (h' := g) (t' := tk) (fun b ob _ e => e) (I1.fpOk l0 (big _ l0)) ⟨by rw [List.length_map]; exact csz, _, c, refVals cs, by rw [← accE]; exact gl⟩
  have ab : ∀ c ∈ cs, g1.objs.size < c := La.above
  obtain ⟨H2, I4, up, tups⟩ := DX.takeT (P := fun c ws => ∀ j, cs[j]? = some c → ∃ x y, xs[j]? = some x ∧ ys[j]? = some y ∧ ws = [x, y]) I1 cs _ I3 (List.Pairwise.imp (fun h => Nat.ne_of_lt h) La.rise) fun c hm => by
    obtain ⟨j, hj⟩ := List.mem_iff_getElem?.mp hm
    obtain ⟨u, v, e1, e2, e3⟩ := La.pairs j c hj
    have g0 := ab c hm
    obtain ⟨x, ex, rx⟩ := valsBack rva (by simpa using e1)
    obtain ⟨y, ey, ry⟩ := valsBack rvb (by simpa using e2)
    refine ⟨by omega, by rw [upd_ne (Nat.ne_of_gt g0)]; exact big c (by omega), [x, y], fun i hi => ?_, fun H2 => ⟨by show 2 ≤ sizeLine; decide, [u, v], .cons rx (.cons ry .nil), ⟨_, e3, rfl, _, rfl⟩⟩⟩
    have nd : cs.Nodup := List.Pairwise.imp (fun h => Nat.ne_of_lt h) La.rise
    have ij : i = j := ndAt nd hi hj
    subst ij
    exact ⟨x, y, ex, ey, rfl⟩
  refine ⟨.ref g1.objs.size, H2, I4, rfl, q _ cs H2 (fun c hm => ?_) (fun c o e => up c o (by rw [upd_ne (ne_of_none e (big _ l0))]; exact e)) (by rw [cl]; simp; omega) (fun j c hj => ?_) (up _ _ upd_same)⟩
  · rcases List.mem_cons.mp hm with rfl | hm
    · exact big _ l0
    · exact big c (by have := ab c hm; omega)
  · obtain ⟨ws, hP, e⟩ := tups c (List.mem_of_getElem? hj)
    obtain ⟨x, y, ex, ey, rfl⟩ := hP j hj
    exact ⟨x, y, ex, ey, e⟩
end VZ
set_option Elab.async false
set_option linter.all false
set_option maxRecDepth 100000
set_option maxHeartbeats 4000000
namespace V2
open PySem PySem.Spec PyProof.Rows L2
open PySem.W (Frag)
theorem DvAll.ofGet {K : Frag} {as : List Addr} {H : Hp} : ∀ {vs : List V} {ps : List PyData}, vs.length = ps.length → (∀ (i : Nat) v p, vs[i]? = some v → ps[i]? = some p → Dv K as H v p) → DvAll K as H vs ps
  | [], [], _, _ => .nil
  | [], _ :: _, h, _ => by simp at h
  | _ :: _, [], h, _ => by simp at h
  | v :: vs, p :: ps, h, f => .cons (f 0 v p rfl rfl) (DvAll.ofGet (by simpa using h) fun i v p h1 h2 => f (i + 1) v p (by simpa using h1) (by simpa using h2))
theorem HeapR.grow {K : Frag} {as : List Addr} {H H2 : Hp} {h : Ho} (r : HeapR K as H h) (k : ∀ c o, H c = some o → H2 c = some o) : HeapR K as H2 h := by
  have l : Later as H as H2 := ⟨⟨[], by simp⟩, fun p o e n => ⟨k p o e, n⟩⟩
  refine ⟨r.len, r.nd, fun i o a e1 e2 => ?_⟩
  have q := r.ob i o a e1 e2
  obtain ⟨z, hz⟩ := q.there
  exact q.later l (by rw [k _ _ hz, hz])
section
variable {X : Cx} {W : WX} {ga : WA} {a b : Expr} {p pos p2 pos2 : Pos}
theorem SE.zipL (hg : Gl X "list") (hm : X.mg "list" = none) (hg2 : Gl X "zip") (hm2 : X.mg "zip" = none) (hc : X.calm = true) (ha : SA X W [a, b] ga)
    (hs : starEach [a, b] X.env = (false, eval a X.env) :: starEach [b] X.env := by rfl) (hpl : (backTo pos2 (starEach [b] X.env)).any (·.1) = false := by rfl)
    (hs1 : starEach [Expr.Call (.Name "zip" p2) [a, b] [] pos2] X.env = (false, eval (.Call (.Name "zip" p2) [a, b] [] pos2) X.env) :: starEach [] X.env := by rfl) (hpl1 : (backTo pos (starEach [] X.env)).any (·.1) = false := by rfl) :
    SE X W (.Call (.Name "list" p) [.Call (.Name "zip" p2) [a, b] [] pos2] [] pos) (fZipL ga) := by
  obtain ⟨ta, pa, sa⟩ := ha
  refine ⟨VZ.tZipL X.K ta, VZ.pe_zipL hg hm hg2 hm2 hc pa hs hpl hs1 hpl1, fun σ H as ρ h Q E QV eR hR hq k kx => ?_⟩
  refine sa σ H as ρ h _ E _ eR hR hq (fun zs h1 vs as1 H1 hq1 l1 r1 rvs => ?_) kx
  split at hq1
  · rename_i ps qs
    obtain ⟨v, w, rfl, ra, rb⟩ := relAll2 rvs
    cases ra with | d ra =>
    cases rb with | d rb =>
    cases ra with | tup ta1 da =>
    cases rb with | tup tb1 db =>
    rename_i c1 xs c2 ys
    have lx := da.length
    have ly := db.length
    refine ⟨c1, c2, xs, ys, rfl, ta1.sq, tb1.sq, by rw [lx, ly]; exact hq1.1, fun l cs H2 new keep cl rows hl => ?_⟩
    have lt : Later as1 H1 as1 H2 := ⟨⟨[], by simp⟩, fun p o e n => ⟨keep p o e, n⟩⟩
    have nin : ∀ c, H1 c = none → c ∉ as1 := fun c e hm => by
      obtain ⟨u, e2⟩ := r1.there hm
      rw [e] at e2
      cases e2
    refine (k.later l1) _ _ _ _ _ hq1.2 lt (r1.grow keep) (.d (.lst (.inl ⟨.inl hl, nin l (new l (List.mem_cons_self ..))⟩) ?_))
    have eq := hq1.1
    refine DvAll.ofGet (by rw [List.length_map, List.length_zipWith]; omega) fun i v pq h1 h2 => ?_
    rw [List.getElem?_map] at h1
    cases hci : cs[i]? with
    | none => rw [hci] at h1; cases h1
    | some c =>
      rw [hci] at h1
      cases h1
      obtain ⟨x, y, ex, ey, ec⟩ := rows i c hci
      have hi : i < ps.length := by have := (List.getElem?_eq_some_iff.mp ex).1; omega
      have hj : i < qs.length := by omega
      rw [List.getElem?_zipWith, List.getElem?_eq_getElem hi, List.getElem?_eq_getElem hj] at h2
      cases h2
      obtain ⟨x', ex', dx⟩ := da.get (List.getElem?_eq_getElem hi)
      obtain ⟨y', ey', dy⟩ := db.get (List.getElem?_eq_getElem hj)
      rw [ex] at ex'
      cases ex'
      rw [ey] at ey'
      cases ey'
      exact .tup (.inl ⟨.inl ec, nin c (new c (List.mem_cons_of_mem _ (List.mem_of_getElem? hci)))⟩) (.cons (dx.later lt) (.cons (dy.later lt) .nil))
  · exact hq1.elim
end
end V2
set_option Elab.async false
set_option linter.all false
set_option maxRecDepth 100000
set_option maxHeartbeats 4000000
/-! x in a tuple of data; x is True -/
namespace V2
open PySem PySem.Spec PyProof.Rows L2
open PySem.W (Frag)
def rInTV (K : Frag) : R2 := fun x y H Q => ∃ d ds, Dp K H x d ∧ Dp K H y (.tuple ds) ∧ SeqAt.shaped d = true ∧ d.depth ≤ 63 ∧ SeqAt.shaped (.tuple ds) = true ∧ Q (.bl (ds.any fun z => PyData.eqv z d)) H
def rInT2 : WR2 := fun x y h Q => match x, y with
  | .d p, .d (.tuple ds) => SeqAt.shaped p = true ∧ p.depth ≤ 63 ∧ SeqAt.shaped (.tuple ds) = true ∧ Q (.d (.bool (ds.any fun z => PyData.eqv z p))) h
  | _, _ => False
def rIsB2 : WR2 := fun x y h Q => match x, y with
  | .d (.bool a), .d (.bool b) => Q (.d (.bool (decide (a = b)))) h
  | _, _ => False
def rNotB2 : WR2 := fun x y h Q => match x, y with
  | .d (.bool a), .d (.bool b) => Q (.d (.bool (!decide (a = b)))) h
  | _, _ => False
section
variable {X : Cx} {W : WX} {a b : Expr} {fa fb : WE} {pos : Pos}
theorem op_inTV (hu : X.A.units + 64 < cLine) : OpR X (compareOp .In) (rInTV X.K) := by
  intro pins s σ H x y v u Q I rx ry ⟨d, ds, hd, he, sd, dd, se, q⟩
  obtain ⟨m, r1⟩ := Dp.reads I d x v hd rx
  obtain ⟨n, r2⟩ := Dp.reads I (.tuple ds) y u he ry
  exact SeqAt.in_tuple_reads r2 r1 (SeqAt.canLay_of_shaped se) (SeqAt.canLay_of_shaped sd) (by have := Nat.min_le_right (PyData.depthAll ds) d.depth; omega) ⟨.bl _, H, I, rfl, q⟩
theorem cp_inT : Cp2 X (rInTV X.K) rInT2 := by
  intro x y h Q v w as H QV rx ry hR hq k
  unfold rInT2 at hq
  split at hq
  · rename_i p ds
    cases rx with | d rx =>
    cases ry with | d ry =>
    exact ⟨p, ds, rx.dp, ry.dp, hq.1, hq.2.1, hq.2.2.1, k.qd hR hq.2.2.2 (.bl _)⟩
  · exact hq.elim
theorem cp_isB : Cp2 X rIsB rIsB2 := by
  intro x y h Q v w as H QV rx ry hR hq k
  unfold rIsB2 at hq
  split at hq
  · rw [rel_bl rx, rel_bl ry]
    exact ⟨_, _, rfl, rfl, k.qd hR hq (.bl _)⟩
  · exact hq.elim
theorem cp_notB : Cp2 X rNotB rNotB2 := by
  intro x y h Q v w as H QV rx ry hR hq k
  unfold rNotB2 at hq
  split at hq
  · rw [rel_bl rx, rel_bl ry]
    exact ⟨_, _, rfl, rfl, k.qd hR hq (.bl _)⟩
  · exact hq.elim
theorem SE.inT (hu : X.A.units + 64 < cLine) (ha : SE X W a fa) (hb : SE X W b fb) (hm : behindInMarks .In b = false := by rfl) : SE X W (.Compare a [.In] [b] pos) (fBin rInT2 fa fb) := .cmp (op_inTV hu) cp_inT ha hb hm
theorem ST.inT (hu : X.A.units + 64 < cLine) (ha : SE X W a fa) (hb : SE X W b fb) (hm : behindInMarks .In b = false := by rfl) : ST X W (.Compare a [.In] [b] pos) (tVal (fBin rInT2 fa fb)) := .cmp (op_inTV hu) cp_inT ha hb hm
theorem SE.isB (ha : SE X W a fa) (hb : SE X W b fb) : SE X W (.Compare a [.Is] [b] pos) (fBin rIsB2 fa fb) := .cmp op_isBl cp_isB ha hb (nomark _)
theorem ST.isB (ha : SE X W a fa) (hb : SE X W b fb) : ST X W (.Compare a [.Is] [b] pos) (tVal (fBin rIsB2 fa fb)) := .cmp op_isBl cp_isB ha hb (nomark _)
theorem SE.notB (ha : SE X W a fa) (hb : SE X W b fb) : SE X W (.Compare a [.IsNot] [b] pos) (fBin rNotB2 fa fb) := .cmp op_notBl cp_notB ha hb (nomark _)
theorem ST.notB (ha : SE X W a fa) (hb : SE X W b fb) : ST X W (.Compare a [.IsNot] [b] pos) (tVal (fBin rNotB2 fa fb)) := .cmp op_notBl cp_notB ha hb (nomark _)
end
theorem i_inT {p : PyData} {ds : List PyData} {h : Ho} {Q : KD} (h1 : SeqAt.shaped p = true) (h3 : p.depth ≤ 63) (h2 : SeqAt.shaped (.tuple ds) = true) (k : Q (.d (.bool (ds.any fun z => PyData.eqv z p))) h) : rInT2 (.d p) (.d (.tuple ds)) h Q := ⟨h1, h3, h2, k⟩
theorem i_isB {a b : Bool} {h : Ho} {Q : KD} (k : Q (.d (.bool (decide (a = b)))) h) : rIsB2 (.d (.bool a)) (.d (.bool b)) h Q := k
theorem i_notB {a b : Bool} {h : Ho} {Q : KD} (k : Q (.d (.bool (!decide (a = b)))) h) : rNotB2 (.d (.bool a)) (.d (.bool b)) h Q := k
end V2
set_option Elab.async false
set_option linter.all false
set_option maxRecDepth 100000
set_option maxHeartbeats 4000000
/-! max and min of a tuple of ints -/
namespace VZ
open PySem PySem.Spec PyProof.Rows L2
section
variable {P : Program} {W : World} {Ar : Around} {Ex : Value → Shared → Prop} {st : Shared} {l : Addr} {xs : Array (Int × Tok)} {its : List Value} {ns : List Int} {R : Value → Shared → Prop}
theorem tupWalk {vs : Array Value} (hl : st.heap.IsTuple l vs) {Q : Value → Shared → Prop}
    (h : ∀ s2 : Shared, s2 = { st with heap := st.heap.push { cls := .type "tuple_iterator", data := .fields #[.ref l, .int 0 0] } } →
      (s2.heap.IsTupleIter st.heap.objs.size l 0 ∧ s2.heap.IsTuple l vs) → (∀ b ∈ [st.heap.objs.size, l], b < s2.heap.objs.size) → l ≠ st.heap.objs.size → Q (.ref st.heap.objs.size) s2) :
    wpAny (model P W) Ar (pyIter (.ref l)) Q Ex st := by
  have lt : l < st.heap.objs.size := by obtain ⟨_, e, _⟩ := hl; exact Heap.lt_size e
  refine wpAny_pyIter_tuple hl (h _ rfl ⟨⟨_, Heap.get?_push_size _ rfl, rfl, rfl⟩, hl.push _⟩ (fun b hb => ?_) (Nat.ne_of_lt lt))
  show b < (st.heap.push _).objs.size
  rw [Heap.size_push]
  simp only [List.mem_cons, List.not_mem_nil, or_false] at hb
  rcases hb with rfl | rfl
  · exact Nat.lt_succ_self _
  · exact Nat.lt_succ_of_lt lt
theorem oldT {g : Heap} (k : ∀ b o, b ∉ [st.heap.objs.size] → (st.heap.push { cls := .type "tuple_iterator", data := .fields #[.ref l, .int 0 0] }).get? b = some o → g.get? b = some o) (b : Addr) (o : Obj) (e : st.heap.get? b = some o) : g.get? b = some o := by
  refine k b o (fun m => ?_) (Heap.get?_push_of_some _ e)
  rw [List.mem_singleton] at m
  exact absurd (m ▸ Heap.lt_size e) (Nat.lt_irrefl _)
theorem numIn {zs : Array (Int × Tok)} {j : Nat} (h : j < zs.size) : numAt zs j ∈ zs.toList.map (·.1) := by
  rw [numAt_eq]
  exact PySem.getD_mem (by rw [List.length_map, Array.length_toList]; exact h)
theorem numOf {zs : Array (Int × Tok)} {y : Int} (h : y ∈ zs.toList.map (·.1)) : ∃ j, j < zs.size ∧ y = numAt zs j := by
  obtain ⟨j, hj, rfl⟩ := mem_getD h
  rw [List.length_map, Array.length_toList] at hj
  exact ⟨j, hj, by rw [← numAt_eq]⟩
theorem tupMax (hh : Ar.handled = none) (hl : st.heap.IsTuple l its.toArray) (hi : IntsAre its ns) (hne : 0 < ns.length)
    (h : ∀ g tk M t, (∀ b o, st.heap.get? b = some o → g.get? b = some o) → M ∈ ns → (∀ a, a ∈ ns → a ≤ M) → R (.int M t) { st with heap := g, toks := tk }) : wpAny (model P W) Ar (call (.builtin "max") [.ref l]) R Ex st := by
  obtain ⟨zs, ez⟩ := hi.allInts.items
  have nz : numsOf (intItems zs).toList = ns := by rw [← ez]; exact hi.numsOf
  rw [nums_intItems] at nz; subst nz; rw [ez] at hl
  have z0 : 0 < zs.size := by simpa using hne
  refine call_max_walk (tupWalk hl fun s2 es w hfp hlI => ?_)
  subst es
  refine ⟨_, _, _, _, _, _, _, rfl, Walks.tuple (A := Ar.in1) hh _ l hlI (intItems zs), w, hfp, by simpa [intItems] using z0, CmpOf.ints_gt (numAt zs) (fun _ _ => intItems_at), fun v g tk hP hk => ?_⟩
  have sz : (intItems zs).size = zs.size := by simp [intItems]
  rw [sz] at hP
  obtain ⟨t, rfl⟩ := intItems_at hP
  obtain ⟨b1, b2⟩ := argBest_gt (numAt zs) (zs.size - 1)
  refine h g tk _ t (oldT hk) (numIn (by omega)) fun a ha => ?_
  obtain ⟨j, hj, rfl⟩ := numOf ha
  exact b2 j (by omega)
theorem tupMin (hh : Ar.handled = none) (hl : st.heap.IsTuple l its.toArray) (hi : IntsAre its ns) (hne : 0 < ns.length)
    (h : ∀ g tk M t, (∀ b o, st.heap.get? b = some o → g.get? b = some o) → M ∈ ns → (∀ a, a ∈ ns → M ≤ a) → R (.int M t) { st with heap := g, toks := tk }) : wpAny (model P W) Ar (call (.builtin "min") [.ref l]) R Ex st := by
  obtain ⟨zs, ez⟩ := hi.allInts.items
  have nz : numsOf (intItems zs).toList = ns := by rw [← ez]; exact hi.numsOf
  rw [nums_intItems] at nz; subst nz; rw [ez] at hl
  have z0 : 0 < zs.size := by simpa using hne
  refine call_min_walk (tupWalk hl fun s2 es w hfp hlI => ?_)
  subst es
  refine ⟨_, _, _, _, _, _, _, rfl, Walks.tuple (A := Ar.in1) hh _ l hlI (intItems zs), w, hfp, by simpa [intItems] using z0, CmpOf.ints_lt (numAt zs) (fun _ _ => intItems_at), fun v g tk hP hk => ?_⟩
  have sz : (intItems zs).size = zs.size := by simp [intItems]
  rw [sz] at hP
  obtain ⟨t, rfl⟩ := intItems_at hP
  obtain ⟨b1, b2⟩ := argBest_lt (numAt zs) (zs.size - 1)
  refine h g tk _ t (oldT hk) (numIn (by omega)) fun a ha => ?_
  obtain ⟨j, hj, rfl⟩ := numOf ha
  exact b2 j (by omega)
end
end VZ
namespace V2
open PySem PySem.Spec PyProof.Rows L2
open PySem.W (Frag)
def rMaxTV (K : Frag) : List V → Hp → VK → Prop := fun vs H Q => ∃ (a : Addr) (ns : List Int), vs = [V.ref a] ∧ SqT K H a (ns.map V.int) ∧ 0 < ns.length ∧ ∀ m, m ∈ ns → (∀ y, y ∈ ns → y ≤ m) → Q (.int m) H
def rMinTV (K : Frag) : List V → Hp → VK → Prop := fun vs H Q => ∃ (a : Addr) (ns : List Int), vs = [V.ref a] ∧ SqT K H a (ns.map V.int) ∧ 0 < ns.length ∧ ∀ m, m ∈ ns → (∀ y, y ∈ ns → m ≤ y) → Q (.int m) H
def rMaxT : WR := fun xs h Q => ∃ ns : List Int, xs = [.d (.tuple (ns.map PyData.int))] ∧ 0 < ns.length ∧ ∀ m, m ∈ ns → (∀ y, y ∈ ns → y ≤ m) → Q (.d (.int m)) h
def rMinT : WR := fun xs h Q => ∃ ns : List Int, xs = [.d (.tuple (ns.map PyData.int))] ∧ 0 < ns.length ∧ ∀ m, m ∈ ns → (∀ y, y ∈ ns → m ≤ y) → Q (.d (.int m)) h
section
variable {X : Cx} {W : WX} {a : Expr} {ga : WA} {pos p : Pos}
theorem cr_maxT (hc : X.calm = true) : CallR X (.builtin "max") (rMaxTV X.K) := by
  rintro pins s σ H vs us Q I r ⟨a, ns, rfl, hs, hne, q⟩
  obtain ⟨its, rv, hl, _⟩ := I.tuple hs
  rw [Vals.ref1 r]
  exact VZ.tupMax (I.ok.hd hc) hl rv.ints hne fun g tk m t hk h1 h2 => ⟨.int _, H, I.kept hk, ⟨_, rfl⟩, q m h1 h2⟩
theorem cr_minT (hc : X.calm = true) : CallR X (.builtin "min") (rMinTV X.K) := by
  rintro pins s σ H vs us Q I r ⟨a, ns, rfl, hs, hne, q⟩
  obtain ⟨its, rv, hl, _⟩ := I.tuple hs
  rw [Vals.ref1 r]
  exact VZ.tupMin (I.ok.hd hc) hl rv.ints hne fun g tk m t hk h1 h2 => ⟨.int _, H, I.kept hk, ⟨_, rfl⟩, q m h1 h2⟩
theorem tup_ints {K : Frag} {as : List Addr} {H : Hp} {v : V} {ns : List Int} (r : Rel K as H v (.d (.tuple (ns.map PyData.int)))) : ∃ a, v = .ref a ∧ SqT K H a (ns.map V.int) := by
  cases r with | d r =>
  cases r with | tup t d =>
  rw [d.ints_inv] at t
  exact ⟨_, rfl, t.sq⟩
theorem cp_maxT : CpA X (rMaxTV X.K) rMaxT := by
  rintro xs h Q vs as H QV rv hR ⟨ns, rfl, hn, q⟩ k
  obtain ⟨v, rfl, r⟩ := relAll1 rv
  obtain ⟨a, rfl, s⟩ := tup_ints r
  exact ⟨a, ns, rfl, s, hn, fun m h1 h2 => k.qd hR (q m h1 h2) (.int _)⟩
theorem cp_minT : CpA X (rMinTV X.K) rMinT := by
  rintro xs h Q vs as H QV rv hR ⟨ns, rfl, hn, q⟩ k
  obtain ⟨v, rfl, r⟩ := relAll1 rv
  obtain ⟨a, rfl, s⟩ := tup_ints r
  exact ⟨a, ns, rfl, s, hn, fun m h1 h2 => k.qd hR (q m h1 h2) (.int _)⟩
theorem SE.maxT (hg : Gl X "max") (hm : X.mg "max" = none) (hc : X.calm = true) (ha : SA X W [a] ga) (he : starEach [a] X.env = (false, eval a X.env) :: starEach [] X.env := by rfl) : SE X W (.Call (.Name "max" p) [a] [] pos) (fCall rMaxT ga) := .callB (cr_maxT hc) cp_maxT hg hm (by decide +kernel) ha (he := he) (hpl := rfl)
theorem SE.minT (hg : Gl X "min") (hm : X.mg "min" = none) (hc : X.calm = true) (ha : SA X W [a] ga) (he : starEach [a] X.env = (false, eval a X.env) :: starEach [] X.env := by rfl) : SE X W (.Call (.Name "min" p) [a] [] pos) (fCall rMinT ga) := .callB (cr_minT hc) cp_minT hg hm (by decide +kernel) ha (he := he) (hpl := rfl)
end
theorem i_maxT2 {i j : Int} {h : Ho} {Q : KD} (k : Q (.d (.int (max i j))) h) : rMaxT [.d (.tuple [.int i, .int j])] h Q := by
  refine ⟨[i, j], rfl, Nat.le_of_ble_eq_true rfl, fun m hm hall => ?_⟩
  have h1 := hall i (by simp)
  have h2 := hall j (by simp)
  have : m = max i j := by
    simp only [List.mem_cons, List.not_mem_nil, or_false] at hm
    omega
  rw [this]
  exact k
theorem i_minT2 {i j : Int} {h : Ho} {Q : KD} (k : Q (.d (.int (min i j))) h) : rMinT [.d (.tuple [.int i, .int j])] h Q := by
  refine ⟨[i, j], rfl, Nat.le_of_ble_eq_true rfl, fun m hm hall => ?_⟩
  have h1 := hall i (by simp)
  have h2 := hall j (by simp)
  have : m = min i j := by
    simp only [List.mem_cons, List.not_mem_nil, or_false] at hm
    omega
  rw [this]
  exact k
end V2
set_option Elab.async false
set_option linter.all false
set_option maxRecDepth 100000
set_option maxHeartbeats 4000000
/-! rules: and, or, not with a known end; slices; sums of lists and tuples; turned lists -/
namespace V2
open PySem PySem.Spec PyProof.Rows L2
section
variable {ρ : En} {h : Ho} {Q : KD} {E : XD} {fa fb : WE}
theorem i_forG (k : fa ρ h (fun x h1 => ∃ b, x = .d (.bool b) ∧ if b = true then Q (.d (.bool true)) h1 else fb ρ h1 Q E) E) : fOr fa fb ρ h Q E := by
  have e : (fun (x : D) (h1 : Ho) => ∃ b, x = .d (.bool b) ∧ if b = true then Q (.d (.bool true)) h1 else fb ρ h1 Q E) = (fun x h1 => match x with
      | .d (.bool false) => fb ρ h1 Q E
      | .d (.bool true) => Q (.d (.bool true)) h1
      | _ => False) := by
    funext x h1
    apply propext
    constructor
    · rintro ⟨b, rfl, q⟩
      cases b
      · exact q
      · exact q
    · intro q
      split at q
      · exact ⟨false, rfl, q⟩
      · exact ⟨true, rfl, q⟩
      · exact q.elim
  rw [e] at k
  exact k
theorem i_fnotG (k : fa ρ h (fun x h1 => ∃ b, x = .d (.bool b) ∧ Q (.d (.bool (!b))) h1) E) : fNot fa ρ h Q E := by
  have e : (fun (x : D) (h1 : Ho) => ∃ b, x = .d (.bool b) ∧ Q (.d (.bool (!b))) h1) = (fun x h1 => match x with
      | .d (.bool b) => Q (.d (.bool (!b))) h1
      | _ => False) := by
    funext x h1
    apply propext
    constructor
    · rintro ⟨b, rfl, q⟩
      exact q
    · intro q
      split at q
      · exact ⟨_, rfl, q⟩
      · exact q.elim
  rw [e] at k
  exact k
theorem andB {b c : Bool} {P : Prop} (k : Q (.d (.bool (b && c))) h) (r : Q (.d (.bool c)) h → P) : if b = true then P else Q (.d (.bool false)) h := by
  cases b
  · exact k
  · exact r k
theorem orB {b c : Bool} {P : Prop} (k : Q (.d (.bool (b || c))) h) (r : Q (.d (.bool c)) h → P) : if b = true then Q (.d (.bool true)) h else P := by
  cases b
  · exact r k
  · exact k
def slK (Q : KD) (x : D) (l u : Option Int) (h : Ho) : Prop := match x with
  | .d (.list ps) => Q (.d (.list (cut ps l u))) h
  | .d (.tuple ps) => Q (.d (.tuple (cut ps l u))) h
  | _ => False
theorem i_slG {lo hi : En → Ho → (Option Int → Ho → Prop) → XD → Prop} (k : fa ρ h (fun x h1 => lo ρ h1 (fun l h2 => hi ρ h2 (fun u h3 => slK Q x l u h3) E) E) E) : fSl fa lo hi ρ h Q E := k
theorem slT {ps : List PyData} {l u : Option Int} (k : Q (.d (.tuple (cut ps l u))) h) : slK Q (.d (.tuple ps)) l u h := k
theorem slL {ps : List PyData} {l u : Option Int} (k : Q (.d (.list (cut ps l u))) h) : slK Q (.d (.list ps)) l u h := k
theorem i_oN {K : Option Int → Ho → Prop} (k : K none h) : oNone ρ h K E := k
theorem i_oS {K : Option Int → Ho → Prop} (k : fa ρ h (fun x h1 => ∃ i, x = .d (.int i) ∧ K (some i) h1) E) : oSome fa ρ h K E := by
  have e : (fun (x : D) (h1 : Ho) => ∃ i, x = .d (.int i) ∧ K (some i) h1) = (fun x h1 => match x with
      | .d (.int i) => K (some i) h1
      | _ => False) := by
    funext x h1
    apply propext
    constructor
    · rintro ⟨b, rfl, q⟩
      exact q
    · intro q
      split at q
      · exact ⟨_, rfl, q⟩
      · exact q.elim
  rw [e] at k
  exact k
theorem i_addLL {ps qs : List PyData} (hl : ps.length + qs.length ≤ sizeLine) (k : Q (.d (.list (ps ++ qs))) h) : rAdd2 (.d (.list ps)) (.d (.list qs)) h Q := ⟨hl, k⟩
theorem i_addTT {ps qs : List PyData} (hl : ps.length + qs.length ≤ sizeLine) (k : Q (.d (.tuple (ps ++ qs))) h) : rAdd2 (.d (.tuple ps)) (.d (.tuple qs)) h Q := ⟨hl, k⟩
def rvK (Q : KD) (x : D) (h : Ho) : Prop := match x with
  | .d (.list ps) => Q (.d (.list ps.reverse)) h
  | _ => False
theorem i_rev (k : fa ρ h (rvK Q) E) : fRev fa ρ h Q E := k
theorem rvL {ps : List PyData} (k : Q (.d (.list ps.reverse)) h) : rvK Q (.d (.list ps)) h := k
theorem i_tupL {ps : List PyData} (k : Q (.d (.tuple ps)) h) : rTup1 [.d (.list ps)] h Q := by
  unfold rTup1
  simp only [litems, allD_map]
  exact k
theorem i_tupLoc {n : Nat} {ps : List PyData} (e : h[n]? = some (.lst (ps.map D.d))) (k : Q (.d (.tuple ps)) h) : rTup1 [.loc n] h Q := by
  unfold rTup1
  simp only [litems, e, allD_map]
  exact k
theorem i_listT {ps : List PyData} (k : Q (.d (.list ps)) h) : rList1 [.d (.tuple ps)] h Q := by
  unfold rList1
  simp only [items, allD_map]
  exact k
end
end V2
set_option Elab.async false
set_option linter.all false
set_option maxRecDepth 100000
set_option maxHeartbeats 4000000
/-! an int less a bool -/
namespace V2
open PySem PySem.Spec PyProof.Rows L2
def rSubBV : R2 := fun x y H Q => ∃ (i : Int) (b : Bool), x = .int i ∧ y = .bl b ∧ Q (.int (i - if b = true then (1 : Int) else 0)) H
def rSubB2 : WR2 := fun x y h Q => match x, y with
  | .d (.int i), .d (.bool b) => Q (.d (.int (i - if b = true then (1 : Int) else 0))) h
  | _, _ => False
section
variable {X : Cx} {W : WX} {a b : Expr} {fa fb : WE} {pos : Pos}
theorem op_subB : OpR X (binaryOp .Sub) rSubBV := by
  rintro pins s σ H x y v u Q I rx ry ⟨i, b, rfl, rfl, q⟩
  obtain ⟨t, rfl⟩ := rx
  cases (show u = Value.bool b from ry)
  exact _root_.PySem.IntBool.sub_int_bool ⟨.int _, H, I.tok _, ⟨_, rfl⟩, q⟩
theorem cp_subB : Cp2 X rSubBV rSubB2 := by
  intro x y h Q v w as H QV rx ry hR hq k
  unfold rSubB2 at hq
  split at hq
  · rw [rel_int rx, rel_bl ry]
    exact ⟨_, _, rfl, rfl, k.qd hR hq (.int _)⟩
  · exact hq.elim
theorem SE.subB (ha : SE X W a fa) (hb : SE X W b fb) : SE X W (.BinOp a .Sub b pos) (fBin rSubB2 fa fb) := .bin op_subB cp_subB ha hb
end
theorem i_subB {i : Int} {b : Bool} {h : Ho} {Q : KD} (k : Q (.d (.int (i - if b = true then (1 : Int) else 0))) h) : rSubB2 (.d (.int i)) (.d (.bool b)) h Q := k
end V2
set_option Elab.async false
set_option linter.all false
set_option maxRecDepth 100000
set_option maxHeartbeats 4000000
/-! a slice of a list that is a place: a new list of data -/
namespace V2
open PySem PySem.Spec PyProof.Rows L2
open PySem.W (Frag)
def plK (Q : KD) (x : D) (l u : Option Int) (h : Ho) : Prop := ∃ n xs ps, x = .loc n ∧ h[n]? = some (.lst xs) ∧ allD xs = some ps ∧ Q (.d (.list (cut ps l u))) h
def fSlP (fa : WE) (lo hi : En → Ho → (Option Int → Ho → Prop) → XD → Prop) : WE := fun ρ h Q E => fa ρ h (fun x h1 => lo ρ h1 (fun l h2 => hi ρ h2 (fun u h3 => plK Q x l u h3) E) E) E
section
variable {X : Cx} {W : WX} {a : Expr} {fa : WE} {pos : Pos}
theorem SE.sliceP {lo hi : Option Expr} {fl fu} {p2 : Pos} (ha : SE X W a fa) (hl : SO X W lo fl) (hu : SO X W hi fu) : SE X W (.Subscript a (.Slice lo hi Option.none p2) pos) (fSlP fa fl fu) := by
  obtain ⟨_, pa, sa⟩ := ha
  obtain ⟨_, pl, sl⟩ := hl
  obtain ⟨_, pu, su⟩ := hu
  refine ⟨_, pe_slice (sl_list.or sl_tupA) pa pl pu, fun σ H as ρ h Q E QV eR hR hq k kx => ?_⟩
  refine sa σ H as ρ h _ E _ eR hR hq (fun x h1 v as1 H1 hq1 l1 r1 rv => ?_) kx
  refine sl σ H1 as1 ρ h1 _ E _ (eR.later l1) r1 hq1 (fun lo h2 as2 H2 hq2 l2 r2 => ?_) (kx.later l1)
  refine su σ H2 as2 ρ h2 _ E _ ((eR.later l1).later l2) r2 hq2 (fun hi h3 as3 H3 hq3 l3 r3 => ?_) ((kx.later l1).later l2)
  have k3 := ((k.later l1).later l2).later l3
  have rv3 := (rv.later l2).later l3
  obtain ⟨n, xs, ps, rfl, e1, e2, q⟩ := hq3
  cases rv3 with | loc hn =>
  obtain ⟨b, hb, vs, o1, o2⟩ := r3.at e1
  rw [hn] at hb
  cases hb
  exact .inl ⟨_, vs, rfl, SqL.of o1, fun p hp => k3.newLst r3 q ((o2.ofAllD e2).cut _ _) hp⟩
end
section
variable {ρ : En} {h : Ho} {Q : KD} {E : XD} {fa : WE}
theorem i_slP {lo hi : En → Ho → (Option Int → Ho → Prop) → XD → Prop} (k : fa ρ h (fun x h1 => lo ρ h1 (fun l h2 => hi ρ h2 (fun u h3 => plK Q x l u h3) E) E) E) : fSlP fa lo hi ρ h Q E := k
theorem slP {n : Nat} {ps : List PyData} {l u : Option Int} (e : h[n]? = some (.lst (ps.map D.d))) (k : Q (.d (.list (cut ps l u))) h) : plK Q (.loc n) l u h := ⟨n, _, ps, rfl, e, allD_map _, k⟩
end
end V2
set_option Elab.async false
set_option linter.all false
set_option maxRecDepth 100000
set_option maxHeartbeats 8000000
namespace LW
open PySem PySem.Spec PyProof.Rows L2 V2
open PySem.W (Frag)

/-! the readings over data -/
def B_is_int : WS := (sRet (fAnd (fIsi "int" (fVar 0)) (fNot (fIsi "bool" (fVar 0)))))
def M_is_int : WF := mir 1 1 B_is_int
def B_is_tuple_of : WS := (sRet (fAnd (fIsi "tuple" (fVar 0)) (fBin rEq2 (fCall rLen (aCons (fVar 0) aNil)) (fVar 1))))
def M_is_tuple_of : WF := mir 2 2 B_is_tuple_of
def B_whole : WS := (sRet (fTup (aCons (fVar 0) (aCons (fC (.int 1)) aNil))))
def M_whole : WF := mir 1 1 B_whole
def B_sign_of : WS := (sSeq (sIf (tVal (fBin (rCmp2 fun i j => decide (j < i)) (fBin rIx2 (fVar 0) (fC (.int 0))) (fC (.int 0)))) (sRet (fC (.int 1))) sNext)
  (sSeq (sIf (tVal (fBin (rCmp2 fun i j => decide (i < j)) (fBin rIx2 (fVar 0) (fC (.int 0))) (fC (.int 0)))) (sRet (fUn (fun i => .int (-i)) (fC (.int 1)))) sNext)
  (sRet (fC (.int 0)))))
def M_sign_of : WF := mir 1 1 B_sign_of
def B_whole_area : WS := (sRet (fBin rSub2 (fBin rMul2 (fBin rSub2 (fBin rIx2 (fVar 1) (fC (.int 0))) (fBin rIx2 (fVar 0) (fC (.int 0)))) (fBin rSub2 (fBin rIx2 (fVar 2) (fC (.int 1))) (fBin rIx2 (fVar 0) (fC (.int 1))))) (fBin rMul2 (fBin rSub2 (fBin rIx2 (fVar 1) (fC (.int 1))) (fBin rIx2 (fVar 0) (fC (.int 1)))) (fBin rSub2 (fBin rIx2 (fVar 2) (fC (.int 0))) (fBin rIx2 (fVar 0) (fC (.int 0)))))))
def M_whole_area : WF := mir 3 3 B_whole_area
def B_sides_along : WS := (sRet (fZipL (aCons (fVar 0) (aCons (fBin rAdd2 (fSl (fVar 0) (oSome (fC (.int 1))) oNone) (fSl (fVar 0) oNone (oSome (fC (.int 1))))) aNil))))
def M_sides_along : WF := mir 1 1 B_sides_along
def B__apart : WS := (sSeq (sAsg (fTup (aCons (fVar 0) (aCons (fVar 1) aNil))) (gTp 2 (gsCons (gTp 2 (gsCons (gNm 2) (gsCons (gNm 3) gsNil))) (gsCons (gTp 2 (gsCons (gNm 4) (gsCons (gNm 5) gsNil))) gsNil))))
  (sRet (fOr (fBin (rCmp2 fun i j => decide (i < j)) (fCall rMax2 (aCons (fBin rIx2 (fVar 2) (fC (.int 0))) (aCons (fBin rIx2 (fVar 3) (fC (.int 0))) aNil))) (fCall rMin2 (aCons (fBin rIx2 (fVar 4) (fC (.int 0))) (aCons (fBin rIx2 (fVar 5) (fC (.int 0))) aNil)))) (fOr (fBin (rCmp2 fun i j => decide (i < j)) (fCall rMax2 (aCons (fBin rIx2 (fVar 4) (fC (.int 0))) (aCons (fBin rIx2 (fVar 5) (fC (.int 0))) aNil))) (fCall rMin2 (aCons (fBin rIx2 (fVar 2) (fC (.int 0))) (aCons (fBin rIx2 (fVar 3) (fC (.int 0))) aNil)))) (fOr (fBin (rCmp2 fun i j => decide (i < j)) (fCall rMax2 (aCons (fBin rIx2 (fVar 2) (fC (.int 1))) (aCons (fBin rIx2 (fVar 3) (fC (.int 1))) aNil))) (fCall rMin2 (aCons (fBin rIx2 (fVar 4) (fC (.int 1))) (aCons (fBin rIx2 (fVar 5) (fC (.int 1))) aNil)))) (fBin (rCmp2 fun i j => decide (i < j)) (fCall rMax2 (aCons (fBin rIx2 (fVar 4) (fC (.int 1))) (aCons (fBin rIx2 (fVar 5) (fC (.int 1))) aNil))) (fCall rMin2 (aCons (fBin rIx2 (fVar 2) (fC (.int 1))) (aCons (fBin rIx2 (fVar 3) (fC (.int 1))) aNil)))))))))
def M__apart : WF := mir 6 2 B__apart
def B__law_deal : WS := (sSeq (sAsg (fLcV (iSeq (fSl (fVar 0) oNone (oSome (fC (.int 63))))) (gNm 3) tTrue (fCall rAbs (aCons (fCall rInt1 (aCons (fVar 3) aNil)) aNil)) [3]) (gNm 2))
  (sSeq (sAsg (fBin rAdd2 (fBin rMul2 (fC (.int 40127)) (fVar 1)) (fC (.int 863))) (gNm 4))
  (sSeq (sFor (iSeq (fVar 2)) (gNm 3) (sAsg (fBin rMod2 (fCall rInt1 (aCons (fBin rAdd2 (fBin rAdd2 (fBin rMul2 (fVar 4) (fC (.int 48271))) (fBin rMod2 (fVar 3) (fC (.int 2147483579)))) (fC (.int 61))) aNil)) (fC (.int 2147483647))) (gNm 4)))
  (sRet (fLoc (aCons (fRevLoc (fLcV (iSeq (fVar 2)) (gNm 3) (tVal (fBin (rCmp2 fun i j => decide (j ≤ i)) (fVar 3) (fBin rPow2 (fC (.int 10)) (fC (.int 18))))) (fVar 3) [3])) (aCons (fVar 4) aNil)))))))
def M__law_deal : WF := mir 5 2 B__law_deal
def B__law_any : WS := (sSeq (sWhile (tAnd2 (tVal (fBin rNe2 (fBin rIx2 (fVar 0) (fC (.int 0))) (fLst aNil))) (tVal (fBin rEq2 (fBin rIx2 (fBin rIx2 (fVar 0) (fC (.int 0))) (fUn (fun i => .int (-i)) (fC (.int 1)))) (fC (.int 0))))) (sDrop (fPop (fBin rIx2 (fVar 0) (fC (.int 0))))))
  (sSeq (sIf (tVal (fBin rNe2 (fBin rIx2 (fVar 0) (fC (.int 0))) (fLst aNil))) (sSeq (sAsg (fCall rInt1 (aCons (fPop (fBin rIx2 (fVar 0) (fC (.int 0)))) aNil)) (gNm 2))
  (sSeq (sDrop (fAppend (fBin rIx2 (fVar 0) (fC (.int 0))) (aCons (fBin rDiv2 (fVar 2) (fVar 1)) aNil)))
  (sRet (fBin rMod2 (fVar 2) (fVar 1))))) sNext)
  (sSeq (sSub (fBin rMod2 (fCall rInt1 (aCons (fBin rAdd2 (fBin rMul2 (fBin rIx2 (fVar 0) (fC (.int 1))) (fC (.int 48271))) (fC (.int 83))) aNil)) (fC (.int 2147483647))) (fVar 0) (fC (.int 1)))
  (sRet (fBin rMod2 (fCall rInt1 (aCons (fBin rDiv2 (fBin rIx2 (fVar 0) (fC (.int 1))) (fC (.int 64))) aNil)) (fVar 1))))))
def M__law_any : WF := mir 3 2 B__law_any
def B__law_put : WS := (sSeq (sAsg (fVar 1) (gTp 6 (gsCons (gNm 2) (gsCons (gNm 3) (gsCons (gNm 4) (gsCons (gNm 5) (gsCons (gNm 6) (gsCons (gNm 7) gsNil))))))))
  (sSeq (sAsg (fLcV (iSeq (fVar 0)) (gTp 2 (gsCons (gNm 9) (gsCons (gNm 10) gsNil))) tTrue (fTup (aCons (fBin rAdd2 (fBin rAdd2 (fBin rMul2 (fVar 2) (fVar 9)) (fBin rMul2 (fVar 3) (fVar 10))) (fVar 6)) (aCons (fBin rAdd2 (fBin rAdd2 (fBin rMul2 (fVar 4) (fVar 9)) (fBin rMul2 (fVar 5) (fVar 10))) (fVar 7)) aNil))) [9, 10]) (gNm 8))
  (sRet (fCall rTup1 (aCons (fIf (tVal (fBin (rCmp2 fun i j => decide (j < i)) (fBin rSub2 (fBin rMul2 (fVar 2) (fVar 5)) (fBin rMul2 (fVar 3) (fVar 4))) (fC (.int 0)))) (fVar 8) (fRev (fVar 8))) aNil)))))
def M__law_put : WF := mir 11 2 B__law_put
def B__law_is_int : WS := (sRet (fAnd (fIsi "int" (fVar 0)) (fNot (fIsi "bool" (fVar 0)))))
def M__law_is_int : WF := mir 1 1 B__law_is_int
def B__law_cross : WS := (sRet (fBin rSub2 (fBin rMul2 (fBin rSub2 (fBin rIx2 (fVar 1) (fC (.int 0))) (fBin rIx2 (fVar 0) (fC (.int 0)))) (fBin rSub2 (fBin rIx2 (fVar 2) (fC (.int 1))) (fBin rIx2 (fVar 1) (fC (.int 1))))) (fBin rMul2 (fBin rSub2 (fBin rIx2 (fVar 1) (fC (.int 1))) (fBin rIx2 (fVar 0) (fC (.int 1)))) (fBin rSub2 (fBin rIx2 (fVar 2) (fC (.int 0))) (fBin rIx2 (fVar 1) (fC (.int 0)))))))
def M__law_cross : WF := mir 3 3 B__law_cross
def B__law_is_within : WS := (sRet (fOr (fChain (rCmp2 fun i j => decide (i ≤ j)) (rCmp2 fun i j => decide (i ≤ j)) (fC (.int 0)) (fVar 0) (fVar 1)) (fChain (rCmp2 fun i j => decide (i ≤ j)) (rCmp2 fun i j => decide (i ≤ j)) (fVar 1) (fVar 0) (fC (.int 0)))))
def M__law_is_within : WF := mir 2 2 B__law_is_within
def B_are_ints : WS := (sRet (fAnd (fFn M_is_tuple_of (aCons (fVar 0) (aCons (fVar 1) aNil))) (fCall rAllB (aCons (fLcV (iSeq (fVar 0)) (gNm 2) tTrue (fFn M_is_int (aCons (fVar 2) aNil)) [2]) aNil))))
def M_are_ints : WF := mir 3 2 B_are_ints
def B_whole_turn : WS := (sRet (fFn M_sign_of (aCons (fFn M_whole (aCons (fFn M_whole_area (aCons (fVar 0) (aCons (fVar 1) (aCons (fVar 2) aNil)))) aNil)) aNil)))
def M_whole_turn : WF := mir 3 3 B_whole_turn
def B_whole_on : WS := (sRet (fAnd (fChain (rCmp2 fun i j => decide (i ≤ j)) (rCmp2 fun i j => decide (i ≤ j)) (fCall rMin2 (aCons (fBin rIx2 (fVar 0) (fC (.int 0))) (aCons (fBin rIx2 (fVar 1) (fC (.int 0))) aNil))) (fBin rIx2 (fVar 2) (fC (.int 0))) (fCall rMax2 (aCons (fBin rIx2 (fVar 0) (fC (.int 0))) (aCons (fBin rIx2 (fVar 1) (fC (.int 0))) aNil)))) (fAnd (fChain (rCmp2 fun i j => decide (i ≤ j)) (rCmp2 fun i j => decide (i ≤ j)) (fCall rMin2 (aCons (fBin rIx2 (fVar 0) (fC (.int 1))) (aCons (fBin rIx2 (fVar 1) (fC (.int 1))) aNil))) (fBin rIx2 (fVar 2) (fC (.int 1))) (fCall rMax2 (aCons (fBin rIx2 (fVar 0) (fC (.int 1))) (aCons (fBin rIx2 (fVar 1) (fC (.int 1))) aNil)))) (fBin rEq2 (fFn M_whole_area (aCons (fVar 0) (aCons (fVar 1) (aCons (fVar 2) aNil)))) (fC (.int 0))))))
def M_whole_on : WF := mir 3 3 B_whole_on
def B_turns_back : WS := (sRet (fAnd (fBin rEq2 (fFn M_whole_area (aCons (fVar 0) (aCons (fVar 1) (aCons (fVar 2) aNil)))) (fC (.int 0))) (fBin (rCmp2 fun i j => decide (j < i)) (fBin rAdd2 (fBin rMul2 (fBin rSub2 (fBin rIx2 (fVar 0) (fC (.int 0))) (fBin rIx2 (fVar 1) (fC (.int 0)))) (fBin rSub2 (fBin rIx2 (fVar 2) (fC (.int 0))) (fBin rIx2 (fVar 1) (fC (.int 0))))) (fBin rMul2 (fBin rSub2 (fBin rIx2 (fVar 0) (fC (.int 1))) (fBin rIx2 (fVar 1) (fC (.int 1)))) (fBin rSub2 (fBin rIx2 (fVar 2) (fC (.int 1))) (fBin rIx2 (fVar 1) (fC (.int 1)))))) (fC (.int 0)))))
def M_turns_back : WF := mir 3 3 B_turns_back
def B_ring_sides : WS := (sRet (fCall rTup1 (aCons (fFn M_sides_along (aCons (fVar 0) aNil)) aNil)))
def M_ring_sides : WF := mir 1 1 B_ring_sides
def B__law_of : WS := (sRet (fBin rIx2 (fVar 1) (fFn M__law_any (aCons (fVar 0) (aCons (fCall rLen (aCons (fVar 1) aNil)) aNil)))))
def M__law_of : WF := mir 2 2 B__law_of
def B__law_star : WS := (sSeq (sAsg (fLst (aCons (fTup (aCons (fC (.int 2)) (aCons (fC (.int 0)) aNil))) (aCons (fTup (aCons (fC (.int 2)) (aCons (fC (.int 1)) aNil))) (aCons (fTup (aCons (fC (.int 2)) (aCons (fC (.int 2)) aNil))) (aCons (fTup (aCons (fC (.int 1)) (aCons (fC (.int 2)) aNil))) (aCons (fTup (aCons (fC (.int 0)) (aCons (fC (.int 2)) aNil))) (aCons (fTup (aCons (fUn (fun i => .int (-i)) (fC (.int 1))) (aCons (fC (.int 2)) aNil))) (aCons (fTup (aCons (fUn (fun i => .int (-i)) (fC (.int 2))) (aCons (fC (.int 2)) aNil))) (aCons (fTup (aCons (fUn (fun i => .int (-i)) (fC (.int 2))) (aCons (fC (.int 1)) aNil))) aNil))))))))) (gNm 4))
  (sSeq (sAsg (fBin rAdd2 (fVar 4) (fLcV (iSeq (fVar 4)) (gTp 2 (gsCons (gNm 5) (gsCons (gNm 6) gsNil))) tTrue (fTup (aCons (fBin rSub2 (fC (.int 0)) (fVar 5)) (aCons (fBin rSub2 (fC (.int 0)) (fVar 6)) aNil))) [5, 6])) (gNm 4))
  (sSeq (sAsg (fLst aNil) (gNm 7))
  (sSeq (sFor (iRange1 (aCons (fC (.int 4)) aNil)) (gNm 8) (sSeq (sAsg (fLcV (iRange1 (aCons (fBin rAdd2 (fC (.int 1)) (fFn M__law_any (aCons (fVar 0) (aCons (fVar 3) aNil)))) aNil)) (gNm 10) tTrue (fBin rAdd2 (fBin rMul2 (fC (.int 4)) (fVar 8)) (fFn M__law_any (aCons (fVar 0) (aCons (fC (.int 4)) aNil)))) [10]) (gNm 9))
  (sAsg (fBin rAdd2 (fVar 7) (fLcV (iRange2 (aCons (fBin rMul2 (fC (.int 4)) (fVar 8)) (aCons (fBin rAdd2 (fBin rMul2 (fC (.int 4)) (fVar 8)) (fC (.int 4))) aNil))) (gNm 11) (tVal (fBin (rInD false) (fVar 11) (fVar 9))) (fVar 11) [11])) (gNm 7))))
  (sSeq (sAsg (fLoc aNil) (gNm 12))
  (sSeq (sFor (iSeq (fVar 7)) (gNm 11) (sSeq (sAsg (fBin rAdd2 (fC (.int 1)) (fFn M__law_any (aCons (fVar 0) (aCons (fVar 2) aNil)))) (gNm 13))
  (sDrop (fAppend (fVar 12) (aCons (fTup (aCons (fBin rAdd2 (fBin rIx2 (fVar 1) (fC (.int 0))) (fBin rMul2 (fVar 13) (fBin rIx2 (fBin rIx2 (fVar 4) (fVar 11)) (fC (.int 0))))) (aCons (fBin rAdd2 (fBin rIx2 (fVar 1) (fC (.int 1))) (fBin rMul2 (fVar 13) (fBin rIx2 (fBin rIx2 (fVar 4) (fVar 11)) (fC (.int 1))))) aNil))) aNil)))))
  (sRet (fCall rTup1 (aCons (fVar 12) aNil)))))))))
def M__law_star : WF := mir 14 4 B__law_star
def B__law_wave : WS := (sSeq (sAsg (fLcV (iRange2 (aCons (fC (.int 1)) (aCons (fVar 1) aNil))) (gNm 3) tTrue (fTup (aCons (fBin rMul2 (fC (.int 20)) (fVar 3)) (aCons (fBin rSub2 (fUn (fun i => .int (-i)) (fC (.int 20))) (fFn M__law_any (aCons (fVar 0) (aCons (fC (.int 20)) aNil)))) aNil))) [3]) (gNm 2))
  (sSeq (sAsg (fLcV (iRange2 (aCons (fC (.int 1)) (aCons (fVar 1) aNil))) (gNm 3) tTrue (fTup (aCons (fBin rMul2 (fC (.int 20)) (fVar 3)) (aCons (fBin rAdd2 (fC (.int 20)) (fFn M__law_any (aCons (fVar 0) (aCons (fC (.int 20)) aNil)))) aNil))) [3]) (gNm 4))
  (sRet (fCall rTup1 (aCons (fBin rAdd2 (fBin rAdd2 (fBin rAdd2 (fLst (aCons (fTup (aCons (fC (.int 0)) (aCons (fC (.int 0)) aNil))) aNil)) (fVar 2)) (fLst (aCons (fTup (aCons (fBin rMul2 (fC (.int 20)) (fVar 1)) (aCons (fC (.int 0)) aNil))) aNil))) (fRev (fVar 4))) aNil)))))
def M__law_wave : WF := mir 5 2 B__law_wave
def B__law_more : WS := (sSeq (sAsg (fLoc aNil) (gNm 2))
  (sSeq (sFor (iRange1 (aCons (fCall rLen (aCons (fVar 1) aNil)) aNil)) (gNm 3) (sSeq (sPar 4 5 (aCons (fBin rIx2 (fVar 1) (fBin rSub2 (fVar 3) (fC (.int 1)))) (aCons (fBin rIx2 (fVar 1) (fVar 3)) aNil)))
  (sSeq (sIf (tAnd2 (tVal (fBin rEq2 (fBin rMod2 (fCall rInt1 (aCons (fBin rAdd2 (fBin rIx2 (fVar 4) (fC (.int 0))) (fBin rIx2 (fVar 5) (fC (.int 0)))) aNil)) (fC (.int 2))) (fC (.int 0)))) (tAnd2 (tVal (fBin rEq2 (fBin rMod2 (fCall rInt1 (aCons (fBin rAdd2 (fBin rIx2 (fVar 4) (fC (.int 1))) (fBin rIx2 (fVar 5) (fC (.int 1)))) aNil)) (fC (.int 2))) (fC (.int 0)))) (tVal (fBin rEq2 (fFn M__law_any (aCons (fVar 0) (aCons (fC (.int 5)) aNil))) (fC (.int 0)))))) (sDrop (fAppend (fVar 2) (aCons (fTup (aCons (fBin rDiv2 (fBin rAdd2 (fBin rIx2 (fVar 4) (fC (.int 0))) (fBin rIx2 (fVar 5) (fC (.int 0)))) (fC (.int 2))) (aCons (fBin rDiv2 (fBin rAdd2 (fBin rIx2 (fVar 4) (fC (.int 1))) (fBin rIx2 (fVar 5) (fC (.int 1)))) (fC (.int 2))) aNil))) aNil))) sNext)
  (sDrop (fAppend (fVar 2) (aCons (fVar 5) aNil))))))
  (sSeq (sAsg (fFn M__law_any (aCons (fVar 0) (aCons (fCall rLen (aCons (fVar 2) aNil)) aNil))) (gNm 3))
  (sRet (fCall rTup1 (aCons (fBin rAdd2 (fSlP (fVar 2) (oSome (fVar 3)) oNone) (fSlP (fVar 2) oNone (oSome (fVar 3)))) aNil))))))
def M__law_more : WF := mir 6 2 B__law_more
def B__law_meet : WS := (sSeq (sAsg (fTup (aCons (fBin rSub2 (fBin rIx2 (fVar 1) (fC (.int 0))) (fBin rIx2 (fVar 0) (fC (.int 0)))) (aCons (fBin rSub2 (fBin rIx2 (fVar 1) (fC (.int 1))) (fBin rIx2 (fVar 0) (fC (.int 1)))) (aCons (fBin rSub2 (fBin rIx2 (fVar 3) (fC (.int 0))) (fBin rIx2 (fVar 2) (fC (.int 0)))) (aCons (fBin rSub2 (fBin rIx2 (fVar 3) (fC (.int 1))) (fBin rIx2 (fVar 2) (fC (.int 1)))) aNil))))) (gTp 4 (gsCons (gNm 4) (gsCons (gNm 5) (gsCons (gNm 6) (gsCons (gNm 7) gsNil))))))
  (sSeq (sAsg (fBin rSub2 (fBin rMul2 (fVar 4) (fVar 7)) (fBin rMul2 (fVar 5) (fVar 6))) (gNm 8))
  (sSeq (sAsg (fBin rSub2 (fBin rMul2 (fBin rSub2 (fBin rIx2 (fVar 2) (fC (.int 0))) (fBin rIx2 (fVar 0) (fC (.int 0)))) (fVar 7)) (fBin rMul2 (fBin rSub2 (fBin rIx2 (fVar 2) (fC (.int 1))) (fBin rIx2 (fVar 0) (fC (.int 1)))) (fVar 6))) (gNm 9))
  (sSeq (sAsg (fBin rSub2 (fBin rMul2 (fBin rSub2 (fBin rIx2 (fVar 2) (fC (.int 0))) (fBin rIx2 (fVar 0) (fC (.int 0)))) (fVar 5)) (fBin rMul2 (fBin rSub2 (fBin rIx2 (fVar 2) (fC (.int 1))) (fBin rIx2 (fVar 0) (fC (.int 1)))) (fVar 4))) (gNm 10))
  (sSeq (sIf (tVal (fBin rNe2 (fVar 8) (fC (.int 0)))) (sRet (fAnd (fFn M__law_is_within (aCons (fVar 9) (aCons (fVar 8) aNil))) (fFn M__law_is_within (aCons (fVar 10) (aCons (fVar 8) aNil))))) sNext)
  (sSeq (sIf (tVal (fBin rNe2 (fVar 10) (fC (.int 0)))) (sRet (fC (.bool false))) sNext)
  (sSeq (sFor (iRange1 (aCons (fC (.int 2)) aNil)) (gNm 11) (sIf (tOr2 (tVal (fBin (rCmp2 fun i j => decide (i < j)) (fCall rMax2 (aCons (fBin rIx2 (fVar 0) (fVar 11)) (aCons (fBin rIx2 (fVar 1) (fVar 11)) aNil))) (fCall rMin2 (aCons (fBin rIx2 (fVar 2) (fVar 11)) (aCons (fBin rIx2 (fVar 3) (fVar 11)) aNil))))) (tVal (fBin (rCmp2 fun i j => decide (i < j)) (fCall rMax2 (aCons (fBin rIx2 (fVar 2) (fVar 11)) (aCons (fBin rIx2 (fVar 3) (fVar 11)) aNil))) (fCall rMin2 (aCons (fBin rIx2 (fVar 0) (fVar 11)) (aCons (fBin rIx2 (fVar 1) (fVar 11)) aNil)))))) (sRet (fC (.bool false))) sNext))
  (sRet (fC (.bool true))))))))))
def M__law_meet : WF := mir 12 4 B__law_meet
def B__law_corner_fault : WS := (sSeq (sFor (iRange1 (aCons (fCall rLen (aCons (fVar 0) aNil)) aNil)) (gNm 1) (sSeq (sAsg (fBin rIx2 (fVar 0) (fVar 1)) (gNm 2))
  (sSeq (sIf (tOr2 (tNot2 (tVal (fIsi "tuple" (fVar 2)))) (tOr2 (tVal (fBin rNe2 (fCall rLen (aCons (fVar 2) aNil)) (fC (.int 2)))) (tOr2 (tNot2 (tVal (fFn M__law_is_int (aCons (fBin rIx2 (fVar 2) (fC (.int 0))) aNil)))) (tNot2 (tVal (fFn M__law_is_int (aCons (fBin rIx2 (fVar 2) (fC (.int 1))) aNil))))))) (sRet (fVar 1)) sNext)
  (sIf (tOr2 (tVal (fBin (rCmp2 fun i j => decide (j < i)) (fCall rMax2 (aCons (fCall rAbs (aCons (fBin rIx2 (fVar 2) (fC (.int 0))) aNil)) (aCons (fCall rAbs (aCons (fBin rIx2 (fVar 2) (fC (.int 1))) aNil)) aNil))) (fC (.int 1000)))) (tVal (fBin rInT2 (fVar 2) (fSl (fVar 0) oNone (oSome (fVar 1)))))) (sRet (fVar 1)) sNext))))
  (sRet (fC .none)))
def M__law_corner_fault : WF := mir 3 1 B__law_corner_fault
def B_whole_crosses : WS := (sRet (fAnd (fBin (rCmp2 fun i j => decide (i < j)) (fBin rMul2 (fFn M_whole_turn (aCons (fVar 0) (aCons (fVar 1) (aCons (fVar 2) aNil)))) (fFn M_whole_turn (aCons (fVar 0) (aCons (fVar 1) (aCons (fVar 3) aNil))))) (fC (.int 0))) (fBin (rCmp2 fun i j => decide (i < j)) (fBin rMul2 (fFn M_whole_turn (aCons (fVar 2) (aCons (fVar 3) (aCons (fVar 0) aNil)))) (fFn M_whole_turn (aCons (fVar 2) (aCons (fVar 3) (aCons (fVar 1) aNil))))) (fC (.int 0)))))
def M_whole_crosses : WF := mir 4 4 B_whole_crosses
def B_is_corner : WS := (sRet (fAnd (fFn M_are_ints (aCons (fVar 0) (aCons (fC (.int 2)) aNil))) (fAnd (fBin (rCmp2 fun i j => decide (i ≤ j)) (fCall rMaxT (aCons (fVar 0) aNil)) (fC (.int 1000))) (fBin (rCmp2 fun i j => decide (j ≤ i)) (fCall rMinT (aCons (fVar 0) aNil)) (fUn (fun i => .int (-i)) (fC (.int 1000)))))))
def M_is_corner : WF := mir 1 1 B_is_corner
def B__law_map : WS := (sSeq (sAsg (fLst (aCons (fTup (aCons (fC (.int 1)) (aCons (fC (.int 0)) (aCons (fC (.int 0)) (aCons (fC (.int 1)) aNil))))) (aCons (fTup (aCons (fC (.int 1)) (aCons (fC (.int 1)) (aCons (fC (.int 0)) (aCons (fC (.int 1)) aNil))))) (aCons (fTup (aCons (fC (.int 1)) (aCons (fC (.int 0)) (aCons (fC (.int 1)) (aCons (fC (.int 1)) aNil))))) (aCons (fTup (aCons (fC (.int 0)) (aCons (fUn (fun i => .int (-i)) (fC (.int 1))) (aCons (fC (.int 1)) (aCons (fC (.int 0)) aNil))))) (aCons (fTup (aCons (fUn (fun i => .int (-i)) (fC (.int 1))) (aCons (fC (.int 0)) (aCons (fC (.int 0)) (aCons (fUn (fun i => .int (-i)) (fC (.int 1))) aNil))))) (aCons (fTup (aCons (fC (.int 2)) (aCons (fC (.int 1)) (aCons (fC (.int 1)) (aCons (fC (.int 1)) aNil))))) (aCons (fTup (aCons (fC (.int 0)) (aCons (fC (.int 1)) (aCons (fC (.int 1)) (aCons (fC (.int 0)) aNil))))) (aCons (fTup (aCons (fC (.int 1)) (aCons (fC (.int 0)) (aCons (fC (.int 0)) (aCons (fUn (fun i => .int (-i)) (fC (.int 1))) aNil))))) aNil))))))))) (gNm 1))
  (sRet (fBin rAdd2 (fFn M__law_of (aCons (fVar 0) (aCons (fVar 1) aNil))) (fTup (aCons (fBin rSub2 (fFn M__law_any (aCons (fVar 0) (aCons (fC (.int 101)) aNil))) (fC (.int 50))) (aCons (fBin rSub2 (fFn M__law_any (aCons (fVar 0) (aCons (fC (.int 101)) aNil))) (fC (.int 50))) aNil))))))
def M__law_map : WF := mir 2 1 B__law_map
def B__law_ring_fault : WS := (sSeq (sIf (tOr2 (tNot2 (tVal (fIsi "tuple" (fVar 0)))) (tVal (fBin (rCmp2 fun i j => decide (i < j)) (fCall rLen (aCons (fVar 0) aNil)) (fC (.int 3))))) (sRet (fUn (fun i => .int (-i)) (fC (.int 1)))) sNext)
  (sSeq (sPar 1 2 (aCons (fFn M__law_corner_fault (aCons (fVar 0) aNil)) (aCons (fCall rLen (aCons (fVar 0) aNil)) aNil)))
  (sSeq (sIf (tVal (fBin rNotN2 (fVar 1) (fC .none))) (sRet (fVar 1)) sNext)
  (sSeq (sFor (iRange1 (aCons (fVar 2) aNil)) (gNm 1) (sSeq (sPar3 3 4 5 (aCons (fBin rIx2 (fVar 0) (fBin rSub2 (fVar 1) (fC (.int 2)))) (aCons (fBin rIx2 (fVar 0) (fBin rSub2 (fVar 1) (fC (.int 1)))) (aCons (fBin rIx2 (fVar 0) (fVar 1)) aNil))))
  (sSeq (sIf (tAnd2 (tVal (fBin rEq2 (fFn M__law_cross (aCons (fVar 3) (aCons (fVar 4) (aCons (fVar 5) aNil)))) (fC (.int 0)))) (tVal (fBin (rCmp2 fun i j => decide (i < j)) (fBin rAdd2 (fBin rMul2 (fBin rSub2 (fBin rIx2 (fVar 4) (fC (.int 0))) (fBin rIx2 (fVar 3) (fC (.int 0)))) (fBin rSub2 (fBin rIx2 (fVar 5) (fC (.int 0))) (fBin rIx2 (fVar 4) (fC (.int 0))))) (fBin rMul2 (fBin rSub2 (fBin rIx2 (fVar 4) (fC (.int 1))) (fBin rIx2 (fVar 3) (fC (.int 1)))) (fBin rSub2 (fBin rIx2 (fVar 5) (fC (.int 1))) (fBin rIx2 (fVar 4) (fC (.int 1)))))) (fC (.int 0))))) (sRet (fVar 2)) sNext)
  (sFor (iRange1 (aCons (fVar 1) aNil)) (gNm 6) (sIf (tAnd2 (tVal (fChain (rCmp2 fun i j => decide (i < j)) (rCmp2 fun i j => decide (i < j)) (fC (.int 1)) (fBin rSub2 (fVar 1) (fVar 6)) (fBin rSub2 (fVar 2) (fC (.int 1))))) (tVal (fFn M__law_meet (aCons (fBin rIx2 (fVar 0) (fBin rSub2 (fVar 6) (fC (.int 1)))) (aCons (fBin rIx2 (fVar 0) (fVar 6)) (aCons (fBin rIx2 (fVar 0) (fBin rSub2 (fVar 1) (fC (.int 1)))) (aCons (fBin rIx2 (fVar 0) (fVar 1)) aNil))))))) (sRet (fVar 2)) sNext)))))
  (sRet (fC .none))))))
def M__law_ring_fault : WF := mir 7 1 B__law_ring_fault
def B__law_bent : WS := (sSeq (sPar 2 3 (aCons (fFn M__law_any (aCons (fVar 0) (aCons (fCall rLen (aCons (fVar 1) aNil)) aNil))) (aCons (fFn M__law_any (aCons (fVar 0) (aCons (fCall rLen (aCons (fVar 1) aNil)) aNil))) aNil)))
  (sSeq (sPar 4 5 (aCons (fBin rIx2 (fVar 1) (fBin rSub2 (fVar 3) (fC (.int 1)))) (aCons (fBin rIx2 (fVar 1) (fVar 3)) aNil)))
  (sSeq (sAsg (fFn M__law_of (aCons (fVar 0) (aCons (fLst (aCons (fTup (aCons (fBin rDiv2 (fBin rAdd2 (fBin rIx2 (fVar 4) (fC (.int 0))) (fBin rIx2 (fVar 5) (fC (.int 0)))) (fC (.int 2))) (aCons (fBin rDiv2 (fBin rAdd2 (fBin rIx2 (fVar 4) (fC (.int 1))) (fBin rIx2 (fVar 5) (fC (.int 1)))) (fC (.int 2))) aNil))) (aCons (fTup (aCons (fBin rSub2 (fBin rMul2 (fC (.int 2)) (fBin rIx2 (fVar 5) (fC (.int 0)))) (fBin rIx2 (fVar 4) (fC (.int 0)))) (aCons (fBin rSub2 (fBin rMul2 (fC (.int 2)) (fBin rIx2 (fVar 5) (fC (.int 1)))) (fBin rIx2 (fVar 4) (fC (.int 1)))) aNil))) (aCons (fVar 5) aNil)))) aNil))) (gNm 6))
  (sSeq (sAsg (fFn M__law_of (aCons (fVar 0) (aCons (fLst (aCons (fC .none) (aCons (fC (.int 3)) (aCons (fTup (aCons (fC (.int 1)) aNil)) (aCons (fLst (aCons (fC (.int 1)) (aCons (fC (.int 2)) aNil))) (aCons (fTup (aCons (fC (.int 1)) (aCons (fC (.int 2)) (aCons (fC (.int 3)) aNil)))) (aCons (fTup (aCons (fC (.bool true)) (aCons (fC (.int 0)) aNil))) (aCons (fTup (aCons (fC (.int 0)) (aCons (fC (.str "1")) aNil))) (aCons (fTup (aCons (fC (.int 1001)) (aCons (fC (.int 0)) aNil))) (aCons (fTup (aCons (fC (.int 0)) (aCons (fUn (fun i => .int (-i)) (fC (.int 1001))) aNil))) (aCons (fTup (aCons (fC (.int 1000)) (aCons (fUn (fun i => .int (-i)) (fC (.int 1000))) aNil))) (aCons (fC (.str "ab")) aNil)))))))))))) aNil))) (gNm 7))
  (sSeq (sAsg (fLst (aCons (fBin rAdd2 (fBin rAdd2 (fSl (fVar 1) oNone (oSome (fVar 2))) (fTup (aCons (fVar 6) aNil))) (fSl (fVar 1) (oSome (fBin rAdd2 (fVar 2) (fC (.int 1)))) oNone)) (aCons (fBin rAdd2 (fBin rAdd2 (fSl (fVar 1) oNone (oSome (fVar 2))) (fTup (aCons (fVar 6) aNil))) (fSl (fVar 1) (oSome (fVar 2)) oNone)) (aCons (fBin rAdd2 (fSl (fVar 1) oNone (oSome (fVar 2))) (fSl (fVar 1) (oSome (fBin rAdd2 (fVar 2) (fC (.int 1)))) oNone)) aNil)))) (gNm 8))
  (sSeq (sAsg (fBin rAdd2 (fVar 8) (fLst (aCons (fIf (tVal (fBin (rCmp2 fun i j => decide (i < j)) (fVar 2) (fVar 3))) (fBin rAdd2 (fBin rAdd2 (fBin rAdd2 (fBin rAdd2 (fSl (fVar 1) oNone (oSome (fVar 2))) (fTup (aCons (fBin rIx2 (fVar 1) (fVar 3)) aNil))) (fSl (fVar 1) (oSome (fBin rAdd2 (fVar 2) (fC (.int 1)))) (oSome (fVar 3)))) (fTup (aCons (fBin rIx2 (fVar 1) (fVar 2)) aNil))) (fSl (fVar 1) (oSome (fBin rAdd2 (fVar 3) (fC (.int 1)))) oNone)) (fSlT (-1) (fVar 1) oNone oNone)) aNil))) (gNm 8))
  (sSeq (sAsg (fBin rAdd2 (fVar 8) (fLst (aCons (fBin rAdd2 (fBin rAdd2 (fSl (fVar 1) oNone (oSome (fVar 2))) (fTup (aCons (fVar 7) aNil))) (fSl (fVar 1) (oSome (fBin rAdd2 (fVar 2) (fC (.int 1)))) oNone)) (aCons (fCall rList1 (aCons (fVar 1) aNil)) (aCons (fSl (fVar 1) oNone (oSome (fC (.int 2)))) (aCons (fTup aNil) (aCons (fC .none) (aCons (fC (.str "ring")) (aCons (fTup (aCons (fVar 1) aNil)) aNil))))))))) (gNm 8))
  (sRet (fFn M__law_of (aCons (fVar 0) (aCons (fBin rAdd2 (fBin rAdd2 (fSl (fVar 8) oNone (oSome (fC (.int 5)))) (fSl (fVar 8) oNone (oSome (fC (.int 4))))) (fVar 8)) aNil)))))))))))
def M__law_bent : WF := mir 9 2 B__law_bent
def B__meet : WS := (sSeq (sIf (tVal (fFn M__apart (aCons (fVar 0) (aCons (fVar 1) aNil)))) (sRet (fC (.bool false))) sNext)
  (sSeq (sAsg (fTup (aCons (fVar 0) (aCons (fVar 1) aNil))) (gTp 2 (gsCons (gTp 2 (gsCons (gNm 2) (gsCons (gNm 3) gsNil))) (gsCons (gTp 2 (gsCons (gNm 4) (gsCons (gNm 5) gsNil))) gsNil))))
  (sRet (fOr (fFn M_whole_crosses (aCons (fVar 2) (aCons (fVar 3) (aCons (fVar 4) (aCons (fVar 5) aNil))))) (fOr (fFn M_whole_on (aCons (fVar 2) (aCons (fVar 3) (aCons (fVar 4) aNil)))) (fOr (fFn M_whole_on (aCons (fVar 2) (aCons (fVar 3) (aCons (fVar 5) aNil)))) (fOr (fFn M_whole_on (aCons (fVar 4) (aCons (fVar 5) (aCons (fVar 2) aNil)))) (fFn M_whole_on (aCons (fVar 4) (aCons (fVar 5) (aCons (fVar 3) aNil)))))))))))
def M__meet : WF := mir 6 2 B__meet
def B__law_ring : WS := (sSeq (sAsg (fIf (tVal (fBin rEq2 (fFn M__law_any (aCons (fVar 0) (aCons (fC (.int 2)) aNil))) (fC (.int 0)))) (fFn M__law_star (aCons (fVar 0) (aCons (fTup (aCons (fC (.int 0)) (aCons (fC (.int 0)) aNil))) (aCons (fC (.int 9)) (aCons (fC (.int 3)) aNil))))) (fFn M__law_wave (aCons (fVar 0) (aCons (fBin rAdd2 (fC (.int 2)) (fFn M__law_any (aCons (fVar 0) (aCons (fC (.int 3)) aNil)))) aNil)))) (gNm 1))
  (sRet (fFn M__law_more (aCons (fVar 0) (aCons (fFn M__law_put (aCons (fVar 1) (aCons (fFn M__law_map (aCons (fVar 0) aNil)) aNil))) aNil)))))
def M__law_ring : WF := mir 2 1 B__law_ring
def B_meets_itself : WS := (sSeq (sAsg (fFn M_sides_along (aCons (fVar 0) aNil)) (gNm 1))
  (sSeq (sAsg (fCall rLen (aCons (fVar 1) aNil)) (gNm 2))
  (sSeq (sFor (iEnum1 (aCons (fVar 1) aNil)) (gTp 2 (gsCons (gNm 3) (gsCons (gTp 2 (gsCons (gNm 4) (gsCons (gNm 5) gsNil))) gsNil))) (sSeq (sIf (tVal (fFn M_turns_back (aCons (fVar 4) (aCons (fVar 5) (aCons (fBin rIx2 (fBin rIx2 (fVar 1) (fBin rMod2 (fBin rAdd2 (fVar 3) (fC (.int 1))) (fVar 2))) (fC (.int 1))) aNil))))) (sRet (fC (.bool true))) sNext)
  (sFor (iSeq (fSl (fVar 1) (oSome (fBin rAdd2 (fVar 3) (fC (.int 2)))) (oSome (fBin rSubB2 (fVar 2) (fBin rEq2 (fVar 3) (fC (.int 0))))))) (gNm 6) (sIf (tVal (fFn M__meet (aCons (fTup (aCons (fVar 4) (aCons (fVar 5) aNil))) (aCons (fVar 6) aNil)))) (sRet (fC (.bool true))) sNext))))
  (sRet (fC (.bool false))))))
def M_meets_itself : WF := mir 7 1 B_meets_itself
def B_need_ring : WS := (sSeq (sIf (tNot2 (tAnd2 (tVal (fIsi "tuple" (fVar 0))) (tVal (fBin (rCmp2 fun i j => decide (j ≤ i)) (fCall rLen (aCons (fVar 0) aNil)) (fC (.int 3)))))) (sRaise "InvalidRing" "at" (aCons (fUn (fun i => .int (-i)) (fC (.int 1))) aNil)) sNext)
  (sSeq (sAsg fDct (gNm 1))
  (sSeq (sFor (iEnum1 (aCons (fVar 0) aNil)) (gTp 2 (gsCons (gNm 2) (gsCons (gNm 3) gsNil))) (sSeq (sIf (tOr2 (tNot2 (tVal (fFn M_is_corner (aCons (fVar 3) aNil)))) (tVal (fBin rInK (fVar 3) (fVar 1)))) (sRaise "InvalidRing" "at" (aCons (fVar 2) aNil)) sNext)
  (sPut (fC (.bool true)) (fVar 1) (fVar 3))))
  (sIf (tVal (fFn M_meets_itself (aCons (fVar 0) aNil))) (sRaise "InvalidRing" "at" (aCons (fCall rLen (aCons (fVar 0) aNil)) aNil)) sNext))))
def M_need_ring : WF := mir 4 1 B_need_ring
def B_is_ring : WS := (sSeq (sTryO (only "InvalidRing") (sDrop (fFn M_need_ring (aCons (fVar 0) aNil))) (sRet (fC (.bool false))))
  (sRet (fC (.bool true))))
def M_is_ring : WF := mir 1 1 B_is_ring
def B__law_heard : WS := (sTry 1 (only "InvalidRing") (sRet (fIf (tVal (fBin rIsN2 (fFn M_need_ring (aCons (fVar 0) aNil)) (fC .none))) (fLst aNil) (fLst (aCons (fC (.str "told")) aNil)))) (fun x => sRet (fIf (tVal (xIsi "InvalidRing" true x)) (fLst (aCons (xFld "InvalidRing" "at" x) aNil)) (fun ρ h Q _ => (fLst (aCons (fC (.str "other")) aNil)) ρ h Q noX))))
def M__law_heard : WF := mir 2 1 B__law_heard
def B_law : WS := (sSeq (sAsg (fFn M__law_deal (aCons (fVar 0) (aCons (fC (.int 9)) aNil))) (gNm 1))
  (sSeq (sFor (iRange1 (aCons (fC (.int 3)) aNil)) (gNm 2) (sSeq (sAsg (fFn M__law_ring (aCons (fVar 1) aNil)) (gNm 3))
  (sSeq (sIf (tOr2 (tVal (fBin rNotB2 (fFn M_is_ring (aCons (fVar 3) aNil)) (fC (.bool true)))) (tOr2 (tVal (fBin rNe2 (fFn M__law_heard (aCons (fVar 3) aNil)) (fLst aNil))) (tVal (fBin rNotB2 (fFnK [0] 1 M_is_ring (aCons (fSlT (-1) (fVar 3) oNone oNone) aNil)) (fC (.bool true)))))) (sRet (fC (.bool false))) sNext)
  (sSeq (sAsg (fCall rTup1 (aCons (fLcV (iRange1 (aCons (fCall rLen (aCons (fVar 3) aNil)) aNil)) (gNm 5) tTrue (fTup (aCons (fBin rIx2 (fVar 3) (fVar 5)) (aCons (fBin rIx2 (fVar 3) (fBin rMod2 (fCall rInt1 (aCons (fBin rAdd2 (fVar 5) (fC (.int 1))) aNil)) (fCall rLen (aCons (fVar 3) aNil)))) aNil))) [5]) aNil)) (gNm 4))
  (sSeq (sIf (tOr2 (tVal (fBin rNe2 (fCall rRepr (aCons (fFn M_ring_sides (aCons (fVar 3) aNil)) aNil)) (fCall rRepr (aCons (fVar 4) aNil)))) (tVal (fBin rNe2 (fFnK [0] 1 M_ring_sides (aCons (fVar 3) aNil)) (fVar 4)))) (sRet (fC (.bool false))) sNext)
  (sSeq (sAsg (fCall rTup1 (aCons (fLcV (iRange1 (aCons (fBin rAdd2 (fC (.int 3)) (fFn M__law_any (aCons (fVar 1) (aCons (fC (.int 4)) aNil)))) aNil)) (gNm 7) tTrue (fTup (aCons (fFn M__law_any (aCons (fVar 1) (aCons (fC (.int 5)) aNil))) (aCons (fFn M__law_any (aCons (fVar 1) (aCons (fC (.int 5)) aNil))) aNil))) [7]) aNil)) (gNm 6))
  (sFor (iSeq (fLst (aCons (fFn M__law_bent (aCons (fVar 1) (aCons (fVar 3) aNil))) (aCons (fFn M__law_bent (aCons (fVar 1) (aCons (fVar 3) aNil))) (aCons (fVar 6) aNil))))) (gNm 8) (sSeq (sAsg (fFn M__law_ring_fault (aCons (fVar 8) aNil)) (gNm 5))
  (sIf (tOr2 (tVal (fBin rNe2 (fCall rRepr (aCons (fFn M__law_heard (aCons (fVar 8) aNil)) aNil)) (fCall rRepr (aCons (fIf (tVal (fBin rIsN2 (fVar 5) (fC .none))) (fLst aNil) (fLst (aCons (fVar 5) aNil))) aNil)))) (tVal (fBin rNe2 (fCall rRepr (aCons (fFn M_is_ring (aCons (fVar 8) aNil)) aNil)) (fCall rRepr (aCons (fBin rIsN2 (fVar 5) (fC .none)) aNil))))) (sRet (fC (.bool false))) sNext)))))))))
  (sSeq (sFor (iSeq (fLst (aCons (fFn M__law_of (aCons (fVar 1) (aCons (fLst (aCons (fTup (aCons (fC (.int 1000)) (aCons (fUn (fun i => .int (-i)) (fC (.int 1000))) aNil))) (aCons (fTup (aCons (fC (.int 0)) (aCons (fC (.int 0)) aNil))) aNil))) aNil))) (aCons (fFn M__law_of (aCons (fVar 1) (aCons (fLst (aCons (fTup (aCons (fC (.int 0)) (aCons (fC (.int 1001)) aNil))) (aCons (fLst (aCons (fC (.int 0)) (aCons (fC (.int 0)) aNil))) (aCons (fTup (aCons (fC (.int 0)) aNil)) (aCons (fC .none) (aCons (fTup (aCons (fC (.bool false)) (aCons (fC (.int 0)) aNil))) (aCons (fTup (aCons (fC (.int 0)) (aCons (fC (.int 0)) (aCons (fC (.int 0)) aNil)))) aNil))))))) aNil))) aNil)))) (gNm 8) (sIf (tVal (fBin rNe2 (fCall rRepr (aCons (fFnK [0] 1 M_is_corner (aCons (fVar 8) aNil)) aNil)) (fCall rRepr (aCons (fBin rIsN2 (fFn M__law_corner_fault (aCons (fTup (aCons (fVar 8) aNil)) aNil)) (fC .none)) aNil)))) (sRet (fC (.bool false))) sNext))
  (sSeq (sTry 9 (only "InvalidRing") (sDrop (fFnK [0] 1 M_need_ring (aCons (fTup (aCons (fTup (aCons (fC (.int 0)) (aCons (fC (.int 0)) aNil))) (aCons (fTup (aCons (fC (.int 2)) (aCons (fC (.int 0)) aNil))) aNil))) aNil))) (fun x => sRet (fBin rEq2 (xFld "InvalidRing" "at" x) (fun ρ h Q _ => (fUn (fun i => .int (-i)) (fC (.int 1))) ρ h Q noX))))
  (sRet (fC (.bool false)))))))
def M_law : WF := mir 10 1 B_law
end LW
set_option linter.all false
set_option maxHeartbeats 4000000
/-! Two segments with ends of whole numbers: whether they have a point in common, by parts of their lines and by areas. -/
namespace RG
/-- a number between 0 and another one -/
def W (n w : Int) : Prop := 0 ≤ n * (w - n)
theorem mul_pos2 {a b : Int} (ha : 0 < a) (hb : 0 < b) : 0 < a * b := Int.mul_pos ha hb
theorem sq_pos {a : Int} (h : a ≠ 0) : 0 < a * a := by
  rcases Int.lt_or_gt_of_ne h with c | c
  · exact Int.mul_pos_of_neg_of_neg c c
  · exact Int.mul_pos c c
theorem W_iff {n w : Int} : W n w ↔ (0 ≤ n ∧ n ≤ w) ∨ (w ≤ n ∧ n ≤ 0) := by
  unfold W
  constructor
  · intro h
    by_cases c : 0 ≤ n
    · by_cases c2 : n ≤ w
      · exact .inl ⟨c, c2⟩
      · by_cases c3 : n = 0
        · exact .inr ⟨by omega, by omega⟩
        · have := Int.mul_neg_of_pos_of_neg (show 0 < n by omega) (show w - n < 0 by omega)
          omega
    · by_cases c2 : w ≤ n
      · exact .inr ⟨c2, by omega⟩
      · have := Int.mul_neg_of_neg_of_pos (show n < 0 by omega) (show 0 < w - n by omega)
        omega
  · rintro (h | h)
    · exact Int.mul_nonneg h.1 (by omega)
    · exact Int.mul_nonneg_of_nonpos_of_nonpos h.2 (by omega)
theorem scale_sign {k m A B : Int} (hk : 0 < k) (hm : 0 < m) (e : k * A = m * B) : 0 ≤ A ↔ 0 ≤ B := by
  constructor
  · intro h
    have := Int.mul_nonneg (Int.le_of_lt hk) h
    rw [e] at this
    by_cases c : 0 ≤ B
    · exact c
    · have := Int.mul_neg_of_pos_of_neg hm (show B < 0 by omega)
      omega
  · intro h
    have := Int.mul_nonneg (Int.le_of_lt hm) h
    rw [← e] at this
    by_cases c : 0 ≤ A
    · exact c
    · have := Int.mul_neg_of_pos_of_neg hk (show A < 0 by omega)
      omega
theorem W_scale {s x p r : Int} (hs : s ≠ 0) (hr : r ≠ 0) (e : s * x = p * r) : W x r ↔ W p s := by
  unfold W
  refine scale_sign (k := s * s) (m := r * r) (sq_pos hs) (sq_pos hr) ?_
  have e1 : s * s * (x * (r - x)) = (s * x) * (s * r) - (s * x) * (s * x) := by grind
  rw [e1, e]
  grind
theorem W_scale' {s x p r : Int} (hs : s ≠ 0) (e : s * x = p * r) (h : W p s) : W x r := by
  by_cases hr : r = 0
  · subst hr
    have : x = 0 := by
      rw [Int.mul_zero] at e
      rcases Int.mul_eq_zero.1 e with c | c
      · exact absurd c hs
      · exact c
    subst this
    exact Int.le_refl _
  · exact (W_scale hs hr e).2 h
/-- weights of four numbers above 0 -/
theorem no_gap {s p o x r f : Int} (hs : s ≠ 0) (hp : W p s) (ho : W o s) (e : s * x = p * r - o * f) : ¬ (0 < x ∧ 0 < x - r ∧ 0 < x + f ∧ 0 < x + f - r) := by
  rintro ⟨h1, h2, h3, h4⟩
  have key : (s - p) * (s - o) * x + p * (s - o) * (x - r) + (s - p) * o * (x + f) + p * o * (x + f - r) = 0 := by
    have : (s - p) * (s - o) * x + p * (s - o) * (x - r) + (s - p) * o * (x + f) + p * o * (x + f - r) = s * (s * x - p * r + o * f) := by grind
    rw [this, e]
    grind
  have sum : (s - p) * (s - o) + p * (s - o) + (s - p) * o + p * o = s * s := by grind
  have sp := sq_pos hs
  have w : 0 ≤ (s - p) * (s - o) ∧ 0 ≤ p * (s - o) ∧ 0 ≤ (s - p) * o ∧ 0 ≤ p * o := by
    rcases W_iff.1 hp with a | a <;> rcases W_iff.1 ho with b | b
    · exact ⟨Int.mul_nonneg (by omega) (by omega), Int.mul_nonneg (by omega) (by omega), Int.mul_nonneg (by omega) (by omega), Int.mul_nonneg (by omega) (by omega)⟩
    · exact absurd (by omega : s = 0) hs
    · exact absurd (by omega : s = 0) hs
    · exact ⟨Int.mul_nonneg_of_nonpos_of_nonpos (by omega) (by omega), Int.mul_nonneg_of_nonpos_of_nonpos (by omega) (by omega), Int.mul_nonneg_of_nonpos_of_nonpos (by omega) (by omega), Int.mul_nonneg_of_nonpos_of_nonpos (by omega) (by omega)⟩
  generalize (s - p) * (s - o) = w1 at *
  generalize p * (s - o) = w2 at *
  generalize (s - p) * o = w3 at *
  generalize p * o = w4 at *
  have a1 := Int.mul_le_mul_of_nonneg_left (show (1 : Int) ≤ x by omega) w.1
  have a2 := Int.mul_le_mul_of_nonneg_left (show (1 : Int) ≤ x - r by omega) w.2.1
  have a3 := Int.mul_le_mul_of_nonneg_left (show (1 : Int) ≤ x + f by omega) w.2.2.1
  have a4 := Int.mul_le_mul_of_nonneg_left (show (1 : Int) ≤ x + f - r by omega) w.2.2.2
  omega
abbrev Zp := Int × Int
def ar (a b c : Zp) : Int := (b.1 - a.1) * (c.2 - a.2) - (b.2 - a.2) * (c.1 - a.1)
def bx (u v x : Int) : Prop := min u v ≤ x ∧ x ≤ max u v
def On (a b p : Zp) : Prop := ar a b p = 0 ∧ bx a.1 b.1 p.1 ∧ bx a.2 b.2 p.2
def op (x y : Int) : Prop := (x < 0 ∧ 0 < y) ∨ (y < 0 ∧ 0 < x)
def Cr (a b c d : Zp) : Prop := op (ar a b c) (ar a b d) ∧ op (ar c d a) (ar c d b)
def Meet (a b c d : Zp) : Prop := Cr a b c d ∨ On a b c ∨ On a b d ∨ On c d a ∨ On c d b
def ApartX (a b c d : Zp) : Prop := max a.1 b.1 < min c.1 d.1 ∨ max c.1 d.1 < min a.1 b.1
def ApartY (a b c d : Zp) : Prop := max a.2 b.2 < min c.2 d.2 ∨ max c.2 d.2 < min a.2 b.2
def slant (a b c d : Zp) : Int := (b.1 - a.1) * (d.2 - c.2) - (b.2 - a.2) * (d.1 - c.1)
def part (a b c d : Zp) : Int := (c.1 - a.1) * (d.2 - c.2) - (c.2 - a.2) * (d.1 - c.1)
def other (a b c d : Zp) : Int := (c.1 - a.1) * (b.2 - a.2) - (c.2 - a.2) * (b.1 - a.1)
def LMeet (a b c d : Zp) : Prop :=
  (slant a b c d ≠ 0 ∧ W (part a b c d) (slant a b c d) ∧ W (other a b c d) (slant a b c d)) ∨
  (slant a b c d = 0 ∧ other a b c d = 0 ∧ ¬ ApartX a b c d ∧ ¬ ApartY a b c d)
theorem bx_W {u v x : Int} : bx u v x ↔ W (x - u) (v - u) := by
  rw [W_iff]
  unfold bx
  omega
theorem op_iff {x y : Int} : op x y ↔ x * y < 0 := by
  unfold op
  constructor
  · rintro (⟨a, b⟩ | ⟨a, b⟩)
    · exact Int.mul_neg_of_neg_of_pos a b
    · exact Int.mul_neg_of_pos_of_neg b a
  · intro h
    rcases Int.lt_trichotomy x 0 with c | c | c
    · rcases Int.lt_trichotomy y 0 with e | e | e
      · have := Int.mul_pos_of_neg_of_neg c e
        omega
      · subst e
        omega
      · exact .inl ⟨c, e⟩
    · subst c
      omega
    · rcases Int.lt_trichotomy y 0 with e | e | e
      · exact .inr ⟨e, c⟩
      · subst e
        omega
      · have := Int.mul_pos c e
        omega
section
variable {a b c d : Zp}
theorem ar1 : ar a b c = - other a b c d := by unfold ar other; grind
theorem ar2 : ar a b d = slant a b c d - other a b c d := by unfold ar other slant; grind
theorem ar3 : ar c d a = part a b c d := by unfold ar part; grind
theorem ar4 : ar c d b = part a b c d - slant a b c d := by unfold ar part slant; grind
theorem id1 : slant a b c d * (c.1 - a.1) = part a b c d * (b.1 - a.1) - other a b c d * (d.1 - c.1) := by unfold part slant other; grind
theorem id2 : slant a b c d * (c.2 - a.2) = part a b c d * (b.2 - a.2) - other a b c d * (d.2 - c.2) := by unfold part slant other; grind
theorem far_ne (h : c ≠ d) : d.1 - c.1 ≠ 0 ∨ d.2 - c.2 ≠ 0 := by
  by_cases e : d.1 - c.1 = 0
  · refine .inr fun e2 => h ?_
    exact Prod.ext (by omega) (by omega)
  · exact .inl e
/-- of what lies on a line: by the longer of both ways -/
theorem W_two {s p x y r u : Int} (hs : s ≠ 0) (hru : r ≠ 0 ∨ u ≠ 0) (e1 : s * x = p * r) (e2 : s * y = p * u) : (W x r ∧ W y u) ↔ W p s := by
  constructor
  · rintro ⟨h1, h2⟩
    rcases hru with h | h
    · exact (W_scale hs h e1).1 h1
    · exact (W_scale hs h e2).1 h2
  · intro h
    exact ⟨W_scale' hs e1 h, W_scale' hs e2 h⟩
theorem meet_slant (hab : a ≠ b) (hcd : c ≠ d) (hs : slant a b c d ≠ 0) : (W (part a b c d) (slant a b c d) ∧ W (other a b c d) (slant a b c d)) ↔ Meet a b c d := by
  have r0 := far_ne hab
  have f0 := far_ne hcd
  have i1 := id1 (a := a) (b := b) (c := c) (d := d)
  have i2 := id2 (a := a) (b := b) (c := c) (d := d)
  unfold Meet Cr On
  simp only [bx_W, op_iff]
  rw [ar1 (d := d), ar2 (c := c), ar3 (b := b), ar4 (a := a)]
  generalize slant a b c d = s at *
  generalize part a b c d = p at *
  generalize other a b c d = o at *
  have h1 : o = 0 → ((W (c.1 - a.1) (b.1 - a.1) ∧ W (c.2 - a.2) (b.2 - a.2)) ↔ W p s) := fun z => W_two hs r0 (by rw [i1, z]; grind) (by rw [i2, z]; grind)
  have h2 : o = s → ((W (d.1 - a.1) (b.1 - a.1) ∧ W (d.2 - a.2) (b.2 - a.2)) ↔ W p s) := fun z => W_two hs r0 (by grind) (by grind)
  have h3 : p = 0 → ((W (a.1 - c.1) (d.1 - c.1) ∧ W (a.2 - c.2) (d.2 - c.2)) ↔ W o s) := fun z => W_two hs f0 (by grind) (by grind)
  have h4 : p = s → ((W (b.1 - c.1) (d.1 - c.1) ∧ W (b.2 - c.2) (d.2 - c.2)) ↔ W o s) := fun z => W_two hs f0 (by grind) (by grind)
  have z0 : W 0 s := by unfold W; omega
  have zs : W s s := by unfold W; rw [Int.sub_self]; omega
  constructor
  · rintro ⟨hp, ho⟩
    by_cases c1 : o = 0
    · exact .inr (.inl ⟨by omega, (h1 c1).2 hp⟩)
    by_cases c2 : o = s
    · exact .inr (.inr (.inl ⟨by omega, (h2 c2).2 hp⟩))
    by_cases c3 : p = 0
    · exact .inr (.inr (.inr (.inl ⟨c3, (h3 c3).2 ho⟩)))
    by_cases c4 : p = s
    · exact .inr (.inr (.inr (.inr ⟨by omega, (h4 c4).2 ho⟩)))
    refine .inl ⟨?_, ?_⟩
    · have k : o * (s - o) ≠ 0 := fun z => by
        rcases Int.mul_eq_zero.1 z with z | z <;> omega
      unfold W at ho
      have : -o * (s - o) = -(o * (s - o)) := by grind
      omega
    · have k : p * (s - p) ≠ 0 := fun z => by
        rcases Int.mul_eq_zero.1 z with z | z <;> omega
      unfold W at hp
      have : p * (p - s) = -(p * (s - p)) := by grind
      omega
  · rintro (⟨x, y⟩ | ⟨e, h⟩ | ⟨e, h⟩ | ⟨e, h⟩ | ⟨e, h⟩)
    · unfold W
      have e1 : -o * (s - o) = -(o * (s - o)) := by grind
      have e2 : p * (p - s) = -(p * (s - p)) := by grind
      omega
    · have e : o = 0 := by omega
      exact ⟨(h1 e).1 h, by rw [e]; exact z0⟩
    · have e : o = s := by omega
      exact ⟨(h2 e).1 h, by rw [e]; exact zs⟩
    · exact ⟨by rw [e]; exact z0, (h3 e).1 h⟩
    · have e : p = s := by omega
      exact ⟨by rw [e]; exact zs, (h4 e).1 h⟩
theorem near_slant (hs : slant a b c d ≠ 0) (hp : W (part a b c d) (slant a b c d)) (ho : W (other a b c d) (slant a b c d)) : ¬ ApartX a b c d ∧ ¬ ApartY a b c d := by
  have i1 := id1 (a := a) (b := b) (c := c) (d := d)
  have i2 := id2 (a := a) (b := b) (c := c) (d := d)
  generalize slant a b c d = s at *
  generalize part a b c d = p at *
  generalize other a b c d = o at *
  have g : ∀ x r f : Int, s * x = p * r - o * f → ¬ (0 < x ∧ 0 < x - r ∧ 0 < x + f ∧ 0 < x + f - r) ∧ ¬ (0 < -x ∧ 0 < -x + r ∧ 0 < -x - f ∧ 0 < -x - f + r) := fun x r f e => by
    refine ⟨no_gap hs hp ho e, fun z => no_gap hs hp ho (x := -x) (r := -r) (f := -f) (by grind) ?_⟩
    omega
  have g1 := g _ _ _ i1
  have g2 := g _ _ _ i2
  unfold ApartX ApartY
  omega
theorem meet_straight (hab : a ≠ b) (hcd : c ≠ d) (hs : slant a b c d = 0) (ho : other a b c d = 0) (hx : ¬ ApartX a b c d) (hy : ¬ ApartY a b c d) : Meet a b c d := by
  have r0 := far_ne hab
  have f0 := far_ne hcd
  have i1 := id1 (a := a) (b := b) (c := c) (d := d)
  have i2 := id2 (a := a) (b := b) (c := c) (d := d)
  have hp : part a b c d = 0 := by
    rw [hs, ho] at i1 i2
    rcases r0 with h | h
    · rcases Int.mul_eq_zero.1 (show part a b c d * (b.1 - a.1) = 0 by omega) with z | z
      · exact z
      · exact absurd z h
    · rcases Int.mul_eq_zero.1 (show part a b c d * (b.2 - a.2) = 0 by omega) with z | z
      · exact z
      · exact absurd z h
  unfold Meet On
  simp only [bx_W]
  rw [ar1 (d := d), ar2 (c := c), ar3 (b := b), ar4 (a := a), hs, ho, hp]
  unfold slant at hs
  unfold other at ho
  unfold part at hp
  refine .inr ?_
  by_cases hr : b.1 - a.1 = 0
  · have hu : b.2 - a.2 ≠ 0 := r0.resolve_left fun z => z hr
    have hf : d.1 - c.1 = 0 := by
      rw [hr] at hs
      rcases Int.mul_eq_zero.1 (show (b.2 - a.2) * (d.1 - c.1) = 0 by omega) with z | z
      · exact absurd z hu
      · exact z
    have hg : d.2 - c.2 ≠ 0 := f0.resolve_left fun z => z hf
    have hx0 : c.1 - a.1 = 0 := by
      rw [hr] at ho
      rcases Int.mul_eq_zero.1 (show (c.1 - a.1) * (b.2 - a.2) = 0 by omega) with z | z
      · exact z
      · exact absurd z hu
    have t : W (c.2 - a.2) (b.2 - a.2) ∨ W (d.2 - a.2) (b.2 - a.2) ∨ W (a.2 - c.2) (d.2 - c.2) ∨ W (b.2 - c.2) (d.2 - c.2) := by
      simp only [W_iff]
      unfold ApartY at hy
      omega
    have w0 : W 0 0 := by unfold W; decide
    have e1 : c.1 - a.1 = 0 := hx0
    have e2 : d.1 - a.1 = 0 := by omega
    have e3 : a.1 - c.1 = 0 := by omega
    have e4 : b.1 - c.1 = 0 := by omega
    rw [e1, e2, e3, e4, hr, hf]
    rcases t with t | t | t | t
    · exact .inl ⟨by omega, w0, t⟩
    · exact .inr (.inl ⟨by omega, w0, t⟩)
    · exact .inr (.inr (.inl ⟨by omega, w0, t⟩))
    · exact .inr (.inr (.inr ⟨by omega, w0, t⟩))
  · have hf : d.1 - c.1 ≠ 0 := fun z => by
      rw [z] at hs
      rcases Int.mul_eq_zero.1 (show (b.1 - a.1) * (d.2 - c.2) = 0 by omega) with w | w
      · exact hr w
      · rcases f0 with h | h
        · exact h z
        · exact h w
    have t : W (c.1 - a.1) (b.1 - a.1) ∨ W (d.1 - a.1) (b.1 - a.1) ∨ W (a.1 - c.1) (d.1 - c.1) ∨ W (b.1 - c.1) (d.1 - c.1) := by
      simp only [W_iff]
      unfold ApartX at hx
      omega
    rcases t with t | t | t | t
    · exact .inl ⟨by omega, t, W_scale' hr (p := c.1 - a.1) (by grind) t⟩
    · exact .inr (.inl ⟨by omega, t, W_scale' hr (p := d.1 - a.1) (by grind) t⟩)
    · exact .inr (.inr (.inl ⟨by omega, t, W_scale' hf (p := a.1 - c.1) (by grind) t⟩))
    · exact .inr (.inr (.inr ⟨by omega, t, W_scale' hf (p := b.1 - c.1) (by grind) t⟩))
theorem meet_far (hcd : c ≠ d) (hs : slant a b c d = 0) (ho : other a b c d ≠ 0) : ¬ Meet a b c d := by
  have f0 := far_ne hcd
  have i1 := id1 (a := a) (b := b) (c := c) (d := d)
  have i2 := id2 (a := a) (b := b) (c := c) (d := d)
  have np : part a b c d ≠ 0 := fun z => by
    rw [z, hs] at i1 i2
    rcases f0 with h | h
    · rcases Int.mul_eq_zero.1 (show other a b c d * (d.1 - c.1) = 0 by omega) with w | w
      · exact ho w
      · exact h w
    · rcases Int.mul_eq_zero.1 (show other a b c d * (d.2 - c.2) = 0 by omega) with w | w
      · exact ho w
      · exact h w
  unfold Meet Cr On op
  rw [ar1 (d := d), ar2 (c := c), ar3 (b := b), ar4 (a := a), hs]
  rintro (⟨x, y⟩ | ⟨e, h⟩ | ⟨e, h⟩ | ⟨e, h⟩ | ⟨e, h⟩) <;> omega
/-- by parts of the lines just as by areas and boxes -/
theorem lmeet_iff (hab : a ≠ b) (hcd : c ≠ d) : LMeet a b c d ↔ (¬ ApartX a b c d ∧ ¬ ApartY a b c d) ∧ Meet a b c d := by
  unfold LMeet
  constructor
  · rintro (⟨hs, hp, ho⟩ | ⟨hs, ho, hx, hy⟩)
    · exact ⟨near_slant hs hp ho, (meet_slant hab hcd hs).1 ⟨hp, ho⟩⟩
    · exact ⟨⟨hx, hy⟩, meet_straight hab hcd hs ho hx hy⟩
  · rintro ⟨⟨hx, hy⟩, hm⟩
    by_cases hs : slant a b c d = 0
    · by_cases ho : other a b c d = 0
      · exact .inr ⟨hs, ho, hx, hy⟩
      · exact absurd hm (meet_far hcd hs ho)
    · exact .inl ⟨hs, (meet_slant hab hcd hs).2 hm⟩
end
end RG
set_option linter.all false
set_option maxHeartbeats 4000000
/-! Segments that a line parts; ways that go on; rings that meet themselves nowhere: turned, moved, begun elsewhere, with middles put in. -/
namespace RG
def ev (u v w : Int) (p : Zp) : Int := u * p.1 + v * p.2 + w
/-- a line parts both segments -/
def Sep (a b c d : Zp) : Prop := ∃ u v w, 0 < ev u v w a ∧ 0 < ev u v w b ∧ ev u v w c < 0 ∧ ev u v w d < 0
theorem ev_neg {u v w : Int} {p : Zp} : ev (-u) (-v) (-w) p = - ev u v w p := by unfold ev; grind
theorem Sep.swap {a b c d : Zp} (h : Sep a b c d) : Sep c d a b := by
  obtain ⟨u, v, w, h1, h2, h3, h4⟩ := h
  exact ⟨-u, -v, -w, by rw [ev_neg]; omega, by rw [ev_neg]; omega, by rw [ev_neg]; omega, by rw [ev_neg]; omega⟩
theorem Sep.flip1 {a b c d : Zp} (h : Sep a b c d) : Sep b a c d := by
  obtain ⟨u, v, w, h1, h2, h3, h4⟩ := h
  exact ⟨u, v, w, h2, h1, h3, h4⟩
theorem Sep.flip2 {a b c d : Zp} (h : Sep a b c d) : Sep a b d c := by
  obtain ⟨u, v, w, h1, h2, h3, h4⟩ := h
  exact ⟨u, v, w, h1, h2, h4, h3⟩
theorem Sep.ne {a b c d : Zp} (h : Sep a b c d) : a ≠ c ∧ a ≠ d ∧ b ≠ c ∧ b ≠ d := by
  obtain ⟨u, v, w, h1, h2, h3, h4⟩ := h
  refine ⟨?_, ?_, ?_, ?_⟩ <;> (rintro rfl; omega)
theorem wsum {k m A B : Int} (hk : 0 ≤ k) (hm : 0 ≤ m) (h : 0 < k + m) (a : 0 < A) (b : 0 < B) : 0 < k * A + m * B := by
  have h1 := Int.mul_le_mul_of_nonneg_left (show (1 : Int) ≤ A by omega) hk
  have h2 := Int.mul_le_mul_of_nonneg_left (show (1 : Int) ≤ B by omega) hm
  omega
/-- what lies on a segment is a mean of its ends -/
theorem on_mean {a b p : Zp} (h : On a b p) : ∃ k m : Int, 0 ≤ k ∧ 0 ≤ m ∧ 0 < k + m ∧ (k + m) * p.1 = k * a.1 + m * b.1 ∧ (k + m) * p.2 = k * a.2 + m * b.2 := by
  obtain ⟨e, hx, hy⟩ := h
  unfold ar at e
  unfold bx at hx hy
  rcases Int.lt_trichotomy (b.1 - a.1) 0 with c | c | c
  · exact ⟨p.1 - b.1, a.1 - p.1, by omega, by omega, by omega, by grind, by grind⟩
  · rcases Int.lt_trichotomy (b.2 - a.2) 0 with c2 | c2 | c2
    · exact ⟨p.2 - b.2, a.2 - p.2, by omega, by omega, by omega, by grind, by grind⟩
    · exact ⟨1, 0, by omega, by omega, by omega, by omega, by omega⟩
    · exact ⟨b.2 - p.2, p.2 - a.2, by omega, by omega, by omega, by grind, by grind⟩
  · exact ⟨b.1 - p.1, p.1 - a.1, by omega, by omega, by omega, by grind, by grind⟩
theorem on_ev {a b p : Zp} (h : On a b p) {u v w : Int} (ha : 0 < ev u v w a) (hb : 0 < ev u v w b) : 0 < ev u v w p := by
  obtain ⟨k, m, hk, hm, hs, e1, e2⟩ := on_mean h
  have e : (k + m) * ev u v w p = k * ev u v w a + m * ev u v w b := by
    have : (k + m) * ev u v w p = u * ((k + m) * p.1) + v * ((k + m) * p.2) + (k + m) * w := by unfold ev; grind
    rw [this, e1, e2]
    unfold ev
    grind
  have := wsum hk hm hs ha hb
  rw [← e] at this
  by_cases c : 0 < ev u v w p
  · exact c
  · have := Int.mul_nonpos_of_nonneg_of_nonpos (show 0 ≤ k + m by omega) (show ev u v w p ≤ 0 by omega)
    omega
theorem Sep.meet {a b c d : Zp} (h : Sep a b c d) : ¬ Meet a b c d := by
  have hh := h.swap
  obtain ⟨u, v, w, h1, h2, h3, h4⟩ := h
  obtain ⟨u', v', w', g1, g2, g3, g4⟩ := hh
  rintro (⟨x, y⟩ | o | o | o | o)
  · rw [op_iff, ar1 (d := d), ar2] at x
    rw [op_iff, ar3 (b := b), ar4] at y
    have i1 := id1 (a := a) (b := b) (c := c) (d := d)
    have i2 := id2 (a := a) (b := b) (c := c) (d := d)
    generalize slant a b c d = s at *
    generalize part a b c d = p at *
    generalize other a b c d = t at *
    have e : (s - p) * ev u v w a + p * ev u v w b = (s - t) * ev u v w c + t * ev u v w d := by
      have : (s - p) * ev u v w a + p * ev u v w b - ((s - t) * ev u v w c + t * ev u v w d) = u * (p * (b.1 - a.1) - t * (d.1 - c.1) - s * (c.1 - a.1)) + v * (p * (b.2 - a.2) - t * (d.2 - c.2) - s * (c.2 - a.2)) := by unfold ev; grind
      rw [i1, i2] at this
      grind
    have wp : W p s := by
      unfold W
      have : p * (p - s) = -(p * (s - p)) := by grind
      omega
    have wt : W t s := by
      unfold W
      have : -t * (s - t) = -(t * (s - t)) := by grind
      omega
    have s0 : s ≠ 0 := fun z => by
      rw [z] at x
      have : -t * (0 - t) = t * t := by grind
      have : 0 ≤ t * t := by
        by_cases q : t = 0
        · rw [q]; decide
        · exact Int.le_of_lt (sq_pos q)
      omega
    rcases W_iff.1 wp with a1 | a1 <;> rcases W_iff.1 wt with b1 | b1
    · have q1 := wsum (show 0 ≤ s - p by omega) a1.1 (by omega) h1 h2
      have q2 := wsum (show 0 ≤ s - t by omega) b1.1 (by omega) (show 0 < -ev u v w c by omega) (show 0 < -ev u v w d by omega)
      grind
    · omega
    · omega
    · have q1 := wsum (show 0 ≤ -(s - p) by omega) (show 0 ≤ -p by omega) (by omega) h1 h2
      have q2 := wsum (show 0 ≤ -(s - t) by omega) (show 0 ≤ -t by omega) (by omega) (show 0 < -ev u v w c by omega) (show 0 < -ev u v w d by omega)
      grind
  · have := on_ev o h1 h2
    omega
  · have := on_ev o h1 h2
    omega
  · have := on_ev o g1 g2
    omega
  · have := on_ev o g1 g2
    omega
/-- the middle of two -/
def Mid (a b m : Zp) : Prop := 2 * m.1 = a.1 + b.1 ∧ 2 * m.2 = a.2 + b.2
theorem Mid.symm {a b m : Zp} (h : Mid a b m) : Mid b a m := ⟨by have := h.1; omega, by have := h.2; omega⟩
theorem mid_ev {a b m : Zp} (h : Mid a b m) {u v w : Int} : 2 * ev u v w m = ev u v w a + ev u v w b := by
  have : 2 * ev u v w m = u * (2 * m.1) + v * (2 * m.2) + 2 * w := by unfold ev; grind
  rw [this, h.1, h.2]
  unfold ev
  grind
theorem Sep.half1 {a b c d m : Zp} (h : Sep a b c d) (hm : Mid a b m) : Sep a m c d ∧ Sep m b c d := by
  obtain ⟨u, v, w, h1, h2, h3, h4⟩ := h
  have e := mid_ev hm (u := u) (v := v) (w := w)
  exact ⟨⟨u, v, w, h1, by omega, h3, h4⟩, u, v, w, by omega, h2, h3, h4⟩
/-- a way that goes on: it neither stands still nor turns straight back -/
def det (a b c : Zp) : Int := (b.1 - a.1) * (c.2 - b.2) - (b.2 - a.2) * (c.1 - b.1)
def dot (a b c : Zp) : Int := (b.1 - a.1) * (c.1 - b.1) + (b.2 - a.2) * (c.2 - b.2)
def Fwd (a b c : Zp) : Prop := a ≠ b ∧ b ≠ c ∧ (det a b c ≠ 0 ∨ 0 < dot a b c)
theorem Fwd.rev {a b c : Zp} (h : Fwd a b c) : Fwd c b a := by
  obtain ⟨h1, h2, h3⟩ := h
  refine ⟨h2.symm, h1.symm, ?_⟩
  have e1 : det c b a = - det a b c := by unfold det; grind
  have e2 : dot c b a = dot a b c := by unfold dot; grind
  rw [e1, e2]
  omega
theorem mid_ne {a b m : Zp} (h : Mid a b m) (n : a ≠ b) : a ≠ m ∧ m ≠ b := by
  obtain ⟨h1, h2⟩ := h
  constructor
  · rintro rfl
    exact n (Prod.ext (by omega) (by omega))
  · rintro rfl
    exact n (Prod.ext (by omega) (by omega))
theorem fwd_mid {a b m : Zp} (h : Mid a b m) (n : a ≠ b) : Fwd a m b := by
  have k := mid_ne h n
  refine ⟨k.1, k.2, .inr ?_⟩
  have e1 : b.1 - m.1 = m.1 - a.1 := by have := h.1; omega
  have e2 : b.2 - m.2 = m.2 - a.2 := by have := h.2; omega
  unfold dot
  rw [e1, e2]
  have : m.1 - a.1 ≠ 0 ∨ m.2 - a.2 ≠ 0 := by
    by_cases z : m.1 - a.1 = 0
    · refine .inr fun z2 => k.1 (Prod.ext (by omega) (by omega))
    · exact .inl z
  have sq : ∀ t : Int, 0 ≤ t * t := fun t => by
    by_cases q : t = 0
    · rw [q]; decide
    · exact Int.le_of_lt (sq_pos q)
  rcases this with z | z
  · have := sq_pos z
    have := sq (m.2 - a.2)
    omega
  · have := sq_pos z
    have := sq (m.1 - a.1)
    omega
/-- the last half of the way ahead -/
theorem Fwd.late {a b c m : Zp} (h : Fwd a b c) (hm : Mid a b m) : Fwd m b c := by
  obtain ⟨h1, h2, h3⟩ := h
  refine ⟨(mid_ne hm h1).2, h2, ?_⟩
  have e1 : 2 * det m b c = det a b c := by
    have : 2 * det m b c = (2 * b.1 - 2 * m.1) * (c.2 - b.2) - (2 * b.2 - 2 * m.2) * (c.1 - b.1) := by unfold det; grind
    rw [this, hm.1, hm.2]
    unfold det
    grind
  have e2 : 2 * dot m b c = dot a b c := by
    have : 2 * dot m b c = (2 * b.1 - 2 * m.1) * (c.1 - b.1) + (2 * b.2 - 2 * m.2) * (c.2 - b.2) := by unfold dot; grind
    rw [this, hm.1, hm.2]
    unfold dot
    grind
  omega
theorem Fwd.early {a b c m : Zp} (h : Fwd a b c) (hm : Mid b c m) : Fwd a b m := (h.rev.late hm.symm).rev
/-- the first half of the way to a corner, and the way from there -/
theorem Fwd.sep {a b c m : Zp} (h : Fwd a b c) (hm : Mid a b m) : Sep a m b c := by
  obtain ⟨h1, h2, h3⟩ := h
  have e1 : 2 * m.1 = a.1 + b.1 := hm.1
  have e2 : 2 * m.2 = a.2 + b.2 := hm.2
  rcases h3 with h3 | h3
  · -- 4 det (p - b, c - b) + det (b - a, c - b), of the sign that parts
    have key : ∀ p : Zp, ev (4 * (c.2 - b.2)) (-(4 * (c.1 - b.1))) (det a b c - 4 * (b.1 * (c.2 - b.2) - b.2 * (c.1 - b.1))) p = 4 * ((p.1 - b.1) * (c.2 - b.2) - (p.2 - b.2) * (c.1 - b.1)) + det a b c := fun p => by unfold ev; grind
    have ka := key a
    have kb := key b
    have kc := key c
    have km := key m
    have va : (a.1 - b.1) * (c.2 - b.2) - (a.2 - b.2) * (c.1 - b.1) = - det a b c := by unfold det; grind
    have vb : (b.1 - b.1) * (c.2 - b.2) - (b.2 - b.2) * (c.1 - b.1) = 0 := by grind
    have vc : (c.1 - b.1) * (c.2 - b.2) - (c.2 - b.2) * (c.1 - b.1) = 0 := by grind
    have vm : 2 * ((m.1 - b.1) * (c.2 - b.2) - (m.2 - b.2) * (c.1 - b.1)) = - det a b c := by
      have : 2 * ((m.1 - b.1) * (c.2 - b.2) - (m.2 - b.2) * (c.1 - b.1)) = (2 * m.1 - 2 * b.1) * (c.2 - b.2) - (2 * m.2 - 2 * b.2) * (c.1 - b.1) := by grind
      rw [this, e1, e2]
      unfold det
      grind
    rcases Int.lt_or_gt_of_ne h3 with s | s
    · exact ⟨_, _, _, by rw [ka]; omega, by rw [km]; omega, by rw [kb]; omega, by rw [kc]; omega⟩
    · exact Sep.swap ⟨_, _, _, by rw [kb]; omega, by rw [kc]; omega, by rw [ka]; omega, by rw [km]; omega⟩
  · have ne : b.1 - a.1 ≠ 0 ∨ b.2 - a.2 ≠ 0 := far_ne h1
    have sq : ∀ t : Int, 0 ≤ t * t := fun t => by
      by_cases q : t = 0
      · rw [q]; decide
      · exact Int.le_of_lt (sq_pos q)
    have pos : 0 < (b.1 - a.1) * (b.1 - a.1) + (b.2 - a.2) * (b.2 - a.2) := by
      have s1 := sq (b.1 - a.1)
      have s2 := sq (b.2 - a.2)
      rcases ne with z | z
      · have := sq_pos z
        omega
      · have := sq_pos z
        omega
    generalize hE : (b.1 - a.1) * (b.1 - a.1) + (b.2 - a.2) * (b.2 - a.2) = E at pos
    have key : ∀ p : Zp, ev (4 * (b.1 - a.1)) (4 * (b.2 - a.2)) (E - 4 * (b.1 * (b.1 - a.1) + b.2 * (b.2 - a.2))) p = 4 * ((p.1 - b.1) * (b.1 - a.1) + (p.2 - b.2) * (b.2 - a.2)) + E := fun p => by unfold ev; grind
    have ka := key a
    have kb := key b
    have kc := key c
    have km := key m
    have va : (a.1 - b.1) * (b.1 - a.1) + (a.2 - b.2) * (b.2 - a.2) = - E := by rw [← hE]; grind
    have vb : (b.1 - b.1) * (b.1 - a.1) + (b.2 - b.2) * (b.2 - a.2) = 0 := by grind
    have vc : (c.1 - b.1) * (b.1 - a.1) + (c.2 - b.2) * (b.2 - a.2) = dot a b c := by unfold dot; grind
    have vm : 2 * ((m.1 - b.1) * (b.1 - a.1) + (m.2 - b.2) * (b.2 - a.2)) = - E := by
      have : 2 * ((m.1 - b.1) * (b.1 - a.1) + (m.2 - b.2) * (b.2 - a.2)) = (2 * m.1 - 2 * b.1) * (b.1 - a.1) + (2 * m.2 - 2 * b.2) * (b.2 - a.2) := by grind
      rw [this, e1, e2, ← hE]
      grind
    exact Sep.swap ⟨_, _, _, by rw [kb]; omega, by rw [kc]; omega, by rw [ka]; omega, by rw [km]; omega⟩
/-- the way to a corner, and the last half of the way from there -/
theorem Fwd.sep2 {a b c m : Zp} (h : Fwd a b c) (hm : Mid b c m) : Sep a b m c := ((h.rev.sep hm.symm).swap).flip1.flip2
/-! ### moves -/
def mv (a b c d r t : Int) (p : Zp) : Zp := (a * p.1 + b * p.2 + r, c * p.1 + d * p.2 + t)
section
variable {a b c d r t : Int} (hd : a * d - b * c ≠ 0)
include hd
theorem mv_inj {p q : Zp} (h : mv a b c d r t p = mv a b c d r t q) : p = q := by
  have e1 : a * (p.1 - q.1) + b * (p.2 - q.2) = 0 := by
    have := congrArg Prod.fst h
    unfold mv at this
    grind
  have e2 : c * (p.1 - q.1) + d * (p.2 - q.2) = 0 := by
    have := congrArg Prod.snd h
    unfold mv at this
    grind
  have z1 : (a * d - b * c) * (p.1 - q.1) = 0 := by
    have : (a * d - b * c) * (p.1 - q.1) = d * (a * (p.1 - q.1) + b * (p.2 - q.2)) - b * (c * (p.1 - q.1) + d * (p.2 - q.2)) := by grind
    rw [this, e1, e2]
    grind
  have z2 : (a * d - b * c) * (p.2 - q.2) = 0 := by
    have : (a * d - b * c) * (p.2 - q.2) = a * (c * (p.1 - q.1) + d * (p.2 - q.2)) - c * (a * (p.1 - q.1) + b * (p.2 - q.2)) := by grind
    rw [this, e1, e2]
    grind
  refine Prod.ext ?_ ?_
  · rcases Int.mul_eq_zero.1 z1 with z | z
    · exact absurd z hd
    · omega
  · rcases Int.mul_eq_zero.1 z2 with z | z
    · exact absurd z hd
    · omega
theorem Sep.mv {x y z w : Zp} (h : Sep x y z w) : Sep (RG.mv a b c d r t x) (RG.mv a b c d r t y) (RG.mv a b c d r t z) (RG.mv a b c d r t w) := by
  obtain ⟨u, v, o, h1, h2, h3, h4⟩ := h
  have sq := sq_pos hd
  generalize hD : a * d - b * c = D at hd sq
  have key : ∀ p : Zp, ev (D * (d * u - c * v)) (D * (a * v - b * u)) (D * D * o - D * (d * u - c * v) * r - D * (a * v - b * u) * t) (RG.mv a b c d r t p) = D * D * ev u v o p := fun p => by
    unfold ev RG.mv
    subst hD
    grind
  refine ⟨D * (d * u - c * v), D * (a * v - b * u), D * D * o - D * (d * u - c * v) * r - D * (a * v - b * u) * t, ?_, ?_, ?_, ?_⟩
  · rw [key]; exact Int.mul_pos sq h1
  · rw [key]; exact Int.mul_pos sq h2
  · rw [key]; exact Int.mul_neg_of_pos_of_neg sq h3
  · rw [key]; exact Int.mul_neg_of_pos_of_neg sq h4
theorem Fwd.mv {x y z : Zp} (h : Fwd x y z) : Fwd (RG.mv a b c d r t x) (RG.mv a b c d r t y) (RG.mv a b c d r t z) := by
  obtain ⟨h1, h2, h3⟩ := h
  have n1 : RG.mv a b c d r t x ≠ RG.mv a b c d r t y := fun e => h1 (mv_inj hd e)
  have n2 : RG.mv a b c d r t y ≠ RG.mv a b c d r t z := fun e => h2 (mv_inj hd e)
  refine ⟨n1, n2, ?_⟩
  have e1 : det (RG.mv a b c d r t x) (RG.mv a b c d r t y) (RG.mv a b c d r t z) = (a * d - b * c) * det x y z := by unfold det RG.mv; grind
  rw [e1]
  by_cases k : det x y z = 0
  · refine .inr ?_
    have h3 : 0 < dot x y z := h3.resolve_left fun q => q k
    -- |e|^2 dot (e', f') = dot (e, f) |e'|^2
    have id : ((y.1 - x.1) * (y.1 - x.1) + (y.2 - x.2) * (y.2 - x.2)) * dot (RG.mv a b c d r t x) (RG.mv a b c d r t y) (RG.mv a b c d r t z) = dot x y z * ((a * (y.1 - x.1) + b * (y.2 - x.2)) * (a * (y.1 - x.1) + b * (y.2 - x.2)) + (c * (y.1 - x.1) + d * (y.2 - x.2)) * (c * (y.1 - x.1) + d * (y.2 - x.2))) := by
      unfold det at k
      unfold dot RG.mv
      grind
    have sq : ∀ t : Int, 0 ≤ t * t := fun t => by
      by_cases q : t = 0
      · rw [q]; decide
      · exact Int.le_of_lt (sq_pos q)
    have p1 : 0 < (y.1 - x.1) * (y.1 - x.1) + (y.2 - x.2) * (y.2 - x.2) := by
      have s1 := sq (y.1 - x.1)
      have s2 := sq (y.2 - x.2)
      rcases far_ne h1 with z | z
      · have := sq_pos z
        omega
      · have := sq_pos z
        omega
    have p2 : 0 < (a * (y.1 - x.1) + b * (y.2 - x.2)) * (a * (y.1 - x.1) + b * (y.2 - x.2)) + (c * (y.1 - x.1) + d * (y.2 - x.2)) * (c * (y.1 - x.1) + d * (y.2 - x.2)) := by
      have s1 := sq (a * (y.1 - x.1) + b * (y.2 - x.2))
      have s2 := sq (c * (y.1 - x.1) + d * (y.2 - x.2))
      have q1 : (RG.mv a b c d r t y).1 - (RG.mv a b c d r t x).1 = a * (y.1 - x.1) + b * (y.2 - x.2) := by unfold RG.mv; grind
      have q2 : (RG.mv a b c d r t y).2 - (RG.mv a b c d r t x).2 = c * (y.1 - x.1) + d * (y.2 - x.2) := by unfold RG.mv; grind
      rcases far_ne n1 with z | z
      · rw [q1] at z
        have := sq_pos z
        omega
      · rw [q2] at z
        have := sq_pos z
        omega
    have := Int.mul_pos h3 p2
    rw [← id] at this
    by_cases q : 0 < dot (RG.mv a b c d r t x) (RG.mv a b c d r t y) (RG.mv a b c d r t z)
    · exact q
    · have := Int.mul_nonpos_of_nonneg_of_nonpos (Int.le_of_lt p1) (show dot (RG.mv a b c d r t x) (RG.mv a b c d r t y) (RG.mv a b c d r t z) ≤ 0 by omega)
      omega
  · exact .inl fun z => by
      rcases Int.mul_eq_zero.1 z with z | z
      · exact hd z
      · exact k z
end
end RG
set_option linter.all false
set_option maxHeartbeats 4000000
/-! Rings that meet themselves nowhere: begun elsewhere, turned round, moved, with a middle put in; stars and waves. -/
namespace RG
/-- n corners in a round: each way goes on, a line parts any two sides that are no neighbours -/
structure Good (n : Nat) (P : Nat → Zp) : Prop where
  three : 3 ≤ n
  per : ∀ i, P (i + n) = P i
  turn : ∀ i, Fwd (P i) (P (i + 1)) (P (i + 2))
  sep : ∀ i j, i + 1 < j → j + 1 < i + n → Sep (P i) (P (i + 1)) (P j) (P (j + 1))
theorem per_mul {n : Nat} {P : Nat → Zp} (per : ∀ i, P (i + n) = P i) (i : Nat) : ∀ q, P (i + n * q) = P i
  | 0 => rfl
  | q + 1 => by
    rw [Nat.mul_succ, ← Nat.add_assoc, per]
    exact per_mul per i q
theorem per_mod {n : Nat} {P : Nat → Zp} (per : ∀ i, P (i + n) = P i) (i : Nat) : P i = P (i % n) := by
  have := per_mul per (i % n) (i / n)
  rw [Nat.mod_add_div] at this
  exact this
/-- enough: one round -/
theorem good_of {n : Nat} {P : Nat → Zp} (three : 3 ≤ n) (per : ∀ i, P (i + n) = P i) (turn : ∀ i, i < n → Fwd (P i) (P (i + 1)) (P (i + 2)))
    (sep : ∀ i j, i + 1 < j → j < n → j + 1 < i + n → Sep (P i) (P (i + 1)) (P j) (P (j + 1))) : Good n P := by
  have sh : ∀ i q, P (i + n * q) = P i := per_mul per
  have sep2 : ∀ i j, i < n → i + 1 < j → j + 1 < i + n → Sep (P i) (P (i + 1)) (P j) (P (j + 1)) := fun i j hi h1 h2 => by
    by_cases c : j < n
    · exact sep i j h1 c h2
    · have e1 : P j = P (j - n) := by
        have := per (j - n)
        rw [Nat.sub_add_cancel (by omega)] at this
        exact this
      have e2 : P (j + 1) = P (j - n + 1) := by
        have := per (j - n + 1)
        rw [show j - n + 1 + n = j + 1 by omega] at this
        exact this
      rw [e1, e2]
      exact (sep (j - n) i (by omega) hi (by omega)).swap
  refine ⟨three, per, fun i => ?_, fun i j h1 h2 => ?_⟩
  · have e := Nat.mod_add_div i n
    have l := Nat.mod_lt i (show 0 < n by omega)
    have := turn (i % n) l
    rw [← sh (i % n) (i / n), ← sh (i % n + 1) (i / n), ← sh (i % n + 2) (i / n)] at this
    rw [show i % n + n * (i / n) = i from e, show i % n + 1 + n * (i / n) = i + 1 by omega, show i % n + 2 + n * (i / n) = i + 2 by omega] at this
    exact this
  · have e := Nat.mod_add_div i n
    have l := Nat.mod_lt i (show 0 < n by omega)
    have := sep2 (i % n) (j - n * (i / n)) l (by omega) (by omega)
    rw [← sh (i % n) (i / n), ← sh (i % n + 1) (i / n), ← sh (j - n * (i / n)) (i / n), ← sh (j - n * (i / n) + 1) (i / n)] at this
    rw [show i % n + n * (i / n) = i from e, show i % n + 1 + n * (i / n) = i + 1 by omega, show j - n * (i / n) + n * (i / n) = j by omega, show j - n * (i / n) + 1 + n * (i / n) = j + 1 by omega] at this
    exact this
section
variable {n : Nat} {P : Nat → Zp}
theorem Good.begun (g : Good n P) (m : Nat) : Good n (fun i => P (i + m)) := by
  refine ⟨g.three, fun i => ?_, fun i => ?_, fun i j h1 h2 => ?_⟩
  · show P (i + n + m) = P (i + m)
    rw [show i + n + m = i + m + n by omega, g.per]
  · show Fwd (P (i + m)) (P (i + 1 + m)) (P (i + 2 + m))
    rw [show i + 1 + m = i + m + 1 by omega, show i + 2 + m = i + m + 2 by omega]
    exact g.turn _
  · show Sep (P (i + m)) (P (i + 1 + m)) (P (j + m)) (P (j + 1 + m))
    rw [show i + 1 + m = i + m + 1 by omega, show j + 1 + m = j + m + 1 by omega]
    exact g.sep _ _ (by omega) (by omega)
theorem Good.moved (g : Good n P) {a b c d r t : Int} (hd : a * d - b * c ≠ 0) : Good n (fun i => mv a b c d r t (P i)) :=
  ⟨g.three, fun i => by show mv a b c d r t (P (i + n)) = _; rw [g.per], fun i => (g.turn i).mv hd, fun i j h1 h2 => (g.sep i j h1 h2).mv hd⟩
theorem Good.turned (g : Good n P) : Good n (fun i => P (n - 1 - i % n)) := by
  have h3 := g.three
  refine good_of h3 (fun i => ?_) (fun i hi => ?_) (fun i j h1 hj h2 => ?_)
  · show P (n - 1 - (i + n) % n) = _
    rw [Nat.add_mod_right]
  all_goals
    have rd : ∀ k, k < n + 2 → i ≤ k → P (n - 1 - k % n) = P (2 * n - 1 - k) := fun k hk hik => by
      by_cases c : k < n
      · rw [Nat.mod_eq_of_lt c, show 2 * n - 1 - k = n - 1 - k + n by omega, g.per]
      · rw [Nat.mod_eq_sub_mod (by omega), Nat.mod_eq_of_lt (by omega), show n - 1 - (k - n) = 2 * n - 1 - k by omega]
  · show Fwd (P (n - 1 - i % n)) (P (n - 1 - (i + 1) % n)) (P (n - 1 - (i + 2) % n))
    rw [rd i (by omega) (by omega), rd (i + 1) (by omega) (by omega), rd (i + 2) (by omega) (by omega)]
    have := (g.turn (2 * n - 1 - (i + 2))).rev
    rw [show 2 * n - 1 - (i + 2) + 1 = 2 * n - 1 - (i + 1) by omega, show 2 * n - 1 - (i + 2) + 2 = 2 * n - 1 - i by omega] at this
    exact this
  · show Sep (P (n - 1 - i % n)) (P (n - 1 - (i + 1) % n)) (P (n - 1 - j % n)) (P (n - 1 - (j + 1) % n))
    rw [rd i (by omega) (by omega), rd (i + 1) (by omega) (by omega), rd j (by omega) (by omega), rd (j + 1) (by omega) (by omega)]
    have := (g.sep (2 * n - 1 - (j + 1)) (2 * n - 1 - (i + 1)) (by omega) (by omega)).swap.flip1.flip2
    rw [show 2 * n - 1 - (j + 1) + 1 = 2 * n - 1 - j by omega, show 2 * n - 1 - (i + 1) + 1 = 2 * n - 1 - i by omega] at this
    exact this
/-- one more corner, in the middle of the last side -/
theorem Good.more (g : Good n P) {m : Zp} (hm : Mid (P (n - 1)) (P 0) m) : Good (n + 1) (fun i => if i % (n + 1) < n then P (i % (n + 1)) else m) := by
  have h3 := g.three
  have p0 : P n = P 0 := by have := g.per 0; rwa [Nat.zero_add] at this
  have p1 : P (n + 1) = P 1 := by have := g.per 1; rwa [Nat.add_comm 1 n] at this
  have lo : ∀ k, k < n → (if k % (n + 1) < n then P (k % (n + 1)) else m) = P k := fun k hk => by
    rw [Nat.mod_eq_of_lt (show k < n + 1 by omega), if_pos hk]
  have at_n : (if n % (n + 1) < n then P (n % (n + 1)) else m) = m := by
    rw [Nat.mod_eq_of_lt (show n < n + 1 by omega), if_neg (by omega)]
  have at_n1 : (if (n + 1) % (n + 1) < n then P ((n + 1) % (n + 1)) else m) = P 0 := by
    rw [Nat.mod_self, if_pos (by omega)]
  have at_n2 : (if (n + 2) % (n + 1) < n then P ((n + 2) % (n + 1)) else m) = P 1 := by
    rw [show (n + 2) % (n + 1) = 1 by rw [show n + 2 = 1 + (n + 1) by omega, Nat.add_mod_right, Nat.mod_eq_of_lt (by omega)], if_pos (by omega)]
  have t0 : Fwd (P (n - 2)) (P (n - 1)) (P 0) := by
    have := g.turn (n - 2)
    rwa [show n - 2 + 1 = n - 1 by omega, show n - 2 + 2 = n by omega, p0] at this
  have t1 : Fwd (P (n - 1)) (P 0) (P 1) := by
    have := g.turn (n - 1)
    rwa [show n - 1 + 1 = n by omega, show n - 1 + 2 = n + 1 by omega, p0, p1] at this
  refine good_of (by omega) (fun i => ?_) (fun i hi => ?_) (fun i j h1 hj h2 => ?_)
  · show (if (i + (n + 1)) % (n + 1) < n then P ((i + (n + 1)) % (n + 1)) else m) = _
    rw [Nat.add_mod_right]
  · show Fwd (if i % (n + 1) < n then P (i % (n + 1)) else m) (if (i + 1) % (n + 1) < n then P ((i + 1) % (n + 1)) else m) (if (i + 2) % (n + 1) < n then P ((i + 2) % (n + 1)) else m)
    by_cases c1 : i + 2 < n
    · rw [lo i (by omega), lo (i + 1) (by omega), lo (i + 2) c1]
      exact g.turn i
    by_cases c2 : i + 2 = n
    · obtain rfl : i = n - 2 := by omega
      rw [lo _ (by omega), show n - 2 + 1 = n - 1 by omega, show n - 2 + 2 = n by omega, lo (n - 1) (by omega), at_n]
      exact t0.early hm
    by_cases c3 : i + 1 = n
    · obtain rfl : i = n - 1 := by omega
      rw [lo _ (by omega), show n - 1 + 1 = n by omega, show n - 1 + 2 = n + 1 by omega, at_n, at_n1]
      exact fwd_mid hm t1.1
    · obtain rfl : i = n := by omega
      rw [at_n, at_n1, at_n2]
      exact t1.late hm
  · show Sep (if i % (n + 1) < n then P (i % (n + 1)) else m) (if (i + 1) % (n + 1) < n then P ((i + 1) % (n + 1)) else m) (if j % (n + 1) < n then P (j % (n + 1)) else m) (if (j + 1) % (n + 1) < n then P ((j + 1) % (n + 1)) else m)
    rw [lo i (by omega), lo (i + 1) (by omega)]
    have old : 1 ≤ i → i + 1 < n - 1 → Sep (P i) (P (i + 1)) (P (n - 1)) (P 0) := fun a b => by
      have := g.sep i (n - 1) b (by omega)
      rwa [show n - 1 + 1 = n by omega, p0] at this
    by_cases c1 : j + 1 < n
    · rw [lo j (by omega), lo (j + 1) c1]
      exact g.sep i j h1 (by omega)
    by_cases c2 : j + 1 = n
    · obtain rfl : j = n - 1 := by omega
      rw [lo (n - 1) (by omega), show n - 1 + 1 = n by omega, at_n]
      by_cases c3 : i = 0
      · subst c3
        exact (t1.sep hm).swap
      · exact (((old (by omega) h1).swap.half1 hm).1).swap
    · have ej : j = n := by omega
      rw [ej, at_n, at_n1]
      by_cases c3 : i + 1 = n - 1
      · obtain rfl : i = n - 2 := by omega
        rw [show n - 2 + 1 = n - 1 by omega]
        exact t0.sep2 hm
      · exact (((old (by omega) (by omega)).swap.half1 hm).2).swap
theorem Good.ne (g : Good n P) {i j : Nat} (h : i < j) (hj : j < i + n) : P i ≠ P j := by
  by_cases c1 : j = i + 1
  · subst c1
    exact (g.turn i).1
  by_cases c2 : j + 1 = i + n
  · have := (g.turn j).1
    rw [c2, g.per] at this
    exact this.symm
  · exact (g.sep i j (by omega) (by omega)).ne.1
end
/-! ### stars -/
def ways : List Zp := [(2, 0), (2, 1), (2, 2), (1, 2), (0, 2), (-1, 2), (-2, 2), (-2, 1), (-2, 0), (-2, -1), (-2, -2), (-1, -2), (0, -2), (1, -2), (2, -2), (2, -1)]
def wy (k : Nat) : Zp := ways.getD (k % 16) (0, 0)
def cross (a b : Zp) : Int := a.1 * b.2 - a.2 * b.1
def md (k : Nat) : Zp := ((wy k).1 + (wy (k + 1)).1, (wy k).2 + (wy (k + 1)).2)
theorem wy_mod (k d : Nat) : wy (k + d) = wy (k % 16 + d) := by unfold wy; rw [Nat.mod_add_mod]
theorem md_mod (k d : Nat) : md (k + d) = md (k % 16 + d) := by
  unfold md
  rw [wy_mod k d, show k + d + 1 = k + (d + 1) from rfl, wy_mod k (d + 1)]
  rfl
theorem cross_tab : ∀ k, k < 16 → ∀ d, d < 8 → 1 ≤ d → 0 < cross (wy (k + 0)) (wy (k + d)) := by decide +kernel
theorem mid_pos_tab : ∀ k, k < 16 → ∀ d, d < 9 → 1 ≤ d → 0 < cross (md (k + 0)) (wy (k + d)) := by decide +kernel
theorem mid_neg_tab : ∀ k, k < 16 → ∀ d, d < 8 → cross (md (k + d)) (wy (k + 0)) < 0 := by decide +kernel
theorem cross_pos {k l : Nat} (h1 : k < l) (h2 : l < k + 8) : 0 < cross (wy k) (wy l) := by
  have := cross_tab (k % 16) (Nat.mod_lt _ (by decide)) (l - k) (by omega) (by omega)
  rw [← wy_mod, ← wy_mod] at this
  rwa [show k + 0 = k from rfl, show k + (l - k) = l by omega] at this
theorem mid_pos {k l : Nat} (h1 : k < l) (h2 : l < k + 9) : 0 < cross (md k) (wy l) := by
  have := mid_pos_tab (k % 16) (Nat.mod_lt _ (by decide)) (l - k) (by omega) (by omega)
  rw [← md_mod, ← wy_mod] at this
  rwa [show k + 0 = k from rfl, show k + (l - k) = l by omega] at this
theorem mid_neg {k l : Nat} (h1 : l ≤ k) (h2 : k < l + 8) : cross (md k) (wy l) < 0 := by
  have := mid_neg_tab (l % 16) (Nat.mod_lt _ (by decide)) (k - l) (by omega)
  rw [← md_mod, ← wy_mod] at this
  rwa [show l + 0 = l from rfl, show l + (k - l) = k by omega] at this
/-- a corner so far in a direction -/
def ray (f : Int) (k : Nat) : Zp := (f * (wy k).1, f * (wy k).2)
theorem ray_cross {f g : Int} {k l : Nat} (hf : 0 < f) (hg : 0 < g) (h : 0 < cross (wy k) (wy l)) : 0 < cross (ray f k) (ray g l) := by
  have e : cross (ray f k) (ray g l) = (f * g) * cross (wy k) (wy l) := by unfold cross ray; grind
  rw [e]
  exact Int.mul_pos (Int.mul_pos hf hg) h
theorem fwd_round {a b c : Zp} (h1 : 0 < cross a b) (h2 : 0 < cross b c) : Fwd a b c := by
  have n1 : a ≠ b := by
    rintro rfl
    have : cross a a = 0 := by unfold cross; grind
    omega
  have n2 : b ≠ c := by
    rintro rfl
    have : cross b b = 0 := by unfold cross; grind
    omega
  refine ⟨n1, n2, ?_⟩
  by_cases k : det a b c = 0
  · refine .inr ?_
    have id : cross a b * dot a b c = cross b c * ((b.1 - a.1) * (b.1 - a.1) + (b.2 - a.2) * (b.2 - a.2)) := by
      unfold det at k
      unfold cross dot
      grind
    have sq : ∀ t : Int, 0 ≤ t * t := fun t => by
      by_cases q : t = 0
      · rw [q]; decide
      · exact Int.le_of_lt (sq_pos q)
    have pos : 0 < (b.1 - a.1) * (b.1 - a.1) + (b.2 - a.2) * (b.2 - a.2) := by
      have s1 := sq (b.1 - a.1)
      have s2 := sq (b.2 - a.2)
      rcases far_ne n1 with z | z
      · have := sq_pos z
        omega
      · have := sq_pos z
        omega
    have p := Int.mul_pos h2 pos
    rw [← id] at p
    by_cases q : 0 < dot a b c
    · exact q
    · have := Int.mul_nonpos_of_nonneg_of_nonpos (Int.le_of_lt h1) (show dot a b c ≤ 0 by omega)
      omega
  · exact .inl k
theorem star_good {n : Nat} {K : Nat → Nat} {f : Nat → Int} (h3 : 3 ≤ n) (hK : ∀ i, K i < K (i + 1)) (gap : ∀ i, K (i + 1) < K i + 8) (round : ∀ i, K (i + n) = K i + 16)
    (fp : ∀ i, 0 < f i) (fper : ∀ i, f (i + n) = f i) : Good n (fun i => ray (f i) (K i)) := by
  have mono : ∀ i d, K i + d ≤ K (i + d) := fun i d => by
    induction d with
    | zero => exact Nat.le_refl _
    | succ d ih =>
      have := hK (i + d)
      rw [show i + (d + 1) = i + d + 1 from rfl]
      omega
  refine ⟨h3, fun i => ?_, fun i => ?_, fun i j h1 h2 => ?_⟩
  · show ray (f (i + n)) (K (i + n)) = _
    rw [fper, round]
    unfold ray wy
    rw [Nat.add_mod_right]
  · exact fwd_round (ray_cross (fp _) (fp _) (cross_pos (hK i) (gap i))) (ray_cross (fp _) (fp _) (cross_pos (hK (i + 1)) (gap (i + 1))))
  · have a1 := hK i
    have a2 := gap i
    have b1 := hK j
    have b2 := gap j
    have m1 := mono (i + 1) (j - (i + 1))
    rw [show i + 1 + (j - (i + 1)) = j by omega] at m1
    have m2 := mono (j + 1) (i + n - (j + 1))
    rw [show j + 1 + (i + n - (j + 1)) = i + n by omega, round] at m2
    obtain ⟨k, k1, k2, k3, k4⟩ : ∃ k, K (i + 1) ≤ k ∧ k + 1 ≤ K j ∧ K (j + 1) ≤ k + 8 ∧ k + 1 ≤ K i + 8 := by
      by_cases c : K (i + 1) + 8 ≤ K (j + 1)
      · exact ⟨K (j + 1) - 8, by omega, by omega, by omega, by omega⟩
      · exact ⟨K (i + 1), by omega, by omega, by omega, by omega⟩
    have ek : ∀ g l, ev (-(md k).2) (md k).1 0 (ray g l) = g * cross (md k) (wy l) := fun g l => by unfold ev ray cross; grind
    refine Sep.swap ⟨-(md k).2, (md k).1, 0, ?_, ?_, ?_, ?_⟩
    · rw [ek]; exact Int.mul_pos (fp _) (mid_pos (by omega) (by omega))
    · rw [ek]; exact Int.mul_pos (fp _) (mid_pos (by omega) (by omega))
    · rw [ek]; exact Int.mul_neg_of_pos_of_neg (fp _) (mid_neg (by omega) (by omega))
    · rw [ek]; exact Int.mul_neg_of_pos_of_neg (fp _) (mid_neg (by omega) (by omega))
/-! ### waves -/
def wv (m : Nat) (r : Nat → Int) (i : Nat) : Zp :=
  if i ≤ m then (20 * (i : Int), if i = 0 ∨ i = m then 0 else - 20 - r i) else (20 * (2 * (m : Int) - (i : Int)), 20 + r i)
theorem wave_good {m : Nat} (h2 : 2 ≤ m) {r : Nat → Int} (hr : ∀ i, 0 ≤ r i) : Good (2 * m) (fun i => wv m r (i % (2 * m))) := by
  have z0 : wv m r 0 = (0, 0) := by unfold wv; rw [if_pos (by omega), if_pos (.inl rfl)]; rfl
  have zm : wv m r m = (20 * (m : Int), 0) := by unfold wv; rw [if_pos (Nat.le_refl _), if_pos (.inr rfl)]
  have zl : ∀ i, 1 ≤ i → i < m → wv m r i = (20 * (i : Int), -20 - r i) := fun i a b => by unfold wv; rw [if_pos (by omega), if_neg (by omega)]
  have zh : ∀ i, m < i → wv m r i = (20 * (2 * (m : Int) - (i : Int)), 20 + r i) := fun i a => by unfold wv; rw [if_neg (by omega)]
  have xl : ∀ i, i ≤ m → (wv m r i).1 = 20 * (i : Int) := fun i a => by unfold wv; rw [if_pos a]
  have yl : ∀ i, i ≤ m → (wv m r i).2 ≤ 0 := fun i a => by
    unfold wv
    rw [if_pos a]
    show (if i = 0 ∨ i = m then (0 : Int) else -20 - r i) ≤ 0
    have := hr i
    split <;> omega
  have em : ∀ k, k < 2 * m → wv m r (k % (2 * m)) = wv m r k := fun k hk => by rw [Nat.mod_eq_of_lt hk]
  have en : wv m r ((2 * m) % (2 * m)) = (0, 0) := by rw [Nat.mod_self, z0]
  have en1 : wv m r ((2 * m + 1) % (2 * m)) = wv m r 1 := by rw [show 2 * m + 1 = 1 + 2 * m by omega, Nat.add_mod_right, Nat.mod_eq_of_lt (by omega)]
  have hm : (2 : Int) ≤ m := by exact_mod_cast h2
  -- straight on in one direction to the right or to the left
  have on : ∀ (a b c : Zp) (s : Int), s ≠ 0 → b.1 - a.1 = s → c.1 - b.1 = s → Fwd a b c := fun a b c s hs e1 e2 => by
    refine ⟨by rintro rfl; omega, by rintro rfl; omega, ?_⟩
    by_cases k : det a b c = 0
    · refine .inr ?_
      unfold det at k
      rw [e1, e2] at k
      have k : s * ((c.2 - b.2) - (b.2 - a.2)) = 0 := by grind
      have k := (Int.mul_eq_zero.1 k).resolve_left hs
      unfold dot
      rw [e1, e2, show c.2 - b.2 = b.2 - a.2 by omega]
      have s1 := sq_pos hs
      by_cases q : b.2 - a.2 = 0
      · rw [q]; omega
      · have := sq_pos q
        omega
    · exact .inl k
  refine good_of (by omega) (fun i => by show wv m r ((i + 2 * m) % (2 * m)) = _; rw [Nat.add_mod_right]) (fun i hi => ?_) (fun i j h1 hj h2' => ?_)
  · show Fwd (wv m r (i % (2 * m))) (wv m r ((i + 1) % (2 * m))) (wv m r ((i + 2) % (2 * m)))
    rw [em i hi]
    by_cases c1 : i + 2 ≤ m
    · rw [em (i + 1) (by omega), em (i + 2) (by omega)]
      exact on _ _ _ 20 (by decide) (by rw [xl _ (by omega), xl _ (by omega)]; omega) (by rw [xl _ (by omega), xl _ (by omega)]; omega)
    by_cases c2 : i + 1 = m
    · rw [em (i + 1) (by omega), em (i + 2) (by omega), c2, zm, show i + 2 = m + 1 by omega, zh (m + 1) (by omega), zl i (by omega) (by omega)]
      have := hr i
      have := hr (m + 1)
      refine ⟨fun e => ?_, fun e => ?_, .inl ?_⟩
      · have := congrArg Prod.snd e; simp at this; omega
      · have := congrArg Prod.snd e; simp at this; omega
      · unfold det; dsimp only; grind
    by_cases c3 : i + 2 < 2 * m
    · rw [em (i + 1) (by omega), em (i + 2) (by omega)]
      have e0 : (wv m r i).1 = 20 * (2 * (m : Int) - (i : Int)) := by
        by_cases q : i = m
        · rw [q, zm]; dsimp only; omega
        · rw [zh i (by omega)]
      exact on _ _ _ (-20) (by decide) (by rw [zh _ (by omega), e0]; dsimp only; omega) (by rw [zh (i + 2) (by omega), zh (i + 1) (by omega)]; dsimp only; omega)
    by_cases c4 : i + 2 = 2 * m
    · rw [em (i + 1) (by omega), c4, en]
      have e0 : (wv m r i).1 = 20 * (2 * (m : Int) - (i : Int)) := by
        by_cases q : i = m
        · rw [q, zm]; dsimp only; omega
        · rw [zh i (by omega)]
      exact on _ _ _ (-20) (by decide) (by rw [zh _ (by omega), e0]; dsimp only; omega) (by rw [zh (i + 1) (by omega)]; dsimp only; omega)
    · rw [show i + 1 = 2 * m by omega, show i + 2 = 2 * m + 1 by omega, en, en1, zl 1 (by omega) (by omega), zh i (by omega)]
      have := hr i
      have := hr 1
      have e1 : (2 * (m : Int) - (i : Int)) = 1 := by omega
      rw [e1]
      refine ⟨fun e => ?_, fun e => ?_, .inl ?_⟩
      · have := congrArg Prod.snd e; simp at this; omega
      · have := congrArg Prod.snd e; simp at this; omega
      · unfold det; dsimp only; grind
  · show Sep (wv m r (i % (2 * m))) (wv m r ((i + 1) % (2 * m))) (wv m r (j % (2 * m))) (wv m r ((j + 1) % (2 * m)))
    rw [em i (by omega), em (i + 1) (by omega), em j hj]
    by_cases c1 : j < m
    · rw [em (j + 1) (by omega)]
      have a := xl i (by omega)
      have b := xl (i + 1) (by omega)
      have c := xl j (by omega)
      have d := xl (j + 1) (by omega)
      exact ⟨-1, 0, 20 * (i : Int) + 30, by unfold ev; omega, by unfold ev; omega, by unfold ev; omega, by unfold ev; omega⟩
    have jx : ∀ k, m ≤ k → k < 2 * m → (wv m r k).1 = 20 * (2 * (m : Int) - (k : Int)) ∧ 0 ≤ (wv m r k).2 := fun k a b => by
      by_cases q : k = m
      · rw [q, zm]; dsimp only; omega
      · have := hr k
        rw [zh k (by omega)]
        dsimp only
        omega
    have je : (wv m r ((j + 1) % (2 * m))).1 = 20 * (2 * (m : Int) - ((j + 1 : Nat) : Int)) ∧ 0 ≤ (wv m r ((j + 1) % (2 * m))).2 := by
      by_cases q : j + 1 = 2 * m
      · rw [q, en]; dsimp only; omega
      · rw [em (j + 1) (by omega)]
        exact jx (j + 1) (by omega) (by omega)
    have jj := jx j (by omega) hj
    by_cases c2 : m ≤ i
    · have a := (jx i c2 (by omega)).1
      have b := (jx (i + 1) (by omega) (by omega)).1
      exact ⟨1, 0, -(20 * (2 * (m : Int) - (i : Int)) - 30), by unfold ev; omega, by unfold ev; omega, by unfold ev; omega, by unfold ev; omega⟩
    have ya := yl i (by omega)
    have yb := yl (i + 1) (by omega)
    by_cases c3 : j = m
    · subst c3
      have d := zh (j + 1) (by omega)
      have hj1 := hr (j + 1)
      rw [em (j + 1) (by omega), d, zm]
      have b := zl (i + 1) (by omega) (by omega)
      have hi1 := hr (i + 1)
      by_cases c4 : i = 0
      · subst c4
        rw [z0, b]
        exact ⟨-1, -1, 20 * (j : Int) - 10, by unfold ev; dsimp only; omega, by unfold ev; dsimp only; omega, by unfold ev; dsimp only; omega, by unfold ev; dsimp only; omega⟩
      · have a := zl i (by omega) (by omega)
        have hi0 := hr i
        rw [a, b]
        exact ⟨0, -1, -10, by unfold ev; dsimp only; omega, by unfold ev; dsimp only; omega, by unfold ev; dsimp only; omega, by unfold ev; dsimp only; omega⟩
    have hjy : 20 ≤ (wv m r j).2 := by
      have := hr j
      rw [zh j (by omega)]
      dsimp only
      omega
    by_cases c5 : j + 1 = 2 * m
    · rw [c5, en]
      have a := zl i (by omega) (by omega)
      have hi0 := hr i
      by_cases c6 : i + 1 = m
      · rw [c6, zm, a]
        have jx1 := jj.1
        exact ⟨1, -1, -10, by unfold ev; dsimp only; omega, by unfold ev; dsimp only; omega, by unfold ev; omega, by unfold ev; dsimp only; omega⟩
      · have b := zl (i + 1) (by omega) (by omega)
        have hi1 := hr (i + 1)
        rw [a, b]
        exact ⟨0, -1, -10, by unfold ev; dsimp only; omega, by unfold ev; dsimp only; omega, by unfold ev; omega, by unfold ev; dsimp only; omega⟩
    · have hjy1 : 20 ≤ (wv m r ((j + 1) % (2 * m))).2 := by
        have := hr (j + 1)
        rw [em (j + 1) (by omega), zh (j + 1) (by omega)]
        dsimp only
        omega
      exact ⟨0, -1, 10, by unfold ev; omega, by unfold ev; omega, by unfold ev; omega, by unfold ev; omega⟩
end RG
set_option linter.all false
set_option maxHeartbeats 4000000
/-! Rings as lists: whether one meets itself, by both looks; rings begun elsewhere, turned, moved, with middles; stars and waves as lists. -/
namespace RG
def cor (L : List Zp) (i : Nat) : Zp := L.getD (i % L.length) (0, 0)
def IsRing (L : List Zp) : Prop := Good L.length (cor L)
/-- both ways to tell whether sides meet -/
def PMeet (a b c d : Zp) : Prop := (¬ ApartX a b c d ∧ ¬ ApartY a b c d) ∧ Meet a b c d
theorem Meet.swap {a b c d : Zp} (h : Meet a b c d) : Meet c d a b := by
  rcases h with ⟨x, y⟩ | h | h | h | h
  · exact .inl ⟨y, x⟩
  · exact .inr (.inr (.inr (.inl h)))
  · exact .inr (.inr (.inr (.inr h)))
  · exact .inr (.inl h)
  · exact .inr (.inr (.inl h))
theorem PMeet.swap {a b c d : Zp} (h : PMeet a b c d) : PMeet c d a b := by
  refine ⟨?_, h.2.swap⟩
  have := h.1
  unfold ApartX ApartY at *
  omega
/-- the way turns straight back: by areas; by crosses of the ways -/
def Back (a b c : Zp) : Prop := ar a b c = 0 ∧ 0 < (a.1 - b.1) * (c.1 - b.1) + (a.2 - b.2) * (c.2 - b.2)
def LBack (a b c : Zp) : Prop := det a b c = 0 ∧ dot a b c < 0
theorem back_iff {a b c : Zp} : LBack a b c ↔ Back a b c := by
  unfold LBack Back
  have e1 : ar a b c = det a b c := by unfold ar det; grind
  have e2 : (a.1 - b.1) * (c.1 - b.1) + (a.2 - b.2) * (c.2 - b.2) = - dot a b c := by unfold dot; grind
  rw [e1, e2]
  omega
theorem Fwd.back {a b c : Zp} (h : Fwd a b c) : ¬ Back a b c := by
  rw [← back_iff]
  rintro ⟨h1, h2⟩
  rcases h.2.2 with h | h
  · exact h h1
  · omega
/-- the program's look: each side with all later ones that are no neighbours -/
def PBad (n : Nat) (P : Nat → Zp) : Prop := ∃ i, i < n ∧ (Back (P i) (P (i + 1)) (P (i + 2)) ∨ ∃ j, i + 2 ≤ j ∧ j < n - (if i = 0 then 1 else 0) ∧ PMeet (P i) (P (i + 1)) (P j) (P (j + 1)))
/-- the law's look: each side, by its end, with all earlier ones that are no neighbours -/
def LBad (n : Nat) (P : Nat → Zp) : Prop := ∃ i, i < n ∧ (LBack (P (i + n - 2)) (P (i + n - 1)) (P i) ∨ ∃ o, o < i ∧ 1 < i - o ∧ i - o < n - 1 ∧ LMeet (P (o + n - 1)) (P o) (P (i + n - 1)) (P i))
section
variable {n : Nat} {P : Nat → Zp} (h3 : 3 ≤ n) (per : ∀ i, P (i + n) = P i)
include h3 per
theorem bad_iff (ne : ∀ i, P i ≠ P (i + 1)) : LBad n P ↔ PBad n P := by
  have pr : ∀ i, 1 ≤ i → P (i + n - 1) = P (i - 1) := fun i h => by
    rw [show i + n - 1 = i - 1 + n by omega, per]
  constructor
  · rintro ⟨i, hi, h | ⟨o, h1, h2, h4, hm⟩⟩
    · have h := back_iff.1 h
      by_cases c : 2 ≤ i
      · refine ⟨i - 2, by omega, .inl ?_⟩
        rw [show i - 2 + 1 = i - 1 by omega, show i - 2 + 2 = i by omega]
        rwa [pr i (by omega), show i + n - 2 = i - 2 + n by omega, per] at h
      · refine ⟨i + n - 2, by omega, .inl ?_⟩
        rwa [show i + n - 2 + 1 = i + n - 1 by omega, show i + n - 2 + 2 = i + n by omega, per]
    · have n1 : P (o + n - 1) ≠ P o := by
        have := ne (o + n - 1)
        rwa [show o + n - 1 + 1 = o + n by omega, per] at this
      have n2 : P (i + n - 1) ≠ P i := by
        have := ne (i + n - 1)
        rwa [show i + n - 1 + 1 = i + n by omega, per] at this
      have hm := (lmeet_iff n1 n2).1 hm
      rw [pr i (by omega)] at hm
      by_cases c : o = 0
      · subst c
        refine ⟨i - 1, by omega, .inr ⟨n - 1, by omega, by split <;> omega, ?_⟩⟩
        rw [show i - 1 + 1 = i by omega, show n - 1 + 1 = 0 + n by omega, per]
        rw [show 0 + n - 1 = n - 1 by omega] at hm
        exact PMeet.swap hm
      · refine ⟨o - 1, by omega, .inr ⟨i - 1, by omega, by split <;> omega, ?_⟩⟩
        rw [show i - 1 + 1 = i by omega, show o - 1 + 1 = o by omega]
        rw [pr o (by omega)] at hm
        exact hm
  · rintro ⟨i, hi, h | ⟨j, h1, h2, hm⟩⟩
    · have h := back_iff.2 h
      by_cases c : i + 2 < n
      · refine ⟨i + 2, c, .inl ?_⟩
        rwa [show i + 2 + n - 2 = i + n by omega, per, show i + 2 + n - 1 = i + 1 + n by omega, per]
      · refine ⟨i + 2 - n, by omega, .inl ?_⟩
        rw [show i + 2 - n + n - 2 = i by omega, show i + 2 - n + n - 1 = i + 1 by omega]
        have := per (i + 2 - n)
        rw [show i + 2 - n + n = i + 2 by omega] at this
        rwa [← this]
    · have n1 := ne i
      have n2 := ne j
      by_cases c : j + 1 < n
      · refine ⟨j + 1, c, .inr ⟨i + 1, by omega, by omega, by split at h2 <;> omega, ?_⟩⟩
        rw [show i + 1 + n - 1 = i + n by omega, per, show j + 1 + n - 1 = j + n by omega, per]
        exact (lmeet_iff n1 n2).2 hm
      · have e : j + 1 = 0 + n := by split at h2 <;> omega
        have i0 : i ≠ 0 := fun z => by rw [if_pos z] at h2; omega
        refine ⟨i + 1, by omega, .inr ⟨0, by omega, by omega, by omega, ?_⟩⟩
        rw [show i + 1 + n - 1 = i + n by omega, per, show 0 + n - 1 = j by omega]
        rw [e, per] at hm n2
        exact (lmeet_iff n2 n1).2 hm.swap
end
theorem Good.not_bad {n : Nat} {P : Nat → Zp} (g : Good n P) : ¬ PBad n P := by
  rintro ⟨i, hi, h | ⟨j, h1, h2, hm⟩⟩
  · exact (g.turn i).back h
  · exact (g.sep i j (by omega) (by split at h2 <;> omega)).meet hm.2
/-! ### lists -/
theorem cor_lt {L : List Zp} {i : Nat} (h : i < L.length) : cor L i = L[i] := by
  unfold cor
  rw [Nat.mod_eq_of_lt h, List.getD_eq_getElem?_getD, List.getElem?_eq_getElem h]
  rfl
theorem cor_per (L : List Zp) (i : Nat) : cor L (i + L.length) = cor L i := by unfold cor; rw [Nat.add_mod_right]
theorem cor_mod (L : List Zp) (i : Nat) : cor L (i % L.length) = cor L i := by unfold cor; rw [Nat.mod_mod]
theorem isRing_of {L : List Zp} {P : Nat → Zp} (g : Good L.length P) (e : ∀ i, i < L.length → cor L i = P i) : IsRing L := by
  have e2 : cor L = P := by
    funext i
    rw [← cor_mod, e _ (Nat.mod_lt _ (by have := g.three; omega)), ← per_mod g.per]
  unfold IsRing
  rw [e2]
  exact g
section
variable {L : List Zp} (g : IsRing L)
include g
theorem IsRing.pos : 3 ≤ L.length := g.three
theorem IsRing.ne_ {i j : Nat} (h : i < j) (hj : j < L.length) : L[i]'(by omega) ≠ L[j] := by
  have := Good.ne g h (by omega)
  rwa [cor_lt (by omega), cor_lt hj] at this
theorem IsRing.nodup : L.Nodup := by
  rw [List.nodup_iff_pairwise_ne, List.pairwise_iff_getElem]
  intro i j hi hj h
  exact g.ne_ h hj
theorem IsRing.moved {a b c d r t : Int} (hd : a * d - b * c ≠ 0) : IsRing (L.map (mv a b c d r t)) := by
  refine isRing_of (P := fun i => mv a b c d r t (cor L i)) (by rw [List.length_map]; exact Good.moved g hd) fun i hi => ?_
  rw [List.length_map] at hi
  rw [cor_lt (by rw [List.length_map]; exact hi), List.getElem_map, cor_lt hi]
theorem IsRing.turned : IsRing L.reverse := by
  refine isRing_of (P := fun i => cor L (L.length - 1 - i % L.length)) (by rw [List.length_reverse]; exact Good.turned g) fun i hi => ?_
  rw [List.length_reverse] at hi
  rw [cor_lt (by rw [List.length_reverse]; exact hi), List.getElem_reverse, Nat.mod_eq_of_lt hi, cor_lt (by omega)]
theorem IsRing.begun (m : Nat) (hm : m ≤ L.length) : IsRing (L.drop m ++ L.take m) := by
  have len : (L.drop m ++ L.take m).length = L.length := by
    rw [List.length_append, List.length_drop, List.length_take]
    omega
  refine isRing_of (P := fun i => cor L (i + m)) (by rw [len]; exact Good.begun g m) fun i hi => ?_
  rw [len] at hi
  rw [cor_lt (by rw [len]; exact hi)]
  show _ = cor L (i + m)
  by_cases c : i < L.length - m
  · rw [List.getElem_append_left (by rw [List.length_drop]; exact c), List.getElem_drop, cor_lt (by omega)]
    congr 1
    omega
  · rw [List.getElem_append_right (by rw [List.length_drop]; omega), List.getElem_take]
    have := cor_per L (i + m - L.length)
    rw [show i + m - L.length + L.length = i + m by omega] at this
    rw [this, cor_lt (by omega)]
    congr 1
    rw [List.length_drop]
    omega
theorem IsRing.more {m : Zp} (hm : Mid (cor L (L.length - 1)) (cor L 0) m) : IsRing (L ++ [m]) := by
  refine isRing_of (by rw [List.length_append]; exact Good.more g hm) fun i hi => ?_
  rw [List.length_append, List.length_singleton] at hi
  rw [cor_lt (by rw [List.length_append, List.length_singleton]; exact hi)]
  show _ = if i % (L.length + 1) < L.length then cor L (i % (L.length + 1)) else m
  rw [Nat.mod_eq_of_lt hi]
  by_cases c : i < L.length
  · rw [if_pos c, List.getElem_append_left c, cor_lt c]
  · rw [if_neg c, List.getElem_append_right (by omega)]
    simp
end
/-! ### a ring with some middles more -/
/-- ahead of each corner nothing, or the middle of the side to it -/
inductive Mids : Zp → List Zp → List Zp → Prop
  | nil {a : Zp} : Mids a [] []
  | one {a b : Zp} {r q : List Zp} : Mids b r q → Mids a (b :: r) (b :: q)
  | two {a b m : Zp} {r q : List Zp} : Mid a b m → Mids b r q → Mids a (b :: r) (m :: b :: q)
theorem rot1 {b : Zp} {r : List Zp} (g : IsRing (b :: r)) : IsRing (r ++ [b]) := by
  have := g.begun 1 (by rw [List.length_cons]; omega)
  simpa using this
theorem last_cor {r : List Zp} {a : Zp} : cor (r ++ [a]) ((r ++ [a]).length - 1) = a := by
  rw [cor_lt (by rw [List.length_append, List.length_singleton]; omega)]
  simp
theorem mids_ring {a : Zp} {r q : List Zp} (h : Mids a r q) : ∀ s : List Zp, IsRing (r ++ s) → cor (r ++ s) ((r ++ s).length - 1) = a → IsRing (s ++ q) := by
  induction h with
  | nil =>
    intro s g _
    simpa using g
  | @one a b r q _ ih =>
    intro s g _
    have g2 : IsRing (r ++ s ++ [b]) := rot1 g
    have := ih (s ++ [b]) (by rw [← List.append_assoc]; exact g2) (by rw [← List.append_assoc]; exact last_cor)
    simpa using this
  | @two a b m r q hm _ ih =>
    intro s g e
    have h0 : cor (b :: r ++ s) 0 = b := by rw [cor_lt (by simp)]; rfl
    have g1 : IsRing (b :: r ++ s ++ [m]) := IsRing.more g (by rw [e, h0]; exact hm)
    have g2 : IsRing (r ++ s ++ [m] ++ [b]) := rot1 (r := r ++ s ++ [m]) g1
    have := ih (s ++ [m] ++ [b]) (by simpa using g2) (by
      rw [show r ++ (s ++ [m] ++ [b]) = (r ++ s ++ [m]) ++ [b] by simp]
      exact last_cor)
    simpa using this
/-- the whole of it: from the last corner on -/
theorem IsRing.mids {L q : List Zp} (g : IsRing L) (h : Mids (cor L (L.length - 1)) L q) : IsRing q := by
  have := mids_ring h [] (by simpa using g) (by simp)
  simpa using this
/-! ### stars and waves as lists -/
theorem starL {ks : List Nat} {fs : List Int} (hl : fs.length = ks.length) (hf : ∀ f ∈ fs, 0 < f) (asc : ks.Pairwise (· < ·)) (hk : ∀ k ∈ ks, k < 16) (hq : ∀ q, q < 4 → ∃ k ∈ ks, k / 4 = q) : IsRing (List.zipWith ray fs ks) := by
  have lt : ∀ i j (hi : i < ks.length) (hj : j < ks.length), i < j → ks[i] < ks[j] := fun i j hi hj h => (List.pairwise_iff_getElem.1 asc) i j hi hj h
  have at_q : ∀ q, q < 4 → ∃ i, ∃ hi : i < ks.length, ks[i] / 4 = q := fun q h => by
    obtain ⟨k, hm, e⟩ := hq q h
    obtain ⟨i, hi, rfl⟩ := List.mem_iff_getElem.1 hm
    exact ⟨i, hi, e⟩
  have le : ∀ i j (hi : i < ks.length) (hj : j < ks.length), ks[i] < ks[j] → i < j := fun i j hi hj h => by
    rcases Nat.lt_trichotomy i j with c | c | c
    · exact c
    · subst c; omega
    · have := lt j i hj hi c; omega
  have n3 : 3 ≤ ks.length := by
    obtain ⟨i0, h0, e0⟩ := at_q 0 (by decide)
    obtain ⟨i1, h1, e1⟩ := at_q 1 (by decide)
    obtain ⟨i2, h2, e2⟩ := at_q 2 (by decide)
    have a := le i0 i1 h0 h1 (by omega)
    have b := le i1 i2 h1 h2 (by omega)
    omega
  have bd : ∀ i (hi : i < ks.length), ks[i] < 16 := fun i hi => hk _ (List.getElem_mem hi)
  have first : ks[0]'(by omega) < 4 := by
    obtain ⟨i, hi, e⟩ := at_q 0 (by decide)
    by_cases c : i = 0
    · subst c; omega
    · have := lt 0 i (by omega) hi (by omega); omega
  have last : 12 ≤ ks[ks.length - 1]'(by omega) := by
    obtain ⟨i, hi, e⟩ := at_q 3 (by decide)
    by_cases c : i = ks.length - 1
    · subst c; omega
    · have := lt i (ks.length - 1) hi (by omega) (by omega); omega
  have gap : ∀ i (hi : i + 1 < ks.length), ks[i + 1] < ks[i] + 8 := fun i hi => by
    have b1 := bd i (by omega)
    have b2 := bd (i + 1) hi
    by_cases c : ks[i] / 4 = 3
    · omega
    · obtain ⟨j, hj, e⟩ := at_q (ks[i] / 4 + 1) (by omega)
      have := le i j (by omega) hj (by omega)
      by_cases c2 : j = i + 1
      · subst c2; omega
      · have := lt (i + 1) j hi hj (by omega); omega
  have kd : ∀ i (hi : i < ks.length), ks.getD i 0 = ks[i] := fun i hi => by rw [List.getD_eq_getElem?_getD, List.getElem?_eq_getElem hi]; rfl
  have fd : ∀ i (hi : i < fs.length), fs.getD i 1 = fs[i] := fun i hi => by rw [List.getD_eq_getElem?_getD, List.getElem?_eq_getElem hi]; rfl
  have dm : ∀ i, i / ks.length * ks.length + i % ks.length = i := fun i => by rw [Nat.mul_comm]; exact Nat.div_add_mod i ks.length
  have step : ∀ i, ((i + 1) % ks.length = i % ks.length + 1 ∧ (i + 1) / ks.length = i / ks.length ∧ i % ks.length + 1 < ks.length) ∨ ((i + 1) % ks.length = 0 ∧ (i + 1) / ks.length = i / ks.length + 1 ∧ i % ks.length + 1 = ks.length) := fun i => by
    have l := Nat.mod_lt i (show 0 < ks.length by omega)
    by_cases c : i % ks.length + 1 < ks.length
    · refine .inl ⟨?_, ?_, c⟩
      · rw [Nat.add_mod, Nat.mod_eq_of_lt (show 1 < ks.length by omega), Nat.mod_eq_of_lt c]
      · rw [Nat.add_div (by omega), Nat.div_eq_of_lt (show 1 < ks.length by omega), Nat.mod_eq_of_lt (show 1 < ks.length by omega), if_neg (by omega)]
        try omega
    · have e : i % ks.length + 1 = ks.length := by omega
      refine .inr ⟨?_, ?_, e⟩
      · rw [Nat.add_mod, Nat.mod_eq_of_lt (show 1 < ks.length by omega), e, Nat.mod_self]
      · rw [Nat.add_div (by omega), Nat.div_eq_of_lt (show 1 < ks.length by omega), Nat.mod_eq_of_lt (show 1 < ks.length by omega), if_pos (by omega)]
        try omega
  have len : (List.zipWith ray fs ks).length = ks.length := by rw [List.length_zipWith, hl, Nat.min_self]
  refine isRing_of (P := fun i => ray (fs.getD (i % ks.length) 1) (ks.getD (i % ks.length) 0 + 16 * (i / ks.length))) ?_ fun i hi => ?_
  · rw [len]
    refine star_good (K := fun i => ks.getD (i % ks.length) 0 + 16 * (i / ks.length)) (f := fun i => fs.getD (i % ks.length) 1) n3 (fun i => ?_) (fun i => ?_) (fun i => ?_) (fun i => ?_) (fun i => ?_)
    · have l := Nat.mod_lt i (show 0 < ks.length by omega)
      try dsimp only
      rcases step i with ⟨e1, e2, c⟩ | ⟨e1, e2, c⟩
      · rw [e1, e2, kd _ l, kd _ c]
        have := lt (i % ks.length) (i % ks.length + 1) l c (by omega)
        omega
      · rw [e1, e2, kd _ l, kd 0 (by omega)]
        have := bd _ l
        omega
    · have l := Nat.mod_lt i (show 0 < ks.length by omega)
      try dsimp only
      rcases step i with ⟨e1, e2, c⟩ | ⟨e1, e2, c⟩
      · rw [e1, e2, kd _ l, kd _ c]
        have := gap (i % ks.length) c
        omega
      · rw [e1, e2, kd _ l, kd 0 (by omega)]
        have e : i % ks.length = ks.length - 1 := by omega
        have : ks[i % ks.length] = ks[ks.length - 1]'(by omega) := by congr 1
        omega
    · try dsimp only
      rw [Nat.add_mod_right, Nat.add_div_right _ (by omega)]
      omega
    · have l := Nat.mod_lt i (show 0 < ks.length by omega)
      try dsimp only
      rw [fd _ (by omega)]
      exact hf _ (List.getElem_mem _)
    · try dsimp only
      rw [Nat.add_mod_right]
  · rw [len] at hi
    rw [cor_lt (by rw [len]; exact hi), List.getElem_zipWith]
    try dsimp only
    rw [Nat.mod_eq_of_lt hi, kd i hi, fd i (by omega), Nat.div_eq_of_lt hi]
    rfl
theorem waveL {rs ss : List Int} (hl : ss.length = rs.length) (h1 : 1 ≤ rs.length) (hr : ∀ x ∈ rs, 0 ≤ x) (hs : ∀ x ∈ ss, 0 ≤ x) :
    IsRing ([(0, 0)] ++ (List.range rs.length).map (fun (t : Nat) => ((20 * ((t : Int) + 1), -20 - rs.getD t 0) : Zp)) ++ [(20 * ((rs.length : Int) + 1), 0)] ++ ((List.range rs.length).map (fun (t : Nat) => ((20 * ((t : Int) + 1), 20 + ss.getD t 0) : Zp))).reverse) := by
  have gd : ∀ (l : List Int) (hl : ∀ x ∈ l, 0 ≤ x) (i : Nat), 0 ≤ l.getD i 0 := fun l hl i => by
    rw [List.getD_eq_getElem?_getD]
    cases e : l[i]? with
    | none => exact Int.le_refl _
    | some x => exact hl x (List.mem_of_getElem? e)
  have hp : ∀ i, 0 ≤ (if i ≤ rs.length then rs.getD (i - 1) 0 else ss.getD (2 * (rs.length + 1) - i - 1) 0) := fun i => by
    split
    · exact gd rs hr _
    · exact gd ss hs _
  have W := wave_good (m := rs.length + 1) (by omega) hp
  generalize hN : rs.length = N at *
  have len : ([(0, 0)] ++ (List.range N).map (fun (t : Nat) => ((20 * ((t : Int) + 1), -20 - rs.getD t 0) : Zp)) ++ [(20 * ((N : Int) + 1), 0)] ++ ((List.range N).map (fun (t : Nat) => ((20 * ((t : Int) + 1), 20 + ss.getD t 0) : Zp))).reverse).length = 2 * (N + 1) := by
    simp
    omega
  refine isRing_of (by rw [len]; exact W) fun i hi => ?_
  rw [cor_lt hi]
  rw [len] at hi
  show _ = wv (N + 1) _ (i % (2 * (N + 1)))
  rw [Nat.mod_eq_of_lt hi]
  unfold wv
  by_cases c0 : i = 0
  · subst c0
    simp
  by_cases c1 : i ≤ N
  · rw [if_pos (by omega), if_neg (by omega)]
    rw [List.getElem_append_left (by simp; omega), List.getElem_append_left (by simp; omega), List.getElem_append_right (by simp; omega)]
    rw [List.getElem_map, List.getElem_range]
    dsimp only
    rw [if_pos c1, List.length_singleton]
    refine Prod.ext ?_ rfl
    dsimp only
    omega
  by_cases c2 : i = N + 1
  · subst c2
    rw [if_pos (by omega), if_pos (.inr rfl)]
    rw [List.getElem_append_left (by simp), List.getElem_append_right (by simp)]
    simp
  · rw [if_neg (by omega), List.getElem_append_right (by simp; omega), List.getElem_reverse, List.getElem_map, List.getElem_range]
    dsimp only
    rw [if_neg c1]
    simp only [List.length_append, List.length_map, List.length_range, List.length_singleton]
    refine Prod.ext ?_ ?_
    · try dsimp only
      omega
    · try dsimp only
      rw [show N - 1 - (i - (1 + N + 1)) = 2 * (N + 1) - i - 1 by omega]
end RG
set_option Elab.async false
set_option linter.all false
set_option maxRecDepth 100000
set_option maxHeartbeats 8000000
namespace LW
open PySem PySem.Spec PyProof.Rows L2 V2
open PySem.W (Frag)
def top (i : Nat) : Stmt := PySem.Challenge.pw_leastfield_k09_any_values_as_rings.main.body.getD i (.Pass ⟨0, 0, 0, 0⟩)
abbrev s_is_int : Stmt := top 4
abbrev s_is_tuple_of : Stmt := top 5
abbrev s_are_ints : Stmt := top 6
abbrev s_whole : Stmt := top 8
abbrev s_sign_of : Stmt := top 9
abbrev s_whole_area : Stmt := top 11
abbrev s_whole_turn : Stmt := top 12
abbrev s_whole_on : Stmt := top 13
abbrev s_whole_crosses : Stmt := top 14
abbrev s_sides_along : Stmt := top 16
abbrev s__apart : Stmt := top 17
abbrev s__meet : Stmt := top 18
abbrev s_turns_back : Stmt := top 19
abbrev s_meets_itself : Stmt := top 20
abbrev s_is_corner : Stmt := top 23
abbrev s_ring_sides : Stmt := top 24
abbrev s_need_ring : Stmt := top 25
abbrev s_is_ring : Stmt := top 26
abbrev s__law_deal : Stmt := top 28
abbrev s__law_any : Stmt := top 29
abbrev s__law_of : Stmt := top 30
abbrev s__law_star : Stmt := top 31
abbrev s__law_wave : Stmt := top 32
abbrev s__law_more : Stmt := top 33
abbrev s__law_map : Stmt := top 34
abbrev s__law_put : Stmt := top 35
abbrev s__law_ring : Stmt := top 36
abbrev s__law_is_int : Stmt := top 37
abbrev s__law_cross : Stmt := top 38
abbrev s__law_is_within : Stmt := top 39
abbrev s__law_meet : Stmt := top 40
abbrev s__law_corner_fault : Stmt := top 41
abbrev s__law_ring_fault : Stmt := top 42
abbrev s__law_heard : Stmt := top 43
abbrev s__law_bent : Stmt := top 44
abbrev s_law : Stmt := top 45
structure Ad where
  a_is_int : Addr
  fd_is_int : FuncData
  a_is_tuple_of : Addr
  fd_is_tuple_of : FuncData
  a_are_ints : Addr
  fd_are_ints : FuncData
  a_whole : Addr
  fd_whole : FuncData
  a_sign_of : Addr
  fd_sign_of : FuncData
  a_whole_area : Addr
  fd_whole_area : FuncData
  a_whole_turn : Addr
  fd_whole_turn : FuncData
  a_whole_on : Addr
  fd_whole_on : FuncData
  a_whole_crosses : Addr
  fd_whole_crosses : FuncData
  a_sides_along : Addr
  fd_sides_along : FuncData
  a__apart : Addr
  fd__apart : FuncData
  a__meet : Addr
  fd__meet : FuncData
  a_turns_back : Addr
  fd_turns_back : FuncData
  a_meets_itself : Addr
  fd_meets_itself : FuncData
  a_is_corner : Addr
  fd_is_corner : FuncData
  a_ring_sides : Addr
  fd_ring_sides : FuncData
  a_need_ring : Addr
  fd_need_ring : FuncData
  a_is_ring : Addr
  fd_is_ring : FuncData
  a__law_deal : Addr
  fd__law_deal : FuncData
  a__law_any : Addr
  fd__law_any : FuncData
  a__law_of : Addr
  fd__law_of : FuncData
  a__law_star : Addr
  fd__law_star : FuncData
  a__law_wave : Addr
  fd__law_wave : FuncData
  a__law_more : Addr
  fd__law_more : FuncData
  a__law_map : Addr
  fd__law_map : FuncData
  a__law_put : Addr
  fd__law_put : FuncData
  a__law_ring : Addr
  fd__law_ring : FuncData
  a__law_is_int : Addr
  fd__law_is_int : FuncData
  a__law_cross : Addr
  fd__law_cross : FuncData
  a__law_is_within : Addr
  fd__law_is_within : FuncData
  a__law_meet : Addr
  fd__law_meet : FuncData
  a__law_corner_fault : Addr
  fd__law_corner_fault : FuncData
  a__law_ring_fault : Addr
  fd__law_ring_fault : FuncData
  a__law_heard : Addr
  fd__law_heard : FuncData
  a__law_bent : Addr
  fd__law_bent : FuncData
  a_law : Addr
  fd_law : FuncData
  c_FieldError : Addr
  c_InvalidRing : Addr
  i_InvalidRing : Addr
structure Txt (K : Frag) (mg : Str → Option Value) (z : Ad) : Prop where
  d_is_int : DefAt K mg "is_int" s_is_int z.a_is_int z.fd_is_int
  b_is_int : Binds K z.fd_is_int ["value"] []
  d_is_tuple_of : DefAt K mg "is_tuple_of" s_is_tuple_of z.a_is_tuple_of z.fd_is_tuple_of
  b_is_tuple_of : Binds K z.fd_is_tuple_of ["value", "many"] []
  d_are_ints : DefAt K mg "are_ints" s_are_ints z.a_are_ints z.fd_are_ints
  b_are_ints : Binds K z.fd_are_ints ["value", "many"] []
  d_whole : DefAt K mg "whole" s_whole z.a_whole z.fd_whole
  b_whole : Binds K z.fd_whole ["number"] []
  d_sign_of : DefAt K mg "sign_of" s_sign_of z.a_sign_of z.fd_sign_of
  b_sign_of : Binds K z.fd_sign_of ["one"] []
  d_whole_area : DefAt K mg "whole_area" s_whole_area z.a_whole_area z.fd_whole_area
  b_whole_area : Binds K z.fd_whole_area ["a", "b", "c"] []
  d_whole_turn : DefAt K mg "whole_turn" s_whole_turn z.a_whole_turn z.fd_whole_turn
  b_whole_turn : Binds K z.fd_whole_turn ["a", "b", "c"] []
  d_whole_on : DefAt K mg "whole_on" s_whole_on z.a_whole_on z.fd_whole_on
  b_whole_on : Binds K z.fd_whole_on ["a", "b", "p"] []
  d_whole_crosses : DefAt K mg "whole_crosses" s_whole_crosses z.a_whole_crosses z.fd_whole_crosses
  b_whole_crosses : Binds K z.fd_whole_crosses ["a", "b", "c", "d"] []
  d_sides_along : DefAt K mg "sides_along" s_sides_along z.a_sides_along z.fd_sides_along
  b_sides_along : Binds K z.fd_sides_along ["ring"] []
  d__apart : DefAt K mg "_apart" s__apart z.a__apart z.fd__apart
  b__apart : Binds K z.fd__apart ["first", "second"] []
  d__meet : DefAt K mg "_meet" s__meet z.a__meet z.fd__meet
  b__meet : Binds K z.fd__meet ["first", "second"] []
  d_turns_back : DefAt K mg "turns_back" s_turns_back z.a_turns_back z.fd_turns_back
  b_turns_back : Binds K z.fd_turns_back ["a", "b", "c"] []
  d_meets_itself : DefAt K mg "meets_itself" s_meets_itself z.a_meets_itself z.fd_meets_itself
  b_meets_itself : Binds K z.fd_meets_itself ["ring"] []
  d_is_corner : DefAt K mg "is_corner" s_is_corner z.a_is_corner z.fd_is_corner
  b_is_corner : Binds K z.fd_is_corner ["value"] []
  k_is_corner_value : KwB K z.fd_is_corner ["value"] ["value"] [0]
  d_ring_sides : DefAt K mg "ring_sides" s_ring_sides z.a_ring_sides z.fd_ring_sides
  b_ring_sides : Binds K z.fd_ring_sides ["ring"] []
  k_ring_sides_ring : KwB K z.fd_ring_sides ["ring"] ["ring"] [0]
  d_need_ring : DefAt K mg "need_ring" s_need_ring z.a_need_ring z.fd_need_ring
  b_need_ring : Binds K z.fd_need_ring ["value"] []
  k_need_ring_value : KwB K z.fd_need_ring ["value"] ["value"] [0]
  d_is_ring : DefAt K mg "is_ring" s_is_ring z.a_is_ring z.fd_is_ring
  b_is_ring : Binds K z.fd_is_ring ["value"] []
  k_is_ring_value : KwB K z.fd_is_ring ["value"] ["value"] [0]
  d__law_deal : DefAt K mg "_law_deal" s__law_deal z.a__law_deal z.fd__law_deal
  b__law_deal : Binds K z.fd__law_deal ["script", "base"] []
  d__law_any : DefAt K mg "_law_any" s__law_any z.a__law_any z.fd__law_any
  b__law_any : Binds K z.fd__law_any ["deal", "bound"] []
  d__law_of : DefAt K mg "_law_of" s__law_of z.a__law_of z.fd__law_of
  b__law_of : Binds K z.fd__law_of ["deal", "some"] []
  d__law_star : DefAt K mg "_law_star" s__law_star z.a__law_star z.fd__law_star
  b__law_star : Binds K z.fd__law_star ["deal", "centre", "most", "each"] []
  d__law_wave : DefAt K mg "_law_wave" s__law_wave z.a__law_wave z.fd__law_wave
  b__law_wave : Binds K z.fd__law_wave ["deal", "many"] []
  d__law_more : DefAt K mg "_law_more" s__law_more z.a__law_more z.fd__law_more
  b__law_more : Binds K z.fd__law_more ["deal", "ring"] []
  d__law_map : DefAt K mg "_law_map" s__law_map z.a__law_map z.fd__law_map
  b__law_map : Binds K z.fd__law_map ["deal"] []
  d__law_put : DefAt K mg "_law_put" s__law_put z.a__law_put z.fd__law_put
  b__law_put : Binds K z.fd__law_put ["ring", "rule"] []
  d__law_ring : DefAt K mg "_law_ring" s__law_ring z.a__law_ring z.fd__law_ring
  b__law_ring : Binds K z.fd__law_ring ["deal"] []
  d__law_is_int : DefAt K mg "_law_is_int" s__law_is_int z.a__law_is_int z.fd__law_is_int
  b__law_is_int : Binds K z.fd__law_is_int ["value"] []
  d__law_cross : DefAt K mg "_law_cross" s__law_cross z.a__law_cross z.fd__law_cross
  b__law_cross : Binds K z.fd__law_cross ["a", "b", "c"] []
  d__law_is_within : DefAt K mg "_law_is_within" s__law_is_within z.a__law_is_within z.fd__law_is_within
  b__law_is_within : Binds K z.fd__law_is_within ["number", "whole_v"] []
  d__law_meet : DefAt K mg "_law_meet" s__law_meet z.a__law_meet z.fd__law_meet
  b__law_meet : Binds K z.fd__law_meet ["a", "b", "c", "d"] []
  d__law_corner_fault : DefAt K mg "_law_corner_fault" s__law_corner_fault z.a__law_corner_fault z.fd__law_corner_fault
  b__law_corner_fault : Binds K z.fd__law_corner_fault ["value"] []
  d__law_ring_fault : DefAt K mg "_law_ring_fault" s__law_ring_fault z.a__law_ring_fault z.fd__law_ring_fault
  b__law_ring_fault : Binds K z.fd__law_ring_fault ["value"] []
  d__law_heard : DefAt K mg "_law_heard" s__law_heard z.a__law_heard z.fd__law_heard
  b__law_heard : Binds K z.fd__law_heard ["value"] []
  d__law_bent : DefAt K mg "_law_bent" s__law_bent z.a__law_bent z.fd__law_bent
  b__law_bent : Binds K z.fd__law_bent ["deal", "ring"] []
  d_law : DefAt K mg "law" s_law z.a_law z.fd_law
  b_law : Binds K z.fd_law ["script"] []
  n_abs : mg "abs" = none
  n_all : mg "all" = none
  n_bool : mg "bool" = none
  n_enumerate : mg "enumerate" = none
  n_int : mg "int" = none
  n_isinstance : mg "isinstance" = none
  n_len : mg "len" = none
  n_list : mg "list" = none
  n_max : mg "max" = none
  n_min : mg "min" = none
  n_range : mg "range" = none
  n_repr : mg "repr" = none
  n_tuple : mg "tuple" = none
  n_zip : mg "zip" = none
  g_FieldError : mg "FieldError" = some (.ref z.c_FieldError)
  g_InvalidRing : mg "InvalidRing" = some (.ref z.c_InvalidRing)
  x_InvalidRing : XOwn K mg "InvalidRing" z.c_InvalidRing z.i_InvalidRing "at"
  f_InvalidRing : XfC K z.c_InvalidRing
  nf_InvalidRing_at : PySem.W.findIn K (.ref z.c_InvalidRing) "at" = some none
  is_InvalidRing : XIs K z.c_InvalidRing
  is_InvalidRing_FieldError : PySem.W.kitOne K (.ref z.c_InvalidRing) (.ref z.c_FieldError) = some true
  t_InvalidRing : ∀ nm C b, mg nm = some (.ref C) → only "InvalidRing" nm = some b → PySem.W.exmOne K (.ref C) (.ref z.c_InvalidRing) = some b
  m__FARTHEST : ∃ t, mg "_FARTHEST" = some (.int 1000 t)
section
variable {P : Program} {w : World} {K : Frag} {mg : Str → Option Value} {base : Heap} {z : Ad}
theorem sc_is_int : FnScope ["value"] ["value"] (defScope s_is_int) := ⟨rfl, rfl, rfl, by decide +kernel, rfl, by decide +kernel, by decide +kernel⟩
theorem g_is_int (T : Txt K mg z) : FnG P w K mg base 1 z.a_is_int z.fd_is_int ["value"] M_is_int := by
  refine fnG_of (N := ["value"]) T.d_is_int.F sc_is_int fun cdv A outer s H E hr hgu => ?_
  have hu := hr.units
  exact (SB.one (SS.ret (SE.and (SE.isi (p2 := ⟨0, 0, 0, 0⟩) (T := "int") (by rfl) T.n_isinstance (by rfl) T.n_int (by decide +kernel) (SE.var 0)) (SE.one (SE.not (SE.isi (p2 := ⟨0, 0, 0, 0⟩) (T := "bool") (by rfl) T.n_isinstance (by rfl) T.n_bool (by decide +kernel) (SE.var 0)))))))
theorem sc_is_tuple_of : FnScope ["value", "many"] ["value", "many"] (defScope s_is_tuple_of) := ⟨rfl, rfl, rfl, by decide +kernel, rfl, by decide +kernel, by decide +kernel⟩
theorem g_is_tuple_of (T : Txt K mg z) : FnG P w K mg base 1 z.a_is_tuple_of z.fd_is_tuple_of ["value", "many"] M_is_tuple_of := by
  refine fnG_of (N := ["value", "many"]) T.d_is_tuple_of.F sc_is_tuple_of fun cdv A outer s H E hr hgu => ?_
  have hu := hr.units
  exact (SB.one (SS.ret (SE.and (SE.isi (p2 := ⟨0, 0, 0, 0⟩) (T := "tuple") (by rfl) T.n_isinstance (by rfl) T.n_tuple (by decide +kernel) (SE.var 0)) (SE.one (SE.eq hu (SE.len (by rfl) T.n_len (SA.cons (SE.var 0) SA.nil)) (SE.var 1))))))
theorem sc_whole : FnScope ["number"] ["number"] (defScope s_whole) := ⟨rfl, rfl, rfl, by decide +kernel, rfl, by decide +kernel, by decide +kernel⟩
theorem g_whole (T : Txt K mg z) : FnG P w K mg base 1 z.a_whole z.fd_whole ["number"] M_whole := by
  refine fnG_of (N := ["number"]) T.d_whole.F sc_whole fun cdv A outer s H E hr hgu => ?_
  have hu := hr.units
  exact (SB.one (SS.ret (SE.tup (SA.cons (SE.var 0) (SA.cons SE.int SA.nil)))))
theorem sc_sign_of : FnScope ["one"] ["one"] (defScope s_sign_of) := ⟨rfl, rfl, rfl, by decide +kernel, rfl, by decide +kernel, by decide +kernel⟩
theorem g_sign_of (T : Txt K mg z) : FnG P w K mg base 1 z.a_sign_of z.fd_sign_of ["one"] M_sign_of := by
  refine fnG_of (N := ["one"]) T.d_sign_of.F sc_sign_of fun cdv A outer s H E hr hgu => ?_
  have hu := hr.units
  exact (SB.cons (SS.ifS (ST.gt (SE.ix (SE.var 0) SE.int) SE.int) (SB.one (SS.ret SE.int)) SB.nil)
    (SB.cons (SS.ifS (ST.lt (SE.ix (SE.var 0) SE.int) SE.int) (SB.one (SS.ret (SE.neg SE.int))) SB.nil)
    (SB.one (SS.ret SE.int))))
theorem sc_whole_area : FnScope ["a", "b", "c"] ["a", "b", "c"] (defScope s_whole_area) := ⟨rfl, rfl, rfl, by decide +kernel, rfl, by decide +kernel, by decide +kernel⟩
theorem g_whole_area (T : Txt K mg z) : FnG P w K mg base 1 z.a_whole_area z.fd_whole_area ["a", "b", "c"] M_whole_area := by
  refine fnG_of (N := ["a", "b", "c"]) T.d_whole_area.F sc_whole_area fun cdv A outer s H E hr hgu => ?_
  have hu := hr.units
  exact (SB.one (SS.ret (SE.sub (SE.mul (SE.sub (SE.ix (SE.var 1) SE.int) (SE.ix (SE.var 0) SE.int)) (SE.sub (SE.ix (SE.var 2) SE.int) (SE.ix (SE.var 0) SE.int))) (SE.mul (SE.sub (SE.ix (SE.var 1) SE.int) (SE.ix (SE.var 0) SE.int)) (SE.sub (SE.ix (SE.var 2) SE.int) (SE.ix (SE.var 0) SE.int))))))
theorem sc_sides_along : FnScope ["ring"] ["ring"] (defScope s_sides_along) := ⟨rfl, rfl, rfl, by decide +kernel, rfl, by decide +kernel, by decide +kernel⟩
theorem g_sides_along (T : Txt K mg z) : FnG P w K mg base 1 z.a_sides_along z.fd_sides_along ["ring"] M_sides_along := by
  refine fnG_of (N := ["ring"]) T.d_sides_along.F sc_sides_along fun cdv A outer s H E hr hgu => ?_
  have hu := hr.units
  exact (SB.one (SS.ret (SE.zipL (by rfl) T.n_list (by rfl) T.n_zip (by rfl) (SA.cons (SE.var 0) (SA.cons (SE.add (SE.slice (SE.var 0) (SO.some SE.int) SO.none) (SE.slice (SE.var 0) SO.none (SO.some SE.int))) SA.nil)))))
theorem sc__apart : FnScope ["first", "second", "a", "b", "c", "d"] ["first", "second"] (defScope s__apart) := ⟨rfl, rfl, rfl, by decide +kernel, rfl, by decide +kernel, by decide +kernel⟩
theorem g__apart (T : Txt K mg z) : FnG P w K mg base 1 z.a__apart z.fd__apart ["first", "second"] M__apart := by
  refine fnG_of (N := ["first", "second", "a", "b", "c", "d"]) T.d__apart.F sc__apart fun cdv A outer s H E hr hgu => ?_
  have hu := hr.units
  exact (SB.cons (SS.asg (SE.tup (SA.cons (SE.var 0) (SA.cons (SE.var 1) SA.nil))) (SG.tup (by rfl) (SGs.cons (SG.tup (by rfl) (SGs.cons (SG.name 2 sc__apart.nd (by rfl) (Or.inl (by rfl))) (SGs.cons (SG.name 3 sc__apart.nd (by rfl) (Or.inl (by rfl))) SGs.nil))) (SGs.cons (SG.tup (by rfl) (SGs.cons (SG.name 4 sc__apart.nd (by rfl) (Or.inl (by rfl))) (SGs.cons (SG.name 5 sc__apart.nd (by rfl) (Or.inl (by rfl))) SGs.nil))) SGs.nil))))
    (SB.one (SS.ret (SE.or (SE.lt (SE.callB (call_max2 (by rfl)) cp_max2 (by rfl) T.n_max (by decide +kernel) (SA.cons (SE.ix (SE.var 2) SE.int) (SA.cons (SE.ix (SE.var 3) SE.int) SA.nil))) (SE.callB (call_min2 (by rfl)) cp_min2 (by rfl) T.n_min (by decide +kernel) (SA.cons (SE.ix (SE.var 4) SE.int) (SA.cons (SE.ix (SE.var 5) SE.int) SA.nil)))) (SE.or (SE.lt (SE.callB (call_max2 (by rfl)) cp_max2 (by rfl) T.n_max (by decide +kernel) (SA.cons (SE.ix (SE.var 4) SE.int) (SA.cons (SE.ix (SE.var 5) SE.int) SA.nil))) (SE.callB (call_min2 (by rfl)) cp_min2 (by rfl) T.n_min (by decide +kernel) (SA.cons (SE.ix (SE.var 2) SE.int) (SA.cons (SE.ix (SE.var 3) SE.int) SA.nil)))) (SE.or (SE.lt (SE.callB (call_max2 (by rfl)) cp_max2 (by rfl) T.n_max (by decide +kernel) (SA.cons (SE.ix (SE.var 2) SE.int) (SA.cons (SE.ix (SE.var 3) SE.int) SA.nil))) (SE.callB (call_min2 (by rfl)) cp_min2 (by rfl) T.n_min (by decide +kernel) (SA.cons (SE.ix (SE.var 4) SE.int) (SA.cons (SE.ix (SE.var 5) SE.int) SA.nil)))) (SE.one (SE.lt (SE.callB (call_max2 (by rfl)) cp_max2 (by rfl) T.n_max (by decide +kernel) (SA.cons (SE.ix (SE.var 4) SE.int) (SA.cons (SE.ix (SE.var 5) SE.int) SA.nil))) (SE.callB (call_min2 (by rfl)) cp_min2 (by rfl) T.n_min (by decide +kernel) (SA.cons (SE.ix (SE.var 2) SE.int) (SA.cons (SE.ix (SE.var 3) SE.int) SA.nil)))))))))))
theorem sc__law_deal : FnScope ["script", "base", "cells", "cell", "mix"] ["script", "base"] (defScope s__law_deal) := ⟨rfl, rfl, rfl, by decide +kernel, rfl, by decide +kernel, by decide +kernel⟩
theorem g__law_deal (T : Txt K mg z) : FnG P w K mg base 1 z.a__law_deal z.fd__law_deal ["script", "base"] M__law_deal := by
  refine fnG_of (N := ["script", "base", "cells", "cell", "mix"]) T.d__law_deal.F sc__law_deal fun cdv A outer s H E hr hgu => ?_
  have hu := hr.units
  exact (SB.cons (SS.setLcV (i := 2) (own := [("cell", 3)]) (by rfl) sc__law_deal.nd (SI.seq (SE.slice (SE.var 0) SO.none (SO.some SE.int))) (blkOk_by (N := ["script", "base", "cells", "cell", "mix"]) (sc := defScope s__law_deal) (by decide +kernel)) (by decide) (fun _ _ _ _ _ => (SG.name 3 sc__law_deal.nd (by rfl) (Or.inl (by rfl)))) (fun _ _ _ _ _ => STs.nil) (fun _ _ _ _ _ => (SE.abs (by rfl) T.n_abs (SA.cons (SE.int1 (by rfl) T.n_int (SA.cons (SE.var 3) SA.nil)) SA.nil))) (by rfl) (by rfl) (sw_true (by rfl) (by rfl) (by rfl) (by decide +kernel)))
    (SB.cons (SS.set 4 sc__law_deal.nd (by rfl) (Or.inl (by rfl)) (SE.add (SE.mul SE.int (SE.var 1)) SE.int))
    (SB.cons (SS.forS poD (by rfl) (SI.seq (SE.var 2)) (SG.name 3 sc__law_deal.nd (by rfl) (Or.inl (by rfl))) (SB.one (SS.set 4 sc__law_deal.nd (by rfl) (Or.inl (by rfl)) (SE.mod (SE.int1 (by rfl) T.n_int (SA.cons (SE.add (SE.add (SE.mul (SE.var 4) SE.int) (SE.mod (SE.var 3) SE.int)) SE.int) SA.nil)) SE.int))))
    (SB.one (SS.ret (SE.loc (SA.cons (SE.revLoc (SE.lcV (own := [("cell", 3)]) (by rfl) sc__law_deal.nd (SI.seq (SE.var 2)) (blkOk_by (N := ["script", "base", "cells", "cell", "mix"]) (sc := defScope s__law_deal) (by decide +kernel)) (by decide) (fun _ _ _ _ _ => (SG.name 3 sc__law_deal.nd (by rfl) (Or.inl (by rfl)))) (fun _ _ _ _ _ => (STs.one (ST.ge (SE.var 3) (SE.pow SE.int SE.int)))) (fun _ _ _ _ _ => (SE.var 3)))) (SA.cons (SE.var 4) SA.nil))))))))
theorem sc__law_any : FnScope ["deal", "bound", "rest"] ["deal", "bound"] (defScope s__law_any) := ⟨rfl, rfl, rfl, by decide +kernel, rfl, by decide +kernel, by decide +kernel⟩
theorem g__law_any (T : Txt K mg z) : FnG P w K mg base 1 z.a__law_any z.fd__law_any ["deal", "bound"] M__law_any := by
  refine fnG_of (N := ["deal", "bound", "rest"]) T.d__law_any.F sc__law_any fun cdv A outer s H E hr hgu => ?_
  have hu := hr.units
  exact (SB.cons (SS.whileS poD (SW.pt (SW.and (ST.ne hu (SE.ix (SE.var 0) SE.int) (SE.lst SA.nil)) (SW.and1 (ST.eq hu (SE.ix (SE.ix (SE.var 0) SE.int) (SE.neg SE.int)) SE.int)))) (SB.one (SS.expr (SE.pop (SE.ix (SE.var 0) SE.int)))))
    (SB.cons (SS.ifS (ST.ne hu (SE.ix (SE.var 0) SE.int) (SE.lst SA.nil)) (SB.cons (SS.set 2 sc__law_any.nd (by rfl) (Or.inl (by rfl)) (SE.int1 (by rfl) T.n_int (SA.cons (SE.pop (SE.ix (SE.var 0) SE.int)) SA.nil)))
    (SB.cons (SS.expr (SE.append (SE.ix (SE.var 0) SE.int) (SA.cons (SE.div (SE.var 2) (SE.var 1)) SA.nil)))
    (SB.one (SS.ret (SE.mod (SE.var 2) (SE.var 1)))))) SB.nil)
    (SB.cons (SS.sub (SE.mod (SE.int1 (by rfl) T.n_int (SA.cons (SE.add (SE.mul (SE.ix (SE.var 0) SE.int) SE.int) SE.int) SA.nil)) SE.int) (SE.var 0) SE.int)
    (SB.one (SS.ret (SE.mod (SE.int1 (by rfl) T.n_int (SA.cons (SE.div (SE.ix (SE.var 0) SE.int) SE.int) SA.nil)) (SE.var 1)))))))
theorem sc__law_put : FnScope ["ring", "rule", "a", "b", "c", "d", "right", "up", "found", "x", "y"] ["ring", "rule"] (defScope s__law_put) := ⟨rfl, rfl, rfl, by decide +kernel, rfl, by decide +kernel, by decide +kernel⟩
theorem g__law_put (T : Txt K mg z) : FnG P w K mg base 1 z.a__law_put z.fd__law_put ["ring", "rule"] M__law_put := by
  refine fnG_of (N := ["ring", "rule", "a", "b", "c", "d", "right", "up", "found", "x", "y"]) T.d__law_put.F sc__law_put fun cdv A outer s H E hr hgu => ?_
  have hu := hr.units
  exact (SB.cons (SS.asg (SE.var 1) (SG.tup (by rfl) (SGs.cons (SG.name 2 sc__law_put.nd (by rfl) (Or.inr (by rfl))) (SGs.cons (SG.name 3 sc__law_put.nd (by rfl) (Or.inr (by rfl))) (SGs.cons (SG.name 4 sc__law_put.nd (by rfl) (Or.inr (by rfl))) (SGs.cons (SG.name 5 sc__law_put.nd (by rfl) (Or.inr (by rfl))) (SGs.cons (SG.name 6 sc__law_put.nd (by rfl) (Or.inr (by rfl))) (SGs.cons (SG.name 7 sc__law_put.nd (by rfl) (Or.inr (by rfl))) SGs.nil))))))))
    (SB.cons (SS.setLcV (i := 8) (own := [("x", 9), ("y", 10)]) (by rfl) sc__law_put.nd (SI.seq (SE.var 0)) (blkOk_by (N := ["ring", "rule", "a", "b", "c", "d", "right", "up", "found", "x", "y"]) (sc := defScope s__law_put) (by decide +kernel)) (by decide) (fun _ _ _ _ _ => (SG.tup (by rfl) (SGs.cons (SG.name 9 sc__law_put.nd (by rfl) (Or.inl (by rfl))) (SGs.cons (SG.name 10 sc__law_put.nd (by rfl) (Or.inl (by rfl))) SGs.nil)))) (fun _ _ _ _ _ => STs.nil) (fun _ _ _ _ _ => (SE.tup (SA.cons (SE.add (SE.add (SE.mul (SE.var 2) (SE.var 9)) (SE.mul (SE.var 3) (SE.var 10))) (SE.var 6)) (SA.cons (SE.add (SE.add (SE.mul (SE.var 4) (SE.var 9)) (SE.mul (SE.var 5) (SE.var 10))) (SE.var 7)) SA.nil)))) (by rfl) (by rfl) (sw_true (by rfl) (by rfl) (by rfl) (by decide +kernel)))
    (SB.one (SS.ret (SE.tup1 (by rfl) T.n_tuple (SA.cons (SE.ifExp (ST.gt (SE.sub (SE.mul (SE.var 2) (SE.var 5)) (SE.mul (SE.var 3) (SE.var 4))) SE.int) (SE.var 8) (SE.rev (SE.var 8))) SA.nil))))))
theorem sc__law_is_int : FnScope ["value"] ["value"] (defScope s__law_is_int) := ⟨rfl, rfl, rfl, by decide +kernel, rfl, by decide +kernel, by decide +kernel⟩
theorem g__law_is_int (T : Txt K mg z) : FnG P w K mg base 1 z.a__law_is_int z.fd__law_is_int ["value"] M__law_is_int := by
  refine fnG_of (N := ["value"]) T.d__law_is_int.F sc__law_is_int fun cdv A outer s H E hr hgu => ?_
  have hu := hr.units
  exact (SB.one (SS.ret (SE.and (SE.isi (p2 := ⟨0, 0, 0, 0⟩) (T := "int") (by rfl) T.n_isinstance (by rfl) T.n_int (by decide +kernel) (SE.var 0)) (SE.one (SE.not (SE.isi (p2 := ⟨0, 0, 0, 0⟩) (T := "bool") (by rfl) T.n_isinstance (by rfl) T.n_bool (by decide +kernel) (SE.var 0)))))))
theorem sc__law_cross : FnScope ["a", "b", "c"] ["a", "b", "c"] (defScope s__law_cross) := ⟨rfl, rfl, rfl, by decide +kernel, rfl, by decide +kernel, by decide +kernel⟩
theorem g__law_cross (T : Txt K mg z) : FnG P w K mg base 1 z.a__law_cross z.fd__law_cross ["a", "b", "c"] M__law_cross := by
  refine fnG_of (N := ["a", "b", "c"]) T.d__law_cross.F sc__law_cross fun cdv A outer s H E hr hgu => ?_
  have hu := hr.units
  exact (SB.one (SS.ret (SE.sub (SE.mul (SE.sub (SE.ix (SE.var 1) SE.int) (SE.ix (SE.var 0) SE.int)) (SE.sub (SE.ix (SE.var 2) SE.int) (SE.ix (SE.var 1) SE.int))) (SE.mul (SE.sub (SE.ix (SE.var 1) SE.int) (SE.ix (SE.var 0) SE.int)) (SE.sub (SE.ix (SE.var 2) SE.int) (SE.ix (SE.var 1) SE.int))))))
theorem sc__law_is_within : FnScope ["number", "whole_v"] ["number", "whole_v"] (defScope s__law_is_within) := ⟨rfl, rfl, rfl, by decide +kernel, rfl, by decide +kernel, by decide +kernel⟩
theorem g__law_is_within (T : Txt K mg z) : FnG P w K mg base 1 z.a__law_is_within z.fd__law_is_within ["number", "whole_v"] M__law_is_within := by
  refine fnG_of (N := ["number", "whole_v"]) T.d__law_is_within.F sc__law_is_within fun cdv A outer s H E hr hgu => ?_
  have hu := hr.units
  exact (SB.one (SS.ret (SE.or (SE.chain (CmpR.le) (CmpR.le) SE.int (SE.var 0) (SE.var 1)) (SE.one (SE.chain (CmpR.le) (CmpR.le) (SE.var 1) (SE.var 0) SE.int)))))
theorem sc_are_ints : FnScope ["value", "many", "thing"] ["value", "many"] (defScope s_are_ints) := ⟨rfl, rfl, rfl, by decide +kernel, rfl, by decide +kernel, by decide +kernel⟩
theorem g_are_ints (T : Txt K mg z) : FnG P w K mg base 2 z.a_are_ints z.fd_are_ints ["value", "many"] M_are_ints := by
  refine fnG_of (N := ["value", "many", "thing"]) T.d_are_ints.F sc_are_ints fun cdv A outer s H E hr hgu => ?_
  have hu := hr.units
  exact (SB.one (SS.ret (SE.and (SE.fn T.d_is_tuple_of (g_is_tuple_of T) mir_len hr (by decide) hgu tkD (by rfl) T.b_is_tuple_of (SA.cons (SE.var 0) (SA.cons (SE.var 1) SA.nil))) (SE.one (SE.all (by rfl) T.n_all (by rfl) (SA.cons (SE.lcV (own := [("thing", 2)]) (by rfl) sc_are_ints.nd (SI.seq (SE.var 0)) (blkOk_by (N := ["value", "many", "thing"]) (sc := defScope s_are_ints) (by decide +kernel)) (by decide) (fun _ _ _ _ _ => (SG.name 2 sc_are_ints.nd (by rfl) (Or.inl (by rfl)))) (fun _ _ _ _ _ => STs.nil) (fun _ _ _ _ _ => (SE.fn T.d_is_int (g_is_int T) mir_len hr (by decide) hgu tk0 (by rfl) T.b_is_int (SA.cons (SE.var 2) SA.nil)))) SA.nil))))))
theorem sc_whole_turn : FnScope ["a", "b", "c"] ["a", "b", "c"] (defScope s_whole_turn) := ⟨rfl, rfl, rfl, by decide +kernel, rfl, by decide +kernel, by decide +kernel⟩
theorem g_whole_turn (T : Txt K mg z) : FnG P w K mg base 2 z.a_whole_turn z.fd_whole_turn ["a", "b", "c"] M_whole_turn := by
  refine fnG_of (N := ["a", "b", "c"]) T.d_whole_turn.F sc_whole_turn fun cdv A outer s H E hr hgu => ?_
  have hu := hr.units
  exact (SB.one (SS.ret (SE.fn T.d_sign_of (g_sign_of T) mir_len hr (by decide) hgu tkD (by rfl) T.b_sign_of (SA.cons (SE.fn T.d_whole (g_whole T) mir_len hr (by decide) hgu tkD (by rfl) T.b_whole (SA.cons (SE.fn T.d_whole_area (g_whole_area T) mir_len hr (by decide) hgu tkD (by rfl) T.b_whole_area (SA.cons (SE.var 0) (SA.cons (SE.var 1) (SA.cons (SE.var 2) SA.nil)))) SA.nil)) SA.nil))))
theorem sc_whole_on : FnScope ["a", "b", "p"] ["a", "b", "p"] (defScope s_whole_on) := ⟨rfl, rfl, rfl, by decide +kernel, rfl, by decide +kernel, by decide +kernel⟩
theorem g_whole_on (T : Txt K mg z) : FnG P w K mg base 2 z.a_whole_on z.fd_whole_on ["a", "b", "p"] M_whole_on := by
  refine fnG_of (N := ["a", "b", "p"]) T.d_whole_on.F sc_whole_on fun cdv A outer s H E hr hgu => ?_
  have hu := hr.units
  exact (SB.one (SS.ret (SE.and (SE.chain (CmpR.le) (CmpR.le) (SE.callB (call_min2 (by rfl)) cp_min2 (by rfl) T.n_min (by decide +kernel) (SA.cons (SE.ix (SE.var 0) SE.int) (SA.cons (SE.ix (SE.var 1) SE.int) SA.nil))) (SE.ix (SE.var 2) SE.int) (SE.callB (call_max2 (by rfl)) cp_max2 (by rfl) T.n_max (by decide +kernel) (SA.cons (SE.ix (SE.var 0) SE.int) (SA.cons (SE.ix (SE.var 1) SE.int) SA.nil)))) (SE.and (SE.chain (CmpR.le) (CmpR.le) (SE.callB (call_min2 (by rfl)) cp_min2 (by rfl) T.n_min (by decide +kernel) (SA.cons (SE.ix (SE.var 0) SE.int) (SA.cons (SE.ix (SE.var 1) SE.int) SA.nil))) (SE.ix (SE.var 2) SE.int) (SE.callB (call_max2 (by rfl)) cp_max2 (by rfl) T.n_max (by decide +kernel) (SA.cons (SE.ix (SE.var 0) SE.int) (SA.cons (SE.ix (SE.var 1) SE.int) SA.nil)))) (SE.one (SE.eq hu (SE.fn T.d_whole_area (g_whole_area T) mir_len hr (by decide) hgu tkD (by rfl) T.b_whole_area (SA.cons (SE.var 0) (SA.cons (SE.var 1) (SA.cons (SE.var 2) SA.nil)))) SE.int))))))
theorem sc_turns_back : FnScope ["a", "b", "c"] ["a", "b", "c"] (defScope s_turns_back) := ⟨rfl, rfl, rfl, by decide +kernel, rfl, by decide +kernel, by decide +kernel⟩
theorem g_turns_back (T : Txt K mg z) : FnG P w K mg base 2 z.a_turns_back z.fd_turns_back ["a", "b", "c"] M_turns_back := by
  refine fnG_of (N := ["a", "b", "c"]) T.d_turns_back.F sc_turns_back fun cdv A outer s H E hr hgu => ?_
  have hu := hr.units
  exact (SB.one (SS.ret (SE.and (SE.eq hu (SE.fn T.d_whole_area (g_whole_area T) mir_len hr (by decide) hgu tkD (by rfl) T.b_whole_area (SA.cons (SE.var 0) (SA.cons (SE.var 1) (SA.cons (SE.var 2) SA.nil)))) SE.int) (SE.one (SE.gt (SE.add (SE.mul (SE.sub (SE.ix (SE.var 0) SE.int) (SE.ix (SE.var 1) SE.int)) (SE.sub (SE.ix (SE.var 2) SE.int) (SE.ix (SE.var 1) SE.int))) (SE.mul (SE.sub (SE.ix (SE.var 0) SE.int) (SE.ix (SE.var 1) SE.int)) (SE.sub (SE.ix (SE.var 2) SE.int) (SE.ix (SE.var 1) SE.int)))) SE.int)))))
theorem sc_ring_sides : FnScope ["ring"] ["ring"] (defScope s_ring_sides) := ⟨rfl, rfl, rfl, by decide +kernel, rfl, by decide +kernel, by decide +kernel⟩
theorem g_ring_sides (T : Txt K mg z) : FnG P w K mg base 2 z.a_ring_sides z.fd_ring_sides ["ring"] M_ring_sides := by
  refine fnG_of (N := ["ring"]) T.d_ring_sides.F sc_ring_sides fun cdv A outer s H E hr hgu => ?_
  have hu := hr.units
  exact (SB.one (SS.ret (SE.tup1 (by rfl) T.n_tuple (SA.cons (SE.fn T.d_sides_along (g_sides_along T) mir_len hr (by decide) hgu tkD (by rfl) T.b_sides_along (SA.cons (SE.var 0) SA.nil)) SA.nil))))
theorem sc__law_of : FnScope ["deal", "some"] ["deal", "some"] (defScope s__law_of) := ⟨rfl, rfl, rfl, by decide +kernel, rfl, by decide +kernel, by decide +kernel⟩
theorem g__law_of (T : Txt K mg z) : FnG P w K mg base 2 z.a__law_of z.fd__law_of ["deal", "some"] M__law_of := by
  refine fnG_of (N := ["deal", "some"]) T.d__law_of.F sc__law_of fun cdv A outer s H E hr hgu => ?_
  have hu := hr.units
  exact (SB.one (SS.ret (SE.ix (SE.var 1) (SE.fn T.d__law_any (g__law_any T) mir_len hr (by decide) hgu tkD (by rfl) T.b__law_any (SA.cons (SE.var 0) (SA.cons (SE.len (by rfl) T.n_len (SA.cons (SE.var 1) SA.nil)) SA.nil))))))
theorem sc__law_star : FnScope ["deal", "centre", "most", "each", "ways", "right", "up", "places", "quarter", "some", "turn", "at", "found", "far"] ["deal", "centre", "most", "each"] (defScope s__law_star) := ⟨rfl, rfl, rfl, by decide +kernel, rfl, by decide +kernel, by decide +kernel⟩
theorem g__law_star (T : Txt K mg z) : FnG P w K mg base 2 z.a__law_star z.fd__law_star ["deal", "centre", "most", "each"] M__law_star := by
  refine fnG_of (N := ["deal", "centre", "most", "each", "ways", "right", "up", "places", "quarter", "some", "turn", "at", "found", "far"]) T.d__law_star.F sc__law_star fun cdv A outer s H E hr hgu => ?_
  have hu := hr.units
  exact (SB.cons (SS.set 4 sc__law_star.nd (by rfl) (Or.inl (by rfl)) (SE.lst (SA.cons (SE.tup (SA.cons SE.int (SA.cons SE.int SA.nil))) (SA.cons (SE.tup (SA.cons SE.int (SA.cons SE.int SA.nil))) (SA.cons (SE.tup (SA.cons SE.int (SA.cons SE.int SA.nil))) (SA.cons (SE.tup (SA.cons SE.int (SA.cons SE.int SA.nil))) (SA.cons (SE.tup (SA.cons SE.int (SA.cons SE.int SA.nil))) (SA.cons (SE.tup (SA.cons (SE.neg SE.int) (SA.cons SE.int SA.nil))) (SA.cons (SE.tup (SA.cons (SE.neg SE.int) (SA.cons SE.int SA.nil))) (SA.cons (SE.tup (SA.cons (SE.neg SE.int) (SA.cons SE.int SA.nil))) SA.nil))))))))))
    (SB.cons (SS.set 4 sc__law_star.nd (by rfl) (Or.inl (by rfl)) (SE.add (SE.var 4) (SE.lcV (own := [("right", 5), ("up", 6)]) (by rfl) sc__law_star.nd (SI.seq (SE.var 4)) (blkOk_by (N := ["deal", "centre", "most", "each", "ways", "right", "up", "places", "quarter", "some", "turn", "at", "found", "far"]) (sc := defScope s__law_star) (by decide +kernel)) (by decide) (fun _ _ _ _ _ => (SG.tup (by rfl) (SGs.cons (SG.name 5 sc__law_star.nd (by rfl) (Or.inl (by rfl))) (SGs.cons (SG.name 6 sc__law_star.nd (by rfl) (Or.inl (by rfl))) SGs.nil)))) (fun _ _ _ _ _ => STs.nil) (fun _ _ _ _ _ => (SE.tup (SA.cons (SE.sub SE.int (SE.var 5)) (SA.cons (SE.sub SE.int (SE.var 6)) SA.nil)))))))
    (SB.cons (SS.set 7 sc__law_star.nd (by rfl) (Or.inl (by rfl)) (SE.lst SA.nil))
    (SB.cons (SS.forS poD (by rfl) (SI.range1 (by rfl) T.n_range (SA.cons SE.int SA.nil)) (SG.name 8 sc__law_star.nd (by rfl) (Or.inr (by rfl))) (SB.cons (SS.set 9 sc__law_star.nd (by rfl) (Or.inr (by rfl)) (SE.lcV (own := [("turn", 10)]) (by rfl) sc__law_star.nd (SI.range1 (by rfl) T.n_range (SA.cons (SE.add SE.int (SE.fn T.d__law_any (g__law_any T) mir_len hr (by decide) hgu tkD (by rfl) T.b__law_any (SA.cons (SE.var 0) (SA.cons (SE.var 3) SA.nil)))) SA.nil)) (blkOk_by (N := ["deal", "centre", "most", "each", "ways", "right", "up", "places", "quarter", "some", "turn", "at", "found", "far"]) (sc := defScope s__law_star) (by decide +kernel)) (by decide) (fun _ _ _ _ _ => (SG.name 10 sc__law_star.nd (by rfl) (Or.inl (by rfl)))) (fun _ _ _ _ _ => STs.nil) (fun _ _ _ _ _ => (SE.add (SE.mul SE.int (SE.var 8)) (SE.fn T.d__law_any (g__law_any T) mir_len hr (by decide) hgu tk0 (by rfl) T.b__law_any (SA.cons (SE.var 0) (SA.cons SE.int SA.nil)))))))
    (SB.one (SS.set 7 sc__law_star.nd (by rfl) (Or.inl (by rfl)) (SE.add (SE.var 7) (SE.lcV (own := [("at", 11)]) (by rfl) sc__law_star.nd (SI.range2 (by rfl) T.n_range (SA.cons (SE.mul SE.int (SE.var 8)) (SA.cons (SE.add (SE.mul SE.int (SE.var 8)) SE.int) SA.nil))) (blkOk_by (N := ["deal", "centre", "most", "each", "ways", "right", "up", "places", "quarter", "some", "turn", "at", "found", "far"]) (sc := defScope s__law_star) (by decide +kernel)) (by decide) (fun _ _ _ _ _ => (SG.name 11 sc__law_star.nd (by rfl) (Or.inl (by rfl)))) (fun _ _ _ _ _ => (STs.one (ST.inD (SE.var 11) (SE.var 9)))) (fun _ _ _ _ _ => (SE.var 11))))))))
    (SB.cons (SS.set 12 sc__law_star.nd (by rfl) (Or.inl (by rfl)) (SE.loc SA.nil))
    (SB.cons (SS.forS poD (by rfl) (SI.seq (SE.var 7)) (SG.name 11 sc__law_star.nd (by rfl) (Or.inl (by rfl))) (SB.cons (SS.set 13 sc__law_star.nd (by rfl) (Or.inl (by rfl)) (SE.add SE.int (SE.fn T.d__law_any (g__law_any T) mir_len hr (by decide) hgu tkD (by rfl) T.b__law_any (SA.cons (SE.var 0) (SA.cons (SE.var 2) SA.nil)))))
    (SB.one (SS.expr (SE.append (SE.var 12) (SA.cons (SE.tup (SA.cons (SE.add (SE.ix (SE.var 1) SE.int) (SE.mul (SE.var 13) (SE.ix (SE.ix (SE.var 4) (SE.var 11)) SE.int))) (SA.cons (SE.add (SE.ix (SE.var 1) SE.int) (SE.mul (SE.var 13) (SE.ix (SE.ix (SE.var 4) (SE.var 11)) SE.int))) SA.nil))) SA.nil))))))
    (SB.one (SS.ret (SE.tup1 (by rfl) T.n_tuple (SA.cons (SE.var 12) SA.nil))))))))))
theorem sc__law_wave : FnScope ["deal", "many", "low", "at", "high"] ["deal", "many"] (defScope s__law_wave) := ⟨rfl, rfl, rfl, by decide +kernel, rfl, by decide +kernel, by decide +kernel⟩
theorem g__law_wave (T : Txt K mg z) : FnG P w K mg base 2 z.a__law_wave z.fd__law_wave ["deal", "many"] M__law_wave := by
  refine fnG_of (N := ["deal", "many", "low", "at", "high"]) T.d__law_wave.F sc__law_wave fun cdv A outer s H E hr hgu => ?_
  have hu := hr.units
  exact (SB.cons (SS.setLcV (i := 2) (own := [("at", 3)]) (by rfl) sc__law_wave.nd (SI.range2 (by rfl) T.n_range (SA.cons SE.int (SA.cons (SE.var 1) SA.nil))) (blkOk_by (N := ["deal", "many", "low", "at", "high"]) (sc := defScope s__law_wave) (by decide +kernel)) (by decide) (fun _ _ _ _ _ => (SG.name 3 sc__law_wave.nd (by rfl) (Or.inl (by rfl)))) (fun _ _ _ _ _ => STs.nil) (fun _ _ _ _ _ => (SE.tup (SA.cons (SE.mul SE.int (SE.var 3)) (SA.cons (SE.sub (SE.neg SE.int) (SE.fn T.d__law_any (g__law_any T) mir_len hr (by decide) hgu tk0 (by rfl) T.b__law_any (SA.cons (SE.var 0) (SA.cons SE.int SA.nil)))) SA.nil)))) (by rfl) (by rfl) (sw_true (by rfl) (by rfl) (by rfl) (by decide +kernel)))
    (SB.cons (SS.setLcV (i := 4) (own := [("at", 3)]) (by rfl) sc__law_wave.nd (SI.range2 (by rfl) T.n_range (SA.cons SE.int (SA.cons (SE.var 1) SA.nil))) (blkOk_by (N := ["deal", "many", "low", "at", "high"]) (sc := defScope s__law_wave) (by decide +kernel)) (by decide) (fun _ _ _ _ _ => (SG.name 3 sc__law_wave.nd (by rfl) (Or.inl (by rfl)))) (fun _ _ _ _ _ => STs.nil) (fun _ _ _ _ _ => (SE.tup (SA.cons (SE.mul SE.int (SE.var 3)) (SA.cons (SE.add SE.int (SE.fn T.d__law_any (g__law_any T) mir_len hr (by decide) hgu tk0 (by rfl) T.b__law_any (SA.cons (SE.var 0) (SA.cons SE.int SA.nil)))) SA.nil)))) (by rfl) (by rfl) (sw_true (by rfl) (by rfl) (by rfl) (by decide +kernel)))
    (SB.one (SS.ret (SE.tup1 (by rfl) T.n_tuple (SA.cons (SE.add (SE.add (SE.add (SE.lst (SA.cons (SE.tup (SA.cons SE.int (SA.cons SE.int SA.nil))) SA.nil)) (SE.var 2)) (SE.lst (SA.cons (SE.tup (SA.cons (SE.mul SE.int (SE.var 1)) (SA.cons SE.int SA.nil))) SA.nil))) (SE.rev (SE.var 4))) SA.nil))))))
theorem sc__law_more : FnScope ["deal", "ring", "found", "at", "a", "b"] ["deal", "ring"] (defScope s__law_more) := ⟨rfl, rfl, rfl, by decide +kernel, rfl, by decide +kernel, by decide +kernel⟩
theorem g__law_more (T : Txt K mg z) : FnG P w K mg base 2 z.a__law_more z.fd__law_more ["deal", "ring"] M__law_more := by
  refine fnG_of (N := ["deal", "ring", "found", "at", "a", "b"]) T.d__law_more.F sc__law_more fun cdv A outer s H E hr hgu => ?_
  have hu := hr.units
  exact (SB.cons (SS.set 2 sc__law_more.nd (by rfl) (Or.inl (by rfl)) (SE.loc SA.nil))
    (SB.cons (SS.forS poD (by rfl) (SI.range1 (by rfl) T.n_range (SA.cons (SE.len (by rfl) T.n_len (SA.cons (SE.var 1) SA.nil)) SA.nil)) (SG.name 3 sc__law_more.nd (by rfl) (Or.inl (by rfl))) (SB.cons (SS.par 4 5 (by rfl) sc__law_more.nd (by rfl) (by rfl) (by decide) (by rfl) (by rfl) (SA.cons (SE.ix (SE.var 1) (SE.sub (SE.var 3) SE.int)) (SA.cons (SE.ix (SE.var 1) (SE.var 3)) SA.nil)) (by rfl))
    (SB.cons (SS.ifS (SW.pt (SW.and (ST.eq hu (SE.mod (SE.int1 (by rfl) T.n_int (SA.cons (SE.add (SE.ix (SE.var 4) SE.int) (SE.ix (SE.var 5) SE.int)) SA.nil)) SE.int) SE.int) (SW.and (ST.eq hu (SE.mod (SE.int1 (by rfl) T.n_int (SA.cons (SE.add (SE.ix (SE.var 4) SE.int) (SE.ix (SE.var 5) SE.int)) SA.nil)) SE.int) SE.int) (SW.and1 (ST.eq hu (SE.fn T.d__law_any (g__law_any T) mir_len hr (by decide) hgu tkD (by rfl) T.b__law_any (SA.cons (SE.var 0) (SA.cons SE.int SA.nil))) SE.int))))) (SB.one (SS.expr (SE.append (SE.var 2) (SA.cons (SE.tup (SA.cons (SE.div (SE.add (SE.ix (SE.var 4) SE.int) (SE.ix (SE.var 5) SE.int)) SE.int) (SA.cons (SE.div (SE.add (SE.ix (SE.var 4) SE.int) (SE.ix (SE.var 5) SE.int)) SE.int) SA.nil))) SA.nil)))) SB.nil)
    (SB.one (SS.expr (SE.append (SE.var 2) (SA.cons (SE.var 5) SA.nil)))))))
    (SB.cons (SS.set 3 sc__law_more.nd (by rfl) (Or.inl (by rfl)) (SE.fn T.d__law_any (g__law_any T) mir_len hr (by decide) hgu tkD (by rfl) T.b__law_any (SA.cons (SE.var 0) (SA.cons (SE.len (by rfl) T.n_len (SA.cons (SE.var 2) SA.nil)) SA.nil))))
    (SB.one (SS.ret (SE.tup1 (by rfl) T.n_tuple (SA.cons (SE.add (SE.sliceP (SE.var 2) (SO.some (SE.var 3)) SO.none) (SE.sliceP (SE.var 2) SO.none (SO.some (SE.var 3)))) SA.nil)))))))
theorem sc__law_meet : FnScope ["a", "b", "c", "d", "right", "up", "far", "high", "slant", "part", "other", "at"] ["a", "b", "c", "d"] (defScope s__law_meet) := ⟨rfl, rfl, rfl, by decide +kernel, rfl, by decide +kernel, by decide +kernel⟩
theorem g__law_meet (T : Txt K mg z) : FnG P w K mg base 2 z.a__law_meet z.fd__law_meet ["a", "b", "c", "d"] M__law_meet := by
  refine fnG_of (N := ["a", "b", "c", "d", "right", "up", "far", "high", "slant", "part", "other", "at"]) T.d__law_meet.F sc__law_meet fun cdv A outer s H E hr hgu => ?_
  have hu := hr.units
  exact (SB.cons (SS.asg (SE.tup (SA.cons (SE.sub (SE.ix (SE.var 1) SE.int) (SE.ix (SE.var 0) SE.int)) (SA.cons (SE.sub (SE.ix (SE.var 1) SE.int) (SE.ix (SE.var 0) SE.int)) (SA.cons (SE.sub (SE.ix (SE.var 3) SE.int) (SE.ix (SE.var 2) SE.int)) (SA.cons (SE.sub (SE.ix (SE.var 3) SE.int) (SE.ix (SE.var 2) SE.int)) SA.nil))))) (SG.tup (by rfl) (SGs.cons (SG.name 4 sc__law_meet.nd (by rfl) (Or.inl (by rfl))) (SGs.cons (SG.name 5 sc__law_meet.nd (by rfl) (Or.inl (by rfl))) (SGs.cons (SG.name 6 sc__law_meet.nd (by rfl) (Or.inl (by rfl))) (SGs.cons (SG.name 7 sc__law_meet.nd (by rfl) (Or.inl (by rfl))) SGs.nil))))))
    (SB.cons (SS.set 8 sc__law_meet.nd (by rfl) (Or.inl (by rfl)) (SE.sub (SE.mul (SE.var 4) (SE.var 7)) (SE.mul (SE.var 5) (SE.var 6))))
    (SB.cons (SS.set 9 sc__law_meet.nd (by rfl) (Or.inl (by rfl)) (SE.sub (SE.mul (SE.sub (SE.ix (SE.var 2) SE.int) (SE.ix (SE.var 0) SE.int)) (SE.var 7)) (SE.mul (SE.sub (SE.ix (SE.var 2) SE.int) (SE.ix (SE.var 0) SE.int)) (SE.var 6))))
    (SB.cons (SS.set 10 sc__law_meet.nd (by rfl) (Or.inl (by rfl)) (SE.sub (SE.mul (SE.sub (SE.ix (SE.var 2) SE.int) (SE.ix (SE.var 0) SE.int)) (SE.var 5)) (SE.mul (SE.sub (SE.ix (SE.var 2) SE.int) (SE.ix (SE.var 0) SE.int)) (SE.var 4))))
    (SB.cons (SS.ifS (ST.ne hu (SE.var 8) SE.int) (SB.one (SS.ret (SE.and (SE.fn T.d__law_is_within (g__law_is_within T) mir_len hr (by decide) hgu tkD (by rfl) T.b__law_is_within (SA.cons (SE.var 9) (SA.cons (SE.var 8) SA.nil))) (SE.one (SE.fn T.d__law_is_within (g__law_is_within T) mir_len hr (by decide) hgu tkD (by rfl) T.b__law_is_within (SA.cons (SE.var 10) (SA.cons (SE.var 8) SA.nil))))))) SB.nil)
    (SB.cons (SS.ifS (ST.ne hu (SE.var 10) SE.int) (SB.one (SS.ret SE.bl)) SB.nil)
    (SB.cons (SS.forS poD (by rfl) (SI.range1 (by rfl) T.n_range (SA.cons SE.int SA.nil)) (SG.name 11 sc__law_meet.nd (by rfl) (Or.inl (by rfl))) (SB.one (SS.ifS (SW.pt (SW.or (ST.lt (SE.callB (call_max2 (by rfl)) cp_max2 (by rfl) T.n_max (by decide +kernel) (SA.cons (SE.ix (SE.var 0) (SE.var 11)) (SA.cons (SE.ix (SE.var 1) (SE.var 11)) SA.nil))) (SE.callB (call_min2 (by rfl)) cp_min2 (by rfl) T.n_min (by decide +kernel) (SA.cons (SE.ix (SE.var 2) (SE.var 11)) (SA.cons (SE.ix (SE.var 3) (SE.var 11)) SA.nil)))) (SW.or1 (ST.lt (SE.callB (call_max2 (by rfl)) cp_max2 (by rfl) T.n_max (by decide +kernel) (SA.cons (SE.ix (SE.var 2) (SE.var 11)) (SA.cons (SE.ix (SE.var 3) (SE.var 11)) SA.nil))) (SE.callB (call_min2 (by rfl)) cp_min2 (by rfl) T.n_min (by decide +kernel) (SA.cons (SE.ix (SE.var 0) (SE.var 11)) (SA.cons (SE.ix (SE.var 1) (SE.var 11)) SA.nil))))))) (SB.one (SS.ret SE.bl)) SB.nil)))
    (SB.one (SS.ret SE.bl)))))))))
theorem sc__law_corner_fault : FnScope ["value", "at", "thing"] ["value"] (defScope s__law_corner_fault) := ⟨rfl, rfl, rfl, by decide +kernel, rfl, by decide +kernel, by decide +kernel⟩
theorem g__law_corner_fault (T : Txt K mg z) : FnG P w K mg base 2 z.a__law_corner_fault z.fd__law_corner_fault ["value"] M__law_corner_fault := by
  refine fnG_of (N := ["value", "at", "thing"]) T.d__law_corner_fault.F sc__law_corner_fault fun cdv A outer s H E hr hgu => ?_
  have hu := hr.units
  exact (SB.cons (SS.forS poD (by rfl) (SI.range1 (by rfl) T.n_range (SA.cons (SE.len (by rfl) T.n_len (SA.cons (SE.var 0) SA.nil)) SA.nil)) (SG.name 1 sc__law_corner_fault.nd (by rfl) (Or.inl (by rfl))) (SB.cons (SS.set 2 sc__law_corner_fault.nd (by rfl) (Or.inl (by rfl)) (SE.ix (SE.var 0) (SE.var 1)))
    (SB.cons (SS.ifS (SW.pt (SW.or (ST.not (ST.val (SE.isi (p2 := ⟨0, 0, 0, 0⟩) (T := "tuple") (by rfl) T.n_isinstance (by rfl) T.n_tuple (by decide +kernel) (SE.var 2)))) (SW.or (ST.ne hu (SE.len (by rfl) T.n_len (SA.cons (SE.var 2) SA.nil)) SE.int) (SW.or (ST.not (ST.val (SE.fn T.d__law_is_int (g__law_is_int T) mir_len hr (by decide) hgu tkD (by rfl) T.b__law_is_int (SA.cons (SE.ix (SE.var 2) SE.int) SA.nil)))) (SW.or1 (ST.not (ST.val (SE.fn T.d__law_is_int (g__law_is_int T) mir_len hr (by decide) hgu tkD (by rfl) T.b__law_is_int (SA.cons (SE.ix (SE.var 2) SE.int) SA.nil))))))))) (SB.one (SS.ret (SE.var 1))) SB.nil)
    (SB.one (SS.ifS (SW.pt (SW.or (ST.gt (SE.callB (call_max2 (by rfl)) cp_max2 (by rfl) T.n_max (by decide +kernel) (SA.cons (SE.abs (by rfl) T.n_abs (SA.cons (SE.ix (SE.var 2) SE.int) SA.nil)) (SA.cons (SE.abs (by rfl) T.n_abs (SA.cons (SE.ix (SE.var 2) SE.int) SA.nil)) SA.nil))) SE.int) (SW.or1 (ST.inT hu (SE.var 2) (SE.slice (SE.var 0) SO.none (SO.some (SE.var 1))))))) (SB.one (SS.ret (SE.var 1))) SB.nil)))))
    (SB.one (SS.ret SE.non)))
theorem sc_whole_crosses : FnScope ["a", "b", "c", "d"] ["a", "b", "c", "d"] (defScope s_whole_crosses) := ⟨rfl, rfl, rfl, by decide +kernel, rfl, by decide +kernel, by decide +kernel⟩
theorem g_whole_crosses (T : Txt K mg z) : FnG P w K mg base 3 z.a_whole_crosses z.fd_whole_crosses ["a", "b", "c", "d"] M_whole_crosses := by
  refine fnG_of (N := ["a", "b", "c", "d"]) T.d_whole_crosses.F sc_whole_crosses fun cdv A outer s H E hr hgu => ?_
  have hu := hr.units
  exact (SB.one (SS.ret (SE.and (SE.lt (SE.mul (SE.fn T.d_whole_turn (g_whole_turn T) mir_len hr (by decide) hgu tkD (by rfl) T.b_whole_turn (SA.cons (SE.var 0) (SA.cons (SE.var 1) (SA.cons (SE.var 2) SA.nil)))) (SE.fn T.d_whole_turn (g_whole_turn T) mir_len hr (by decide) hgu tkD (by rfl) T.b_whole_turn (SA.cons (SE.var 0) (SA.cons (SE.var 1) (SA.cons (SE.var 3) SA.nil))))) SE.int) (SE.one (SE.lt (SE.mul (SE.fn T.d_whole_turn (g_whole_turn T) mir_len hr (by decide) hgu tkD (by rfl) T.b_whole_turn (SA.cons (SE.var 2) (SA.cons (SE.var 3) (SA.cons (SE.var 0) SA.nil)))) (SE.fn T.d_whole_turn (g_whole_turn T) mir_len hr (by decide) hgu tkD (by rfl) T.b_whole_turn (SA.cons (SE.var 2) (SA.cons (SE.var 3) (SA.cons (SE.var 1) SA.nil))))) SE.int)))))
theorem sc_is_corner : FnScope ["value"] ["value"] (defScope s_is_corner) := ⟨rfl, rfl, rfl, by decide +kernel, rfl, by decide +kernel, by decide +kernel⟩
theorem g_is_corner (T : Txt K mg z) : FnG P w K mg base 3 z.a_is_corner z.fd_is_corner ["value"] M_is_corner := by
  refine fnG_of (N := ["value"]) T.d_is_corner.F sc_is_corner fun cdv A outer s H E hr hgu => ?_
  have hu := hr.units
  exact (SB.one (SS.ret (SE.and (SE.fn T.d_are_ints (g_are_ints T) mir_len hr (by decide) hgu tkD (by rfl) T.b_are_ints (SA.cons (SE.var 0) (SA.cons SE.int SA.nil))) (SE.and (SE.le (SE.maxT (by rfl) T.n_max (by rfl) (SA.cons (SE.var 0) SA.nil)) (SE.glob (v := .int 1000) (by rfl) T.m__FARTHEST.choose_spec ⟨_, rfl⟩ (fun _ _ => .int _))) (SE.one (SE.ge (SE.minT (by rfl) T.n_min (by rfl) (SA.cons (SE.var 0) SA.nil)) (SE.neg (SE.glob (v := .int 1000) (by rfl) T.m__FARTHEST.choose_spec ⟨_, rfl⟩ (fun _ _ => .int _)))))))))
theorem sc__law_map : FnScope ["deal", "menu"] ["deal"] (defScope s__law_map) := ⟨rfl, rfl, rfl, by decide +kernel, rfl, by decide +kernel, by decide +kernel⟩
theorem g__law_map (T : Txt K mg z) : FnG P w K mg base 3 z.a__law_map z.fd__law_map ["deal"] M__law_map := by
  refine fnG_of (N := ["deal", "menu"]) T.d__law_map.F sc__law_map fun cdv A outer s H E hr hgu => ?_
  have hu := hr.units
  exact (SB.cons (SS.set 1 sc__law_map.nd (by rfl) (Or.inl (by rfl)) (SE.lst (SA.cons (SE.tup (SA.cons SE.int (SA.cons SE.int (SA.cons SE.int (SA.cons SE.int SA.nil))))) (SA.cons (SE.tup (SA.cons SE.int (SA.cons SE.int (SA.cons SE.int (SA.cons SE.int SA.nil))))) (SA.cons (SE.tup (SA.cons SE.int (SA.cons SE.int (SA.cons SE.int (SA.cons SE.int SA.nil))))) (SA.cons (SE.tup (SA.cons SE.int (SA.cons (SE.neg SE.int) (SA.cons SE.int (SA.cons SE.int SA.nil))))) (SA.cons (SE.tup (SA.cons (SE.neg SE.int) (SA.cons SE.int (SA.cons SE.int (SA.cons (SE.neg SE.int) SA.nil))))) (SA.cons (SE.tup (SA.cons SE.int (SA.cons SE.int (SA.cons SE.int (SA.cons SE.int SA.nil))))) (SA.cons (SE.tup (SA.cons SE.int (SA.cons SE.int (SA.cons SE.int (SA.cons SE.int SA.nil))))) (SA.cons (SE.tup (SA.cons SE.int (SA.cons SE.int (SA.cons SE.int (SA.cons (SE.neg SE.int) SA.nil))))) SA.nil))))))))))
    (SB.one (SS.ret (SE.add (SE.fn T.d__law_of (g__law_of T) mir_len hr (by decide) hgu tkD (by rfl) T.b__law_of (SA.cons (SE.var 0) (SA.cons (SE.var 1) SA.nil))) (SE.tup (SA.cons (SE.sub (SE.fn T.d__law_any (g__law_any T) mir_len hr (by decide) hgu tkD (by rfl) T.b__law_any (SA.cons (SE.var 0) (SA.cons SE.int SA.nil))) SE.int) (SA.cons (SE.sub (SE.fn T.d__law_any (g__law_any T) mir_len hr (by decide) hgu tkD (by rfl) T.b__law_any (SA.cons (SE.var 0) (SA.cons SE.int SA.nil))) SE.int) SA.nil)))))))
theorem sc__law_ring_fault : FnScope ["value", "at", "many", "a", "b", "c", "other"] ["value"] (defScope s__law_ring_fault) := ⟨rfl, rfl, rfl, by decide +kernel, rfl, by decide +kernel, by decide +kernel⟩
theorem g__law_ring_fault (T : Txt K mg z) : FnG P w K mg base 3 z.a__law_ring_fault z.fd__law_ring_fault ["value"] M__law_ring_fault := by
  refine fnG_of (N := ["value", "at", "many", "a", "b", "c", "other"]) T.d__law_ring_fault.F sc__law_ring_fault fun cdv A outer s H E hr hgu => ?_
  have hu := hr.units
  exact (SB.cons (SS.ifS (SW.pt (SW.or (ST.not (ST.val (SE.isi (p2 := ⟨0, 0, 0, 0⟩) (T := "tuple") (by rfl) T.n_isinstance (by rfl) T.n_tuple (by decide +kernel) (SE.var 0)))) (SW.or1 (ST.lt (SE.len (by rfl) T.n_len (SA.cons (SE.var 0) SA.nil)) SE.int)))) (SB.one (SS.ret (SE.neg SE.int))) SB.nil)
    (SB.cons (SS.par 1 2 (by rfl) sc__law_ring_fault.nd (by rfl) (by rfl) (by decide) (by rfl) (by rfl) (SA.cons (SE.fn T.d__law_corner_fault (g__law_corner_fault T) mir_len hr (by decide) hgu tkD (by rfl) T.b__law_corner_fault (SA.cons (SE.var 0) SA.nil)) (SA.cons (SE.len (by rfl) T.n_len (SA.cons (SE.var 0) SA.nil)) SA.nil)) (by rfl))
    (SB.cons (SS.ifS (ST.notN (SE.var 1) SE.non) (SB.one (SS.ret (SE.var 1))) SB.nil)
    (SB.cons (SS.forS poD (by rfl) (SI.range1 (by rfl) T.n_range (SA.cons (SE.var 2) SA.nil)) (SG.name 1 sc__law_ring_fault.nd (by rfl) (Or.inl (by rfl))) (SB.cons (SS.par3 3 4 5 (by rfl) sc__law_ring_fault.nd (by rfl) (by rfl) (by rfl) (by decide) (by decide) (by decide) (by rfl) (by rfl) (by rfl) (SA.cons (SE.ix (SE.var 0) (SE.sub (SE.var 1) SE.int)) (SA.cons (SE.ix (SE.var 0) (SE.sub (SE.var 1) SE.int)) (SA.cons (SE.ix (SE.var 0) (SE.var 1)) SA.nil))) (by rfl))
    (SB.cons (SS.ifS (SW.pt (SW.and (ST.eq hu (SE.fn T.d__law_cross (g__law_cross T) mir_len hr (by decide) hgu tkD (by rfl) T.b__law_cross (SA.cons (SE.var 3) (SA.cons (SE.var 4) (SA.cons (SE.var 5) SA.nil)))) SE.int) (SW.and1 (ST.lt (SE.add (SE.mul (SE.sub (SE.ix (SE.var 4) SE.int) (SE.ix (SE.var 3) SE.int)) (SE.sub (SE.ix (SE.var 5) SE.int) (SE.ix (SE.var 4) SE.int))) (SE.mul (SE.sub (SE.ix (SE.var 4) SE.int) (SE.ix (SE.var 3) SE.int)) (SE.sub (SE.ix (SE.var 5) SE.int) (SE.ix (SE.var 4) SE.int)))) SE.int)))) (SB.one (SS.ret (SE.var 2))) SB.nil)
    (SB.one (SS.forS poD (by rfl) (SI.range1 (by rfl) T.n_range (SA.cons (SE.var 1) SA.nil)) (SG.name 6 sc__law_ring_fault.nd (by rfl) (Or.inl (by rfl))) (SB.one (SS.ifS (SW.pt (SW.and (ST.chain (CmpR.lt) (CmpR.lt) SE.int (SE.sub (SE.var 1) (SE.var 6)) (SE.sub (SE.var 2) SE.int)) (SW.and1 (ST.val (SE.fn T.d__law_meet (g__law_meet T) mir_len hr (by decide) hgu tkD (by rfl) T.b__law_meet (SA.cons (SE.ix (SE.var 0) (SE.sub (SE.var 6) SE.int)) (SA.cons (SE.ix (SE.var 0) (SE.var 6)) (SA.cons (SE.ix (SE.var 0) (SE.sub (SE.var 1) SE.int)) (SA.cons (SE.ix (SE.var 0) (SE.var 1)) SA.nil))))))))) (SB.one (SS.ret (SE.var 2))) SB.nil)))))))
    (SB.one (SS.ret SE.non))))))
theorem sc__law_bent : FnScope ["deal", "ring", "at", "other", "a", "b", "spot", "strange", "menu"] ["deal", "ring"] (defScope s__law_bent) := ⟨rfl, rfl, rfl, by decide +kernel, rfl, by decide +kernel, by decide +kernel⟩
theorem g__law_bent (T : Txt K mg z) : FnG P w K mg base 3 z.a__law_bent z.fd__law_bent ["deal", "ring"] M__law_bent := by
  refine fnG_of (N := ["deal", "ring", "at", "other", "a", "b", "spot", "strange", "menu"]) T.d__law_bent.F sc__law_bent fun cdv A outer s H E hr hgu => ?_
  have hu := hr.units
  exact (SB.cons (SS.par 2 3 (by rfl) sc__law_bent.nd (by rfl) (by rfl) (by decide) (by rfl) (by rfl) (SA.cons (SE.fn T.d__law_any (g__law_any T) mir_len hr (by decide) hgu tkD (by rfl) T.b__law_any (SA.cons (SE.var 0) (SA.cons (SE.len (by rfl) T.n_len (SA.cons (SE.var 1) SA.nil)) SA.nil))) (SA.cons (SE.fn T.d__law_any (g__law_any T) mir_len hr (by decide) hgu tkD (by rfl) T.b__law_any (SA.cons (SE.var 0) (SA.cons (SE.len (by rfl) T.n_len (SA.cons (SE.var 1) SA.nil)) SA.nil))) SA.nil)) (by rfl))
    (SB.cons (SS.par 4 5 (by rfl) sc__law_bent.nd (by rfl) (by rfl) (by decide) (by rfl) (by rfl) (SA.cons (SE.ix (SE.var 1) (SE.sub (SE.var 3) SE.int)) (SA.cons (SE.ix (SE.var 1) (SE.var 3)) SA.nil)) (by rfl))
    (SB.cons (SS.set 6 sc__law_bent.nd (by rfl) (Or.inl (by rfl)) (SE.fn T.d__law_of (g__law_of T) mir_len hr (by decide) hgu tkD (by rfl) T.b__law_of (SA.cons (SE.var 0) (SA.cons (SE.lst (SA.cons (SE.tup (SA.cons (SE.div (SE.add (SE.ix (SE.var 4) SE.int) (SE.ix (SE.var 5) SE.int)) SE.int) (SA.cons (SE.div (SE.add (SE.ix (SE.var 4) SE.int) (SE.ix (SE.var 5) SE.int)) SE.int) SA.nil))) (SA.cons (SE.tup (SA.cons (SE.sub (SE.mul SE.int (SE.ix (SE.var 5) SE.int)) (SE.ix (SE.var 4) SE.int)) (SA.cons (SE.sub (SE.mul SE.int (SE.ix (SE.var 5) SE.int)) (SE.ix (SE.var 4) SE.int)) SA.nil))) (SA.cons (SE.var 5) SA.nil)))) SA.nil))))
    (SB.cons (SS.set 7 sc__law_bent.nd (by rfl) (Or.inl (by rfl)) (SE.fn T.d__law_of (g__law_of T) mir_len hr (by decide) hgu tkD (by rfl) T.b__law_of (SA.cons (SE.var 0) (SA.cons (SE.lst (SA.cons SE.non (SA.cons SE.int (SA.cons (SE.tup (SA.cons SE.int SA.nil)) (SA.cons (SE.lst (SA.cons SE.int (SA.cons SE.int SA.nil))) (SA.cons (SE.tup (SA.cons SE.int (SA.cons SE.int (SA.cons SE.int SA.nil)))) (SA.cons (SE.tup (SA.cons SE.bl (SA.cons SE.int SA.nil))) (SA.cons (SE.tup (SA.cons SE.int (SA.cons SE.str SA.nil))) (SA.cons (SE.tup (SA.cons SE.int (SA.cons SE.int SA.nil))) (SA.cons (SE.tup (SA.cons SE.int (SA.cons (SE.neg SE.int) SA.nil))) (SA.cons (SE.tup (SA.cons SE.int (SA.cons (SE.neg SE.int) SA.nil))) (SA.cons SE.str SA.nil)))))))))))) SA.nil))))
    (SB.cons (SS.set 8 sc__law_bent.nd (by rfl) (Or.inl (by rfl)) (SE.lst (SA.cons (SE.add (SE.add (SE.slice (SE.var 1) SO.none (SO.some (SE.var 2))) (SE.tup (SA.cons (SE.var 6) SA.nil))) (SE.slice (SE.var 1) (SO.some (SE.add (SE.var 2) SE.int)) SO.none)) (SA.cons (SE.add (SE.add (SE.slice (SE.var 1) SO.none (SO.some (SE.var 2))) (SE.tup (SA.cons (SE.var 6) SA.nil))) (SE.slice (SE.var 1) (SO.some (SE.var 2)) SO.none)) (SA.cons (SE.add (SE.slice (SE.var 1) SO.none (SO.some (SE.var 2))) (SE.slice (SE.var 1) (SO.some (SE.add (SE.var 2) SE.int)) SO.none)) SA.nil)))))
    (SB.cons (SS.set 8 sc__law_bent.nd (by rfl) (Or.inl (by rfl)) (SE.add (SE.var 8) (SE.lst (SA.cons (SE.ifExp (ST.lt (SE.var 2) (SE.var 3)) (SE.add (SE.add (SE.add (SE.add (SE.slice (SE.var 1) SO.none (SO.some (SE.var 2))) (SE.tup (SA.cons (SE.ix (SE.var 1) (SE.var 3)) SA.nil))) (SE.slice (SE.var 1) (SO.some (SE.add (SE.var 2) SE.int)) (SO.some (SE.var 3)))) (SE.tup (SA.cons (SE.ix (SE.var 1) (SE.var 2)) SA.nil))) (SE.slice (SE.var 1) (SO.some (SE.add (SE.var 3) SE.int)) SO.none)) (SE.slT (by decide) (by decide) (SE.var 1) SO.none SO.none stepc_neg)) SA.nil))))
    (SB.cons (SS.set 8 sc__law_bent.nd (by rfl) (Or.inl (by rfl)) (SE.add (SE.var 8) (SE.lst (SA.cons (SE.add (SE.add (SE.slice (SE.var 1) SO.none (SO.some (SE.var 2))) (SE.tup (SA.cons (SE.var 7) SA.nil))) (SE.slice (SE.var 1) (SO.some (SE.add (SE.var 2) SE.int)) SO.none)) (SA.cons (SE.list1 (by rfl) T.n_list (SA.cons (SE.var 1) SA.nil)) (SA.cons (SE.slice (SE.var 1) SO.none (SO.some SE.int)) (SA.cons (SE.tup SA.nil) (SA.cons SE.non (SA.cons SE.str (SA.cons (SE.tup (SA.cons (SE.var 1) SA.nil)) SA.nil))))))))))
    (SB.one (SS.ret (SE.fn T.d__law_of (g__law_of T) mir_len hr (by decide) hgu tkD (by rfl) T.b__law_of (SA.cons (SE.var 0) (SA.cons (SE.add (SE.add (SE.slice (SE.var 8) SO.none (SO.some SE.int)) (SE.slice (SE.var 8) SO.none (SO.some SE.int))) (SE.var 8)) SA.nil))))))))))))
theorem sc__meet : FnScope ["first", "second", "a", "b", "c", "d"] ["first", "second"] (defScope s__meet) := ⟨rfl, rfl, rfl, by decide +kernel, rfl, by decide +kernel, by decide +kernel⟩
theorem g__meet (T : Txt K mg z) : FnG P w K mg base 4 z.a__meet z.fd__meet ["first", "second"] M__meet := by
  refine fnG_of (N := ["first", "second", "a", "b", "c", "d"]) T.d__meet.F sc__meet fun cdv A outer s H E hr hgu => ?_
  have hu := hr.units
  exact (SB.cons (SS.ifS (ST.val (SE.fn T.d__apart (g__apart T) mir_len hr (by decide) hgu tkD (by rfl) T.b__apart (SA.cons (SE.var 0) (SA.cons (SE.var 1) SA.nil)))) (SB.one (SS.ret SE.bl)) SB.nil)
    (SB.cons (SS.asg (SE.tup (SA.cons (SE.var 0) (SA.cons (SE.var 1) SA.nil))) (SG.tup (by rfl) (SGs.cons (SG.tup (by rfl) (SGs.cons (SG.name 2 sc__meet.nd (by rfl) (Or.inl (by rfl))) (SGs.cons (SG.name 3 sc__meet.nd (by rfl) (Or.inl (by rfl))) SGs.nil))) (SGs.cons (SG.tup (by rfl) (SGs.cons (SG.name 4 sc__meet.nd (by rfl) (Or.inl (by rfl))) (SGs.cons (SG.name 5 sc__meet.nd (by rfl) (Or.inl (by rfl))) SGs.nil))) SGs.nil))))
    (SB.one (SS.ret (SE.or (SE.fn T.d_whole_crosses (g_whole_crosses T) mir_len hr (by decide) hgu tkD (by rfl) T.b_whole_crosses (SA.cons (SE.var 2) (SA.cons (SE.var 3) (SA.cons (SE.var 4) (SA.cons (SE.var 5) SA.nil))))) (SE.or (SE.fn T.d_whole_on (g_whole_on T) mir_len hr (by decide) hgu tkD (by rfl) T.b_whole_on (SA.cons (SE.var 2) (SA.cons (SE.var 3) (SA.cons (SE.var 4) SA.nil)))) (SE.or (SE.fn T.d_whole_on (g_whole_on T) mir_len hr (by decide) hgu tkD (by rfl) T.b_whole_on (SA.cons (SE.var 2) (SA.cons (SE.var 3) (SA.cons (SE.var 5) SA.nil)))) (SE.or (SE.fn T.d_whole_on (g_whole_on T) mir_len hr (by decide) hgu tkD (by rfl) T.b_whole_on (SA.cons (SE.var 4) (SA.cons (SE.var 5) (SA.cons (SE.var 2) SA.nil)))) (SE.one (SE.fn T.d_whole_on (g_whole_on T) mir_len hr (by decide) hgu tkD (by rfl) T.b_whole_on (SA.cons (SE.var 4) (SA.cons (SE.var 5) (SA.cons (SE.var 3) SA.nil)))))))))))))
theorem sc__law_ring : FnScope ["deal", "ring"] ["deal"] (defScope s__law_ring) := ⟨rfl, rfl, rfl, by decide +kernel, rfl, by decide +kernel, by decide +kernel⟩
theorem g__law_ring (T : Txt K mg z) : FnG P w K mg base 4 z.a__law_ring z.fd__law_ring ["deal"] M__law_ring := by
  refine fnG_of (N := ["deal", "ring"]) T.d__law_ring.F sc__law_ring fun cdv A outer s H E hr hgu => ?_
  have hu := hr.units
  exact (SB.cons (SS.set 1 sc__law_ring.nd (by rfl) (Or.inl (by rfl)) (SE.ifExp (ST.eq hu (SE.fn T.d__law_any (g__law_any T) mir_len hr (by decide) hgu tkD (by rfl) T.b__law_any (SA.cons (SE.var 0) (SA.cons SE.int SA.nil))) SE.int) (SE.fn T.d__law_star (g__law_star T) mir_len hr (by decide) hgu tkD (by rfl) T.b__law_star (SA.cons (SE.var 0) (SA.cons (SE.tup (SA.cons SE.int (SA.cons SE.int SA.nil))) (SA.cons SE.int (SA.cons SE.int SA.nil))))) (SE.fn T.d__law_wave (g__law_wave T) mir_len hr (by decide) hgu tkD (by rfl) T.b__law_wave (SA.cons (SE.var 0) (SA.cons (SE.add SE.int (SE.fn T.d__law_any (g__law_any T) mir_len hr (by decide) hgu tkD (by rfl) T.b__law_any (SA.cons (SE.var 0) (SA.cons SE.int SA.nil)))) SA.nil)))))
    (SB.one (SS.ret (SE.fn T.d__law_more (g__law_more T) mir_len hr (by decide) hgu tkD (by rfl) T.b__law_more (SA.cons (SE.var 0) (SA.cons (SE.fn T.d__law_put (g__law_put T) mir_len hr (by decide) hgu tkD (by rfl) T.b__law_put (SA.cons (SE.var 1) (SA.cons (SE.fn T.d__law_map (g__law_map T) mir_len hr (by decide) hgu tkD (by rfl) T.b__law_map (SA.cons (SE.var 0) SA.nil)) SA.nil))) SA.nil))))))
theorem sc_meets_itself : FnScope ["ring", "sides", "many", "at", "a", "b", "other"] ["ring"] (defScope s_meets_itself) := ⟨rfl, rfl, rfl, by decide +kernel, rfl, by decide +kernel, by decide +kernel⟩
theorem g_meets_itself (T : Txt K mg z) : FnG P w K mg base 5 z.a_meets_itself z.fd_meets_itself ["ring"] M_meets_itself := by
  refine fnG_of (N := ["ring", "sides", "many", "at", "a", "b", "other"]) T.d_meets_itself.F sc_meets_itself fun cdv A outer s H E hr hgu => ?_
  have hu := hr.units
  exact (SB.cons (SS.set 1 sc_meets_itself.nd (by rfl) (Or.inl (by rfl)) (SE.fn T.d_sides_along (g_sides_along T) mir_len hr (by decide) hgu tkD (by rfl) T.b_sides_along (SA.cons (SE.var 0) SA.nil)))
    (SB.cons (SS.set 2 sc_meets_itself.nd (by rfl) (Or.inl (by rfl)) (SE.len (by rfl) T.n_len (SA.cons (SE.var 1) SA.nil)))
    (SB.cons (SS.forS poD (by rfl) (SI.enum (by rfl) T.n_enumerate (SA.cons (SE.var 1) SA.nil)) (SG.tup (by rfl) (SGs.cons (SG.name 3 sc_meets_itself.nd (by rfl) (Or.inl (by rfl))) (SGs.cons (SG.tup (by rfl) (SGs.cons (SG.name 4 sc_meets_itself.nd (by rfl) (Or.inl (by rfl))) (SGs.cons (SG.name 5 sc_meets_itself.nd (by rfl) (Or.inl (by rfl))) SGs.nil))) SGs.nil))) (SB.cons (SS.ifS (ST.val (SE.fn T.d_turns_back (g_turns_back T) mir_len hr (by decide) hgu tkD (by rfl) T.b_turns_back (SA.cons (SE.var 4) (SA.cons (SE.var 5) (SA.cons (SE.ix (SE.ix (SE.var 1) (SE.mod (SE.add (SE.var 3) SE.int) (SE.var 2))) SE.int) SA.nil))))) (SB.one (SS.ret SE.bl)) SB.nil)
    (SB.one (SS.forS poD (by rfl) (SI.seq (SE.slice (SE.var 1) (SO.some (SE.add (SE.var 3) SE.int)) (SO.some (SE.subB (SE.var 2) (SE.eq hu (SE.var 3) SE.int))))) (SG.name 6 sc_meets_itself.nd (by rfl) (Or.inl (by rfl))) (SB.one (SS.ifS (ST.val (SE.fn T.d__meet (g__meet T) mir_len hr (by decide) hgu tkD (by rfl) T.b__meet (SA.cons (SE.tup (SA.cons (SE.var 4) (SA.cons (SE.var 5) SA.nil))) (SA.cons (SE.var 6) SA.nil)))) (SB.one (SS.ret SE.bl)) SB.nil))))))
    (SB.one (SS.ret SE.bl)))))
theorem sc_need_ring : FnScope ["value", "ahead", "at", "thing"] ["value"] (defScope s_need_ring) := ⟨rfl, rfl, rfl, by decide +kernel, rfl, by decide +kernel, by decide +kernel⟩
theorem g_need_ring (T : Txt K mg z) : FnG P w K mg base 6 z.a_need_ring z.fd_need_ring ["value"] M_need_ring := by
  refine fnG_of (N := ["value", "ahead", "at", "thing"]) T.d_need_ring.F sc_need_ring fun cdv A outer s H E hr hgu => ?_
  have hu := hr.units
  exact (SB.cons (SS.ifS (ST.not (SW.pt (SW.and (ST.val (SE.isi (p2 := ⟨0, 0, 0, 0⟩) (T := "tuple") (by rfl) T.n_isinstance (by rfl) T.n_tuple (by decide +kernel) (SE.var 0))) (SW.and1 (ST.ge (SE.len (by rfl) T.n_len (SA.cons (SE.var 0) SA.nil)) SE.int))))) (SB.one (SS.raise (by rfl) T.x_InvalidRing hr tkD (SA.cons (SE.neg SE.int) SA.nil) (by rfl))) SB.nil)
    (SB.cons (SS.set 1 sc_need_ring.nd (by rfl) (Or.inl (by rfl)) SE.dct)
    (SB.cons (SS.forS poD (by rfl) (SI.enum (by rfl) T.n_enumerate (SA.cons (SE.var 0) SA.nil)) (SG.tup (by rfl) (SGs.cons (SG.name 2 sc_need_ring.nd (by rfl) (Or.inl (by rfl))) (SGs.cons (SG.name 3 sc_need_ring.nd (by rfl) (Or.inl (by rfl))) SGs.nil))) (SB.cons (SS.ifS (SW.pt (SW.or (ST.not (ST.val (SE.fn T.d_is_corner (g_is_corner T) mir_len hr (by decide) hgu tkD (by rfl) T.b_is_corner (SA.cons (SE.var 3) SA.nil)))) (SW.or1 (ST.inK hu (SE.var 3) (SE.var 1))))) (SB.one (SS.raise (by rfl) T.x_InvalidRing hr tkD (SA.cons (SE.var 2) SA.nil) (by rfl))) SB.nil)
    (SB.one (SS.put hu SE.bl (SE.var 1) (SE.var 3)))))
    (SB.one (SS.ifS (ST.val (SE.fn T.d_meets_itself (g_meets_itself T) mir_len hr (by decide) hgu tkD (by rfl) T.b_meets_itself (SA.cons (SE.var 0) SA.nil))) (SB.one (SS.raise (by rfl) T.x_InvalidRing hr tkD (SA.cons (SE.len (by rfl) T.n_len (SA.cons (SE.var 0) SA.nil)) SA.nil) (by rfl))) SB.nil)))))
theorem sc_is_ring : FnScope ["value"] ["value"] (defScope s_is_ring) := ⟨rfl, rfl, rfl, by decide +kernel, rfl, by decide +kernel, by decide +kernel⟩
theorem g_is_ring (T : Txt K mg z) : FnG P w K mg base 7 z.a_is_ring z.fd_is_ring ["value"] M_is_ring := by
  refine fnG_of (N := ["value"]) T.d_is_ring.F sc_is_ring fun cdv A outer s H E hr hgu => ?_
  have hu := hr.units
  exact (SB.cons (SS.tryO (by rfl) (by rfl) ⟨by rfl, by decide, .inl T.g_InvalidRing⟩ tkD T.t_InvalidRing (fun _ _ _ tkt _ => (SB.one (SS.expr (SE.fn T.d_need_ring (g_need_ring T) mir_len hr (by decide) hgu tkt (by rfl) T.b_need_ring (SA.cons (SE.var 0) SA.nil))))) (fun _ _ _ => (SB.one (SS.ret SE.bl))))
    (SB.one (SS.ret SE.bl)))
theorem sc__law_heard : FnScope ["value", "e"] ["value"] (defScope s__law_heard) := ⟨rfl, rfl, rfl, by decide +kernel, rfl, by decide +kernel, by decide +kernel⟩
theorem g__law_heard (T : Txt K mg z) : FnG P w K mg base 7 z.a__law_heard z.fd__law_heard ["value"] M__law_heard := by
  refine fnG_of (N := ["value", "e"]) T.d__law_heard.F sc__law_heard fun cdv A outer s H E hr hgu => ?_
  have hu := hr.units
  exact (SB.one (SS.tryAs (i := 1) (by rfl) (by rfl) sc__law_heard.nd (by rfl) (by rfl) ⟨by rfl, by decide, .inl T.g_InvalidRing⟩ tkD T.t_InvalidRing (fun _ _ _ tkt _ => (SB.one (SS.ret (SE.ifExp (ST.isN (SE.fn T.d_need_ring (g_need_ring T) mir_len hr (by decide) hgu tkt (by rfl) T.b_need_ring (SA.cons (SE.var 0) SA.nil)) SE.non) (SE.lst SA.nil) (SE.lst (SA.cons SE.str SA.nil)))))) (suite_ret (SXE.ifE (SXT.val (SXE.isi (vc := .ref z.c_FieldError) T.is_InvalidRing T.g_InvalidRing (by rfl) T.n_isinstance (by rfl) T.g_FieldError rfl (fun _ z => z) T.is_InvalidRing_FieldError (by rfl) (.inl (by rfl)))) (SXE.lst (SXA.cons (SXE.fld T.f_InvalidRing T.g_InvalidRing "at" T.nf_InvalidRing_at (by rfl) (.inl (by rfl))) SXA.nil)) (SXE.lift fun _ _ _ => (SE.lst (SA.cons SE.str SA.nil)))))))
theorem sc_law : FnScope ["script", "deal", "turn", "ring", "due", "at", "some", "step", "value", "e"] ["script"] (defScope s_law) := ⟨rfl, rfl, rfl, by decide +kernel, rfl, by decide +kernel, by decide +kernel⟩
theorem g_law (T : Txt K mg z) : FnG P w K mg base 8 z.a_law z.fd_law ["script"] M_law := by
  refine fnG_of (N := ["script", "deal", "turn", "ring", "due", "at", "some", "step", "value", "e"]) T.d_law.F sc_law fun cdv A outer s H E hr hgu => ?_
  have hu := hr.units
  exact (SB.cons (SS.set 1 sc_law.nd (by rfl) (Or.inr (by rfl)) (SE.fn T.d__law_deal (g__law_deal T) mir_len hr (by decide) hgu tkD (by rfl) T.b__law_deal (SA.cons (SE.var 0) (SA.cons SE.int SA.nil))))
    (SB.cons (SS.forS poD (by rfl) (SI.range1 (by rfl) T.n_range (SA.cons SE.int SA.nil)) (SG.name 2 sc_law.nd (by rfl) (Or.inl (by rfl))) (SB.cons (SS.set 3 sc_law.nd (by rfl) (Or.inr (by rfl)) (SE.fn T.d__law_ring (g__law_ring T) mir_len hr (by decide) hgu tkD (by rfl) T.b__law_ring (SA.cons (SE.var 1) SA.nil)))
    (SB.cons (SS.ifS (SW.pt (SW.or (ST.notB (SE.fn T.d_is_ring (g_is_ring T) mir_len hr (by decide) hgu tkD (by rfl) T.b_is_ring (SA.cons (SE.var 3) SA.nil)) SE.bl) (SW.or (ST.ne hu (SE.fn T.d__law_heard (g__law_heard T) mir_len hr (by decide) hgu tkD (by rfl) T.b__law_heard (SA.cons (SE.var 3) SA.nil)) (SE.lst SA.nil)) (SW.or1 (ST.notB (SE.fnK T.d_is_ring (g_is_ring T) mir_len hr (by decide) hgu tkD (by rfl) T.k_is_ring_value (SKw.cons (SE.slT (by decide) (by decide) (SE.var 3) SO.none SO.none stepc_neg) SKw.nil)) SE.bl))))) (SB.one (SS.ret SE.bl)) SB.nil)
    (SB.cons (SS.set 4 sc_law.nd (by rfl) (Or.inl (by rfl)) (SE.tup1 (by rfl) T.n_tuple (SA.cons (SE.lcV (own := [("at", 5)]) (by rfl) sc_law.nd (SI.range1 (by rfl) T.n_range (SA.cons (SE.len (by rfl) T.n_len (SA.cons (SE.var 3) SA.nil)) SA.nil)) (blkOk_by (N := ["script", "deal", "turn", "ring", "due", "at", "some", "step", "value", "e"]) (sc := defScope s_law) (by decide +kernel)) (by decide) (fun _ _ _ _ _ => (SG.name 5 sc_law.nd (by rfl) (Or.inl (by rfl)))) (fun _ _ _ _ _ => STs.nil) (fun _ _ _ _ _ => (SE.tup (SA.cons (SE.ix (SE.var 3) (SE.var 5)) (SA.cons (SE.ix (SE.var 3) (SE.mod (SE.int1 (by rfl) T.n_int (SA.cons (SE.add (SE.var 5) SE.int) SA.nil)) (SE.len (by rfl) T.n_len (SA.cons (SE.var 3) SA.nil)))) SA.nil))))) SA.nil)))
    (SB.cons (SS.ifS (SW.pt (SW.or (ST.ne hu (SE.repr hgu hu (by rfl) T.n_repr (SA.cons (SE.fn T.d_ring_sides (g_ring_sides T) mir_len hr (by decide) hgu tkD (by rfl) T.b_ring_sides (SA.cons (SE.var 3) SA.nil)) SA.nil)) (SE.repr hgu hu (by rfl) T.n_repr (SA.cons (SE.var 4) SA.nil))) (SW.or1 (ST.ne hu (SE.fnK T.d_ring_sides (g_ring_sides T) mir_len hr (by decide) hgu tkD (by rfl) T.k_ring_sides_ring (SKw.cons (SE.var 3) SKw.nil)) (SE.var 4))))) (SB.one (SS.ret SE.bl)) SB.nil)
    (SB.cons (SS.set 6 sc_law.nd (by rfl) (Or.inl (by rfl)) (SE.tup1 (by rfl) T.n_tuple (SA.cons (SE.lcV (own := [("step", 7)]) (by rfl) sc_law.nd (SI.range1 (by rfl) T.n_range (SA.cons (SE.add SE.int (SE.fn T.d__law_any (g__law_any T) mir_len hr (by decide) hgu tkD (by rfl) T.b__law_any (SA.cons (SE.var 1) (SA.cons SE.int SA.nil)))) SA.nil)) (blkOk_by (N := ["script", "deal", "turn", "ring", "due", "at", "some", "step", "value", "e"]) (sc := defScope s_law) (by decide +kernel)) (by decide) (fun _ _ _ _ _ => (SG.name 7 sc_law.nd (by rfl) (Or.inl (by rfl)))) (fun _ _ _ _ _ => STs.nil) (fun _ _ _ _ _ => (SE.tup (SA.cons (SE.fn T.d__law_any (g__law_any T) mir_len hr (by decide) hgu tk0 (by rfl) T.b__law_any (SA.cons (SE.var 1) (SA.cons SE.int SA.nil))) (SA.cons (SE.fn T.d__law_any (g__law_any T) mir_len hr (by decide) hgu tk0 (by rfl) T.b__law_any (SA.cons (SE.var 1) (SA.cons SE.int SA.nil))) SA.nil))))) SA.nil)))
    (SB.one (SS.forS poD (by rfl) (SI.seq (SE.lst (SA.cons (SE.fn T.d__law_bent (g__law_bent T) mir_len hr (by decide) hgu tkD (by rfl) T.b__law_bent (SA.cons (SE.var 1) (SA.cons (SE.var 3) SA.nil))) (SA.cons (SE.fn T.d__law_bent (g__law_bent T) mir_len hr (by decide) hgu tkD (by rfl) T.b__law_bent (SA.cons (SE.var 1) (SA.cons (SE.var 3) SA.nil))) (SA.cons (SE.var 6) SA.nil))))) (SG.name 8 sc_law.nd (by rfl) (Or.inl (by rfl))) (SB.cons (SS.set 5 sc_law.nd (by rfl) (Or.inl (by rfl)) (SE.fn T.d__law_ring_fault (g__law_ring_fault T) mir_len hr (by decide) hgu tkD (by rfl) T.b__law_ring_fault (SA.cons (SE.var 8) SA.nil)))
    (SB.one (SS.ifS (SW.pt (SW.or (ST.ne hu (SE.repr hgu hu (by rfl) T.n_repr (SA.cons (SE.fn T.d__law_heard (g__law_heard T) mir_len hr (by decide) hgu tkD (by rfl) T.b__law_heard (SA.cons (SE.var 8) SA.nil)) SA.nil)) (SE.repr hgu hu (by rfl) T.n_repr (SA.cons (SE.ifExp (ST.isN (SE.var 5) SE.non) (SE.lst SA.nil) (SE.lst (SA.cons (SE.var 5) SA.nil))) SA.nil))) (SW.or1 (ST.ne hu (SE.repr hgu hu (by rfl) T.n_repr (SA.cons (SE.fn T.d_is_ring (g_is_ring T) mir_len hr (by decide) hgu tkD (by rfl) T.b_is_ring (SA.cons (SE.var 8) SA.nil)) SA.nil)) (SE.repr hgu hu (by rfl) T.n_repr (SA.cons (SE.isN (SE.var 5) SE.non) SA.nil)))))) (SB.one (SS.ret SE.bl)) SB.nil)))))))))))
    (SB.cons (SS.forS poD (by rfl) (SI.seq (SE.lst (SA.cons (SE.fn T.d__law_of (g__law_of T) mir_len hr (by decide) hgu tkD (by rfl) T.b__law_of (SA.cons (SE.var 1) (SA.cons (SE.lst (SA.cons (SE.tup (SA.cons SE.int (SA.cons (SE.neg SE.int) SA.nil))) (SA.cons (SE.tup (SA.cons SE.int (SA.cons SE.int SA.nil))) SA.nil))) SA.nil))) (SA.cons (SE.fn T.d__law_of (g__law_of T) mir_len hr (by decide) hgu tkD (by rfl) T.b__law_of (SA.cons (SE.var 1) (SA.cons (SE.lst (SA.cons (SE.tup (SA.cons SE.int (SA.cons SE.int SA.nil))) (SA.cons (SE.lst (SA.cons SE.int (SA.cons SE.int SA.nil))) (SA.cons (SE.tup (SA.cons SE.int SA.nil)) (SA.cons SE.non (SA.cons (SE.tup (SA.cons SE.bl (SA.cons SE.int SA.nil))) (SA.cons (SE.tup (SA.cons SE.int (SA.cons SE.int (SA.cons SE.int SA.nil)))) SA.nil))))))) SA.nil))) SA.nil)))) (SG.name 8 sc_law.nd (by rfl) (Or.inl (by rfl))) (SB.one (SS.ifS (ST.ne hu (SE.repr hgu hu (by rfl) T.n_repr (SA.cons (SE.fnK T.d_is_corner (g_is_corner T) mir_len hr (by decide) hgu tkD (by rfl) T.k_is_corner_value (SKw.cons (SE.var 8) SKw.nil)) SA.nil)) (SE.repr hgu hu (by rfl) T.n_repr (SA.cons (SE.isN (SE.fn T.d__law_corner_fault (g__law_corner_fault T) mir_len hr (by decide) hgu tkD (by rfl) T.b__law_corner_fault (SA.cons (SE.tup (SA.cons (SE.var 8) SA.nil)) SA.nil)) SE.non) SA.nil))) (SB.one (SS.ret SE.bl)) SB.nil)))
    (SB.cons (SS.tryAs (i := 9) (by rfl) (by rfl) sc_law.nd (by rfl) (by rfl) ⟨by rfl, by decide, .inl T.g_InvalidRing⟩ tkD T.t_InvalidRing (fun _ _ _ tkt _ => (SB.one (SS.expr (SE.fnK T.d_need_ring (g_need_ring T) mir_len hr (by decide) hgu tkt (by rfl) T.k_need_ring_value (SKw.cons (SE.tup (SA.cons (SE.tup (SA.cons SE.int (SA.cons SE.int SA.nil))) (SA.cons (SE.tup (SA.cons SE.int (SA.cons SE.int SA.nil))) SA.nil))) SKw.nil))))) (suite_ret (SXE.eq hu (SXE.fld T.f_InvalidRing T.g_InvalidRing "at" T.nf_InvalidRing_at (by rfl) (.inl (by rfl))) (SXE.lift fun _ _ _ => (SE.neg SE.int)))))
    (SB.one (SS.ret SE.bl))))))
end
end LW
set_option Elab.async false
set_option linter.all false
set_option maxRecDepth 100000
set_option maxHeartbeats 40000000
namespace LW
open PySem PySem.Spec PyProof.Rows L2 V2
local macro_rules | `(tactic| array_get_dec) => `(tactic| with_reducible refine i_go (by assumption) ?_)
local macro_rules | `(tactic| array_get_dec) => `(tactic| with_reducible refine i_next ?_)
local macro_rules | `(tactic| array_get_dec) => `(tactic| with_reducible refine i_isr2 ?_)
local macro_rules | `(tactic| array_get_dec) => `(tactic| with_reducible refine i_range2 ?_)
local macro_rules | `(tactic| array_get_dec) => `(tactic| with_reducible refine i_range1 ?_)
local macro_rules | `(tactic| array_get_dec) => `(tactic| with_reducible refine i_for ?_)
local macro_rules | `(tactic| array_get_dec) => `(tactic| with_reducible refine i_brk ?_)
local macro_rules | `(tactic| array_get_dec) => `(tactic| with_reducible refine i_zip2 ?_)
local macro_rules | `(tactic| array_get_dec) => `(tactic| with_reducible refine i_enum1 ?_)
local macro_rules | `(tactic| array_get_dec) => `(tactic| with_reducible refine i_one ?_)
local macro_rules | `(tactic| array_get_dec) => `(tactic| with_reducible refine i_raise ?_)
local macro_rules | `(tactic| array_get_dec) => `(tactic| with_reducible refine i_sub ?_)
local macro_rules | `(tactic| array_get_dec) => `(tactic| with_reducible refine i_append ?_)
local macro_rules | `(tactic| array_get_dec) => `(tactic| with_reducible refine i_pop ?_)
local macro_rules | `(tactic| array_get_dec) => `(tactic| with_reducible refine i_drop ?_)
local macro_rules | `(tactic| array_get_dec) => `(tactic| with_reducible refine i_len (by with_unfolding_all exact rfl) ?_)
local macro_rules | `(tactic| array_get_dec) => `(tactic| with_reducible refine i_notN ?_)
local macro_rules | `(tactic| array_get_dec) => `(tactic| with_reducible refine i_isN ?_)
local macro_rules | `(tactic| array_get_dec) => `(tactic| with_reducible refine i_min2 ?_)
local macro_rules | `(tactic| array_get_dec) => `(tactic| with_reducible refine i_max2 ?_)
local macro_rules | `(tactic| array_get_dec) => `(tactic| with_reducible refine i_chain ?_)
local macro_rules | `(tactic| array_get_dec) => `(tactic| with_reducible refine i_lcm3 ?_ ?_)
local macro_rules | `(tactic| array_get_dec) => `(tactic| with_reducible refine i_gcd ?_)
local macro_rules | `(tactic| array_get_dec) => `(tactic| with_reducible refine i_toint ?_)
local macro_rules | `(tactic| array_get_dec) => `(tactic| with_reducible refine i_abs ?_)
local macro_rules | `(tactic| array_get_dec) => `(tactic| with_reducible refine i_pk4 ?_)
local macro_rules | `(tactic| array_get_dec) => `(tactic| with_reducible refine i_pk3 ?_)
local macro_rules | `(tactic| array_get_dec) => `(tactic| with_reducible refine i_pk2 ?_)
local macro_rules | `(tactic| array_get_dec) => `(tactic| with_reducible refine i_pk1 ?_)
local macro_rules | `(tactic| array_get_dec) => `(tactic| with_reducible refine i_fnk ?_)
local macro_rules | `(tactic| array_get_dec) => `(tactic| with_reducible refine i_fn ?_)
local macro_rules | `(tactic| array_get_dec) => `(tactic| with_reducible refine i_call ?_)
local macro_rules | `(tactic| array_get_dec) => `(tactic| with_reducible refine i_ix (by with_unfolding_all exact rfl) (by with_unfolding_all exact rfl) ?_)
local macro_rules | `(tactic| array_get_dec) => `(tactic| with_reducible refine i_ix (by assumption) (by with_unfolding_all exact rfl) ?_)
local macro_rules | `(tactic| array_get_dec) => `(tactic| with_reducible refine i_all (by repeat constructor) (by with_unfolding_all exact Nat.le_of_ble_eq_true rfl) ?_)
local macro_rules | `(tactic| array_get_dec) => `(tactic| with_reducible refine i_lst ?_)
local macro_rules | `(tactic| array_get_dec) => `(tactic| with_reducible refine i_tup ?_)
local macro_rules | `(tactic| array_get_dec) => `(tactic| with_reducible refine i_notB ?_)
local macro_rules | `(tactic| array_get_dec) => `(tactic| with_reducible refine i_minT2 ?_)
local macro_rules | `(tactic| array_get_dec) => `(tactic| with_reducible refine i_maxT2 ?_)
local macro_rules | `(tactic| array_get_dec) => `(tactic| with_reducible refine i_listT ?_)
local macro_rules | `(tactic| array_get_dec) => `(tactic| with_reducible refine i_tupL ?_)
local macro_rules | `(tactic| array_get_dec) => `(tactic| with_reducible refine rvL ?_)
local macro_rules | `(tactic| array_get_dec) => `(tactic| with_reducible refine i_rev ?_)
local macro_rules | `(tactic| array_get_dec) => `(tactic| with_reducible refine slL ?_)
local macro_rules | `(tactic| array_get_dec) => `(tactic| with_reducible refine slT ?_)
local macro_rules | `(tactic| array_get_dec) => `(tactic| with_reducible refine i_oS ?_)
local macro_rules | `(tactic| array_get_dec) => `(tactic| with_reducible refine i_oN ?_)
local macro_rules | `(tactic| array_get_dec) => `(tactic| with_reducible refine i_slG ?_)
local macro_rules | `(tactic| array_get_dec) => `(tactic| with_reducible refine i_fnotG ?_)
local macro_rules | `(tactic| array_get_dec) => `(tactic| with_reducible refine i_forG ?_)
local macro_rules | `(tactic| array_get_dec) => `(tactic| with_reducible refine i_fand ?_)
local macro_rules | `(tactic| array_get_dec) => `(tactic| with_reducible refine i_fif ?_)
local macro_rules | `(tactic| array_get_dec) => `(tactic| with_reducible refine i_not2 ?_)
local macro_rules | `(tactic| array_get_dec) => `(tactic| with_reducible refine i_or2 ?_)
local macro_rules | `(tactic| array_get_dec) => `(tactic| with_reducible refine i_and2 ?_)
local macro_rules | `(tactic| array_get_dec) => `(tactic| with_reducible refine i_isr ?_)
local macro_rules | `(tactic| array_get_dec) => `(tactic| with_reducible refine i_isi ?_)
local macro_rules | `(tactic| array_get_dec) => `(tactic| with_reducible refine i_isb ?_)
local macro_rules | `(tactic| array_get_dec) => `(tactic| with_reducible refine i_val ?_)
local macro_rules | `(tactic| array_get_dec) => `(tactic| with_reducible refine i_un ?_)
local macro_rules | `(tactic| array_get_dec) => `(tactic| with_reducible refine i_nes ?_)
local macro_rules | `(tactic| array_get_dec) => `(tactic| with_reducible refine i_nesr ?_)
local macro_rules | `(tactic| array_get_dec) => `(tactic| with_reducible refine i_eqs ?_)
local macro_rules | `(tactic| array_get_dec) => `(tactic| with_reducible refine i_eqsr ?_)
local macro_rules | `(tactic| array_get_dec) => `(tactic| with_reducible refine i_nei ?_)
local macro_rules | `(tactic| array_get_dec) => `(tactic| with_reducible refine i_eqi ?_)
local macro_rules | `(tactic| array_get_dec) => `(tactic| with_reducible refine i_add ?_)
local macro_rules | `(tactic| array_get_dec) => `(tactic| with_reducible refine i_ints ?_ ?_)
local macro_rules | `(tactic| array_get_dec) => `(tactic| with_reducible refine i_ints0 ?_)
local macro_rules | `(tactic| array_get_dec) => `(tactic| with_reducible refine i_bin ?_)
local macro_rules | `(tactic| array_get_dec) => `(tactic| with_reducible refine i_nil ?_)
local macro_rules | `(tactic| array_get_dec) => `(tactic| with_reducible refine i_cons ?_)
local macro_rules | `(tactic| array_get_dec) => `(tactic| with_reducible refine i_c ?_)
local macro_rules | `(tactic| array_get_dec) => `(tactic| with_reducible refine i_var (by repeat constructor) ?_)
local macro_rules | `(tactic| array_get_dec) => `(tactic| with_reducible refine i_if ?_)
local macro_rules | `(tactic| array_get_dec) => `(tactic| with_reducible refine i_ret ?_)
local macro_rules | `(tactic| array_get_dec) => `(tactic| with_reducible refine i_trip (by repeat constructor) (by repeat constructor) (by repeat constructor) ?_)
local macro_rules | `(tactic| array_get_dec) => `(tactic| with_reducible refine i_par3 ?_ (by with_unfolding_all exact Nat.le_of_ble_eq_true rfl) (by with_unfolding_all exact Nat.le_of_ble_eq_true rfl) (by with_unfolding_all exact Nat.le_of_ble_eq_true rfl))
local macro_rules | `(tactic| array_get_dec) => `(tactic| with_reducible refine i_pair (by repeat constructor) (by repeat constructor) ?_)
local macro_rules | `(tactic| array_get_dec) => `(tactic| with_reducible refine i_par ?_ (by with_unfolding_all exact Nat.le_of_ble_eq_true rfl) (by with_unfolding_all exact Nat.le_of_ble_eq_true rfl))
local macro_rules | `(tactic| array_get_dec) => `(tactic| with_reducible refine i_set (by repeat constructor) ?_)
local macro_rules | `(tactic| array_get_dec) => `(tactic| with_reducible refine i_asgn ?_ (by with_unfolding_all exact Nat.le_of_ble_eq_true rfl))
local macro_rules | `(tactic| array_get_dec) => `(tactic| with_reducible refine i_asg2v (by repeat constructor) (by repeat constructor) (by repeat constructor) ?_)
local macro_rules | `(tactic| array_get_dec) => `(tactic| with_reducible refine i_seqg (fun _ _ => ?_))

local macro_rules
  | `(tactic| decreasing_trivial_pre_omega) => `(tactic| (apply cmB; (repeat' (first | assumption | apply Bd.add | apply Bd.sub | apply Bd.mul | apply Bd.neg)); decide))

open RG (Zp)
abbrev zD (a : Zp) : PyData := .tuple [.int a.1, .int a.2]
def B3 (a : Zp) : Prop := (-1000 ≤ a.1 ∧ a.1 ≤ 1000) ∧ (-1000 ≤ a.2 ∧ a.2 ≤ 1000)
theorem B3.bd {a : Zp} (h : B3 a) : Bd 11 a.1 ∧ Bd 11 a.2 := by
  obtain ⟨⟨h1, h2⟩, h3, h4⟩ := h
  constructor
  · show a.1.natAbs < 2048; omega
  · show a.2.natAbs < 2048; omega
def sgn (i : Int) : Int := if 0 < i then 1 else if i < 0 then -1 else 0
theorem sgn_bd (i : Int) : Bd 1 (sgn i) := by
  unfold Bd sgn
  split
  · decide
  · split <;> decide
theorem sgn_mul (i j : Int) : decide (sgn i * sgn j < 0) = true ↔ RG.op i j := by
  rw [decide_eq_true_iff, RG.op_iff]
  have key : ∀ i : Int, (0 < i ∧ sgn i = 1) ∨ (i < 0 ∧ sgn i = -1) ∨ (i = 0 ∧ sgn i = 0) := by
    intro i
    unfold sgn
    by_cases h1 : 0 < i
    · exact .inl ⟨h1, if_pos h1⟩
    · rw [if_neg h1]
      by_cases h2 : i < 0
      · exact .inr (.inl ⟨h2, if_pos h2⟩)
      · exact .inr (.inr ⟨by omega, if_neg h2⟩)
  have pp : ∀ {a b : Int}, 0 < a → 0 < b → 0 < a * b := fun h1 h2 => Int.mul_pos h1 h2
  rcases key i with ⟨h1, e1⟩ | ⟨h1, e1⟩ | ⟨h1, e1⟩ <;> rcases key j with ⟨h2, e2⟩ | ⟨h2, e2⟩ | ⟨h2, e2⟩ <;> rw [e1, e2]
  · have := pp h1 h2; constructor <;> intro h <;> omega
  · have := pp h1 (show 0 < -j by omega)
    rw [Int.mul_neg] at this
    constructor <;> intro h <;> omega
  · subst h2; simp
  · have := pp (show 0 < -i by omega) h2
    rw [Int.neg_mul] at this
    constructor <;> intro h <;> omega
  · have := pp (show 0 < -i by omega) (show 0 < -j by omega)
    rw [Int.neg_mul_neg] at this
    constructor <;> intro h <;> omega
  · subst h2; simp
  · subst h1; simp
  · subst h1; simp
  · subst h1; simp
theorem mxE (i j : Int) : mx i j = max i j := by unfold mx; split <;> omega
theorem mnE (i j : Int) : mn i j = min i j := by unfold mn; split <;> omega
section
variable {a b c d p : Zp} {h : Ho} {Q : KD} {E : XD}
theorem wp_area (ha : B3 a) (hb : B3 b) (hc : B3 c) (k : Q (.d (.int (RG.ar a b c))) h) : M_whole_area [.d (zD a), .d (zD b), .d (zD c)] h Q E := by
  obtain ⟨a1, a2⟩ := ha.bd
  obtain ⟨b1, b2⟩ := hb.bd
  obtain ⟨c1, c2⟩ := hc.bd
  refine i_mir rfl (by repeat constructor) (by repeat constructor) ?_
  unfold B_whole_area
  repeat' array_get_dec
  · decreasing_trivial_pre_omega
  · decreasing_trivial_pre_omega
  · exact k
theorem wp_whole {i : Int} (k : Q (.d (.tuple [.int i, .int 1])) h) : M_whole [.d (.int i)] h Q E := by
  refine i_mir rfl (by repeat constructor) (by repeat constructor) ?_
  unfold B_whole
  repeat' array_get_dec
  exact k
theorem wp_sign_of {i j : Int} (k : Q (.d (.int (sgn i))) h) : M_sign_of [.d (.tuple [.int i, .int j])] h Q E := by
  refine i_mir rfl (by repeat constructor) (by repeat constructor) ?_
  unfold B_sign_of
  repeat' array_get_dec
  unfold sgn at k
  refine i_ite (fun c => ?_) (fun c => ?_)
  · rw [if_pos (of_decide_eq_true c)] at k
    repeat' array_get_dec
    exact k
  · rw [if_neg (of_decide_eq_false c)] at k
    repeat' array_get_dec
    refine i_ite (fun c => ?_) (fun c => ?_)
    · rw [if_pos (of_decide_eq_true c)] at k
      repeat' array_get_dec
      exact k
    · rw [if_neg (of_decide_eq_false c)] at k
      repeat' array_get_dec
      exact k
theorem wp_wturn (ha : B3 a) (hb : B3 b) (hc : B3 c) (k : Q (.d (.int (sgn (RG.ar a b c)))) h) : M_whole_turn [.d (zD a), .d (zD b), .d (zD c)] h Q E := by
  refine i_mir rfl (by repeat constructor) (by repeat constructor) ?_
  unfold B_whole_turn
  repeat' array_get_dec
  refine wp_area ha hb hc ?_
  repeat' array_get_dec
  refine wp_whole ?_
  repeat' array_get_dec
  exact wp_sign_of k
def inB (x y p : Int) : Bool := decide (mn x y ≤ p) && decide (p ≤ mx x y)
def onB (a b p : Zp) : Bool := inB a.1 b.1 p.1 && (inB a.2 b.2 p.2 && decide (RG.ar a b p = 0))
theorem inB_iff {x y p : Int} : inB x y p = true ↔ RG.bx x y p := by
  unfold inB RG.bx
  rw [mnE, mxE, Bool.and_eq_true, decide_eq_true_iff, decide_eq_true_iff]
theorem onB_iff : onB a b p = true ↔ RG.On a b p := by
  unfold onB RG.On
  rw [Bool.and_eq_true, Bool.and_eq_true, inB_iff, inB_iff, decide_eq_true_iff]
  constructor
  · rintro ⟨h1, h2, h3⟩; exact ⟨h3, h1, h2⟩
  · rintro ⟨h3, h1, h2⟩; exact ⟨h1, h2, h3⟩
theorem inK {x y p : Int} {P : Prop} (k : Q (.d (.bool (inB x y p))) h) (r : Q (.d (.bool (inB x y p))) h → P) : P := r k
theorem wp_whole_on (ha : B3 a) (hb : B3 b) (hp : B3 p) (k : Q (.d (.bool (onB a b p))) h) : M_whole_on [.d (zD a), .d (zD b), .d (zD p)] h Q E := by
  unfold onB inB at k
  rw [Bool.and_assoc, Bool.and_assoc] at k
  refine i_mir rfl (by repeat constructor) (by repeat constructor) ?_
  unfold B_whole_on
  repeat' array_get_dec
  refine i_ite (fun x => ?_) (fun x => ?_)
  · have x : @decide _ _ = true := x
    rw [x, Bool.true_and] at k
    repeat' array_get_dec
    refine andB k fun k => ?_
    repeat' array_get_dec
    refine i_ite (fun x => ?_) (fun x => ?_)
    · have x : @decide _ _ = true := x
      rw [x, Bool.true_and] at k
      repeat' array_get_dec
      refine andB k fun k => ?_
      repeat' array_get_dec
      refine wp_area ha hb hp ?_
      repeat' array_get_dec
      exact k
    · have x : @decide _ _ = false := x
      rw [x, Bool.false_and] at k
      repeat' array_get_dec
      exact i_ifF rfl k
  · have x : @decide _ _ = false := x
    rw [x, Bool.false_and] at k
    repeat' array_get_dec
    exact i_ifF rfl k
def crB (a b c d : Zp) : Bool := decide (sgn (RG.ar a b c) * sgn (RG.ar a b d) < 0) && decide (sgn (RG.ar c d a) * sgn (RG.ar c d b) < 0)
theorem crB_iff : crB a b c d = true ↔ RG.Cr a b c d := by
  unfold crB RG.Cr
  rw [Bool.and_eq_true, sgn_mul, sgn_mul]
theorem wp_whole_crosses (ha : B3 a) (hb : B3 b) (hc : B3 c) (hd : B3 d) (k : Q (.d (.bool (crB a b c d))) h) : M_whole_crosses [.d (zD a), .d (zD b), .d (zD c), .d (zD d)] h Q E := by
  unfold crB at k
  refine i_mir rfl (by repeat constructor) (by repeat constructor) ?_
  unfold B_whole_crosses
  repeat' array_get_dec
  refine wp_wturn ha hb hc ?_
  repeat' array_get_dec
  refine wp_wturn ha hb hd ?_
  repeat' array_get_dec
  · exact cmB (sgn_bd _) (sgn_bd _) (by decide)
  refine andB k fun k => ?_
  repeat' array_get_dec
  refine wp_wturn hc hd ha ?_
  repeat' array_get_dec
  refine wp_wturn hc hd hb ?_
  repeat' array_get_dec
  · exact cmB (sgn_bd _) (sgn_bd _) (by decide)
  exact k
abbrev sD (a b : Zp) : PyData := .tuple [zD a, zD b]
def apB (a b c d : Zp) : Bool := decide (mx a.1 b.1 < mn c.1 d.1) || (decide (mx c.1 d.1 < mn a.1 b.1) || (decide (mx a.2 b.2 < mn c.2 d.2) || decide (mx c.2 d.2 < mn a.2 b.2)))
theorem apB_iff : apB a b c d = true ↔ (RG.ApartX a b c d ∨ RG.ApartY a b c d) := by
  unfold apB RG.ApartX RG.ApartY
  simp only [mxE, mnE, Bool.or_eq_true, decide_eq_true_iff]
  omega
theorem wp_apart (k : Q (.d (.bool (apB a b c d))) h) : M__apart [.d (sD a b), .d (sD c d)] h Q E := by
  unfold apB at k
  refine i_mir rfl (by repeat constructor) (by repeat constructor) ?_
  unfold B__apart
  repeat' array_get_dec
  refine i_asgG ?_
  repeat' array_get_dec
  refine ⟨[some (.d (sD a b)), some (.d (sD c d)), some (.d (zD a)), some (.d (zD b)), some (.d (zD c)), some (.d (zD d))], rfl, ?_⟩
  repeat' array_get_dec
  refine orB k fun k => ?_
  repeat' array_get_dec
  refine orB k fun k => ?_
  repeat' array_get_dec
  refine orB k fun k => ?_
  repeat' array_get_dec
  exact k
def meB (a b c d : Zp) : Bool := !apB a b c d && (crB a b c d || (onB a b c || (onB a b d || (onB c d a || onB c d b))))
theorem meB_iff : meB a b c d = true ↔ RG.PMeet a b c d := by
  unfold meB RG.PMeet RG.Meet
  have e : ((!apB a b c d) = true) ↔ (¬ RG.ApartX a b c d ∧ ¬ RG.ApartY a b c d) := by
    rw [Bool.not_eq_true', ← Bool.not_eq_true, apB_iff]
    constructor
    · intro x; exact ⟨fun y => x (.inl y), fun y => x (.inr y)⟩
    · rintro ⟨x, y⟩ (z | z)
      · exact x z
      · exact y z
  rw [Bool.and_eq_true, e]
  simp only [Bool.or_eq_true, crB_iff, onB_iff]
theorem wp_meet (ha : B3 a) (hb : B3 b) (hc : B3 c) (hd : B3 d) (k : Q (.d (.bool (meB a b c d))) h) : M__meet [.d (sD a b), .d (sD c d)] h Q E := by
  unfold meB at k
  refine i_mir rfl (by repeat constructor) (by repeat constructor) ?_
  unfold B__meet
  repeat' array_get_dec
  refine wp_apart ?_
  repeat' array_get_dec
  refine i_ite (fun x => ?_) (fun x => ?_)
  · rw [x] at k
    repeat' array_get_dec
    exact k
  · rw [x, Bool.not_false, Bool.true_and] at k
    repeat' array_get_dec
    refine i_asgG ?_
    repeat' array_get_dec
    refine ⟨[some (.d (sD a b)), some (.d (sD c d)), some (.d (zD a)), some (.d (zD b)), some (.d (zD c)), some (.d (zD d))], rfl, ?_⟩
    repeat' array_get_dec
    refine wp_whole_crosses ha hb hc hd ?_
    repeat' array_get_dec
    refine orB k fun k => ?_
    repeat' array_get_dec
    refine wp_whole_on ha hb hc ?_
    repeat' array_get_dec
    refine orB k fun k => ?_
    repeat' array_get_dec
    refine wp_whole_on ha hb hd ?_
    repeat' array_get_dec
    refine orB k fun k => ?_
    repeat' array_get_dec
    refine wp_whole_on hc hd ha ?_
    repeat' array_get_dec
    refine orB k fun k => ?_
    repeat' array_get_dec
    exact wp_whole_on hc hd hb k
def baB (a b c : Zp) : Bool := decide (RG.ar a b c = 0) && decide (0 < (a.1 - b.1) * (c.1 - b.1) + (a.2 - b.2) * (c.2 - b.2))
theorem baB_iff : baB a b c = true ↔ RG.Back a b c := by
  unfold baB RG.Back
  rw [Bool.and_eq_true, decide_eq_true_iff, decide_eq_true_iff]
theorem wp_turns_back (ha : B3 a) (hb : B3 b) (hc : B3 c) (k : Q (.d (.bool (baB a b c))) h) : M_turns_back [.d (zD a), .d (zD b), .d (zD c)] h Q E := by
  unfold baB at k
  obtain ⟨a1, a2⟩ := ha.bd
  obtain ⟨b1, b2⟩ := hb.bd
  obtain ⟨c1, c2⟩ := hc.bd
  refine i_mir rfl (by repeat constructor) (by repeat constructor) ?_
  unfold B_turns_back
  repeat' array_get_dec
  refine wp_area ha hb hc ?_
  repeat' array_get_dec
  refine andB k fun k => ?_
  repeat' array_get_dec
  · decreasing_trivial_pre_omega
  · decreasing_trivial_pre_omega
  · exact k
/-! the law's own -/
def lbB (a b c : Zp) : Bool := decide (RG.det a b c = 0) && decide (RG.dot a b c < 0)
theorem lbB_iff : lbB a b c = true ↔ RG.LBack a b c := by
  unfold lbB RG.LBack
  rw [Bool.and_eq_true, decide_eq_true_iff, decide_eq_true_iff]
theorem wp_lcross (ha : B3 a) (hb : B3 b) (hc : B3 c) (k : Q (.d (.int (RG.det a b c))) h) : M__law_cross [.d (zD a), .d (zD b), .d (zD c)] h Q E := by
  obtain ⟨a1, a2⟩ := ha.bd
  obtain ⟨b1, b2⟩ := hb.bd
  obtain ⟨c1, c2⟩ := hc.bd
  refine i_mir rfl (by repeat constructor) (by repeat constructor) ?_
  unfold B__law_cross
  repeat' array_get_dec
  · decreasing_trivial_pre_omega
  · decreasing_trivial_pre_omega
  · exact k
def wiB (n w : Int) : Bool := (decide (0 ≤ n) && decide (n ≤ w)) || (decide (w ≤ n) && decide (n ≤ 0))
theorem wiB_iff {n w : Int} : wiB n w = true ↔ RG.W n w := by
  unfold wiB
  rw [RG.W_iff]
  simp only [Bool.or_eq_true, Bool.and_eq_true, decide_eq_true_iff]
theorem wp_within {n w : Int} (k : Q (.d (.bool (wiB n w))) h) : M__law_is_within [.d (.int n), .d (.int w)] h Q E := by
  unfold wiB at k
  refine i_mir rfl (by repeat constructor) (by repeat constructor) ?_
  unfold B__law_is_within
  repeat' array_get_dec
  have tail : ∀ t : Bool, Q (.d (.bool (t || (decide (w ≤ n) && decide (n ≤ 0))))) h → if t = true then Q (.d (.bool true)) h else
      fChain (rCmp2 fun i j => decide (i ≤ j)) (rCmp2 fun i j => decide (i ≤ j)) (fVar 1) (fVar 0) (fC (.int 0)) [some (.d (.int n)), some (.d (.int w))] h Q E := by
    intro t k
    refine orB k fun k => ?_
    repeat' array_get_dec
    refine andB k fun k => ?_
    repeat' array_get_dec
    exact k
  refine i_ite (fun x => ?_) (fun x => ?_)
  · have x : @decide _ _ = true := x
    rw [x, Bool.true_and] at k
    repeat' array_get_dec
    exact tail _ k
  · have x : @decide _ _ = false := x
    rw [x, Bool.false_and] at k
    repeat' array_get_dec
    exact tail _ k
end
end LW
set_option Elab.async false
set_option linter.all false
set_option maxRecDepth 100000
set_option maxHeartbeats 40000000
namespace LW
open PySem PySem.Spec PyProof.Rows L2 V2
local macro_rules | `(tactic| array_get_dec) => `(tactic| with_reducible refine i_go (by assumption) ?_)
local macro_rules | `(tactic| array_get_dec) => `(tactic| with_reducible refine i_next ?_)
local macro_rules | `(tactic| array_get_dec) => `(tactic| with_reducible refine i_isr2 ?_)
local macro_rules | `(tactic| array_get_dec) => `(tactic| with_reducible refine i_range2 ?_)
local macro_rules | `(tactic| array_get_dec) => `(tactic| with_reducible refine i_range1 ?_)
local macro_rules | `(tactic| array_get_dec) => `(tactic| with_reducible refine i_for ?_)
local macro_rules | `(tactic| array_get_dec) => `(tactic| with_reducible refine i_brk ?_)
local macro_rules | `(tactic| array_get_dec) => `(tactic| with_reducible refine i_zip2 ?_)
local macro_rules | `(tactic| array_get_dec) => `(tactic| with_reducible refine i_enum1 ?_)
local macro_rules | `(tactic| array_get_dec) => `(tactic| with_reducible refine i_one ?_)
local macro_rules | `(tactic| array_get_dec) => `(tactic| with_reducible refine i_raise ?_)
local macro_rules | `(tactic| array_get_dec) => `(tactic| with_reducible refine i_sub ?_)
local macro_rules | `(tactic| array_get_dec) => `(tactic| with_reducible refine i_append ?_)
local macro_rules | `(tactic| array_get_dec) => `(tactic| with_reducible refine i_pop ?_)
local macro_rules | `(tactic| array_get_dec) => `(tactic| with_reducible refine i_drop ?_)
local macro_rules | `(tactic| array_get_dec) => `(tactic| with_reducible refine i_len (by with_unfolding_all exact rfl) ?_)
local macro_rules | `(tactic| array_get_dec) => `(tactic| with_reducible refine i_notN ?_)
local macro_rules | `(tactic| array_get_dec) => `(tactic| with_reducible refine i_isN ?_)
local macro_rules | `(tactic| array_get_dec) => `(tactic| with_reducible refine i_min2 ?_)
local macro_rules | `(tactic| array_get_dec) => `(tactic| with_reducible refine i_max2 ?_)
local macro_rules | `(tactic| array_get_dec) => `(tactic| with_reducible refine i_chain ?_)
local macro_rules | `(tactic| array_get_dec) => `(tactic| with_reducible refine i_lcm3 ?_ ?_)
local macro_rules | `(tactic| array_get_dec) => `(tactic| with_reducible refine i_gcd ?_)
local macro_rules | `(tactic| array_get_dec) => `(tactic| with_reducible refine i_toint ?_)
local macro_rules | `(tactic| array_get_dec) => `(tactic| with_reducible refine i_abs ?_)
local macro_rules | `(tactic| array_get_dec) => `(tactic| with_reducible refine i_pk4 ?_)
local macro_rules | `(tactic| array_get_dec) => `(tactic| with_reducible refine i_pk3 ?_)
local macro_rules | `(tactic| array_get_dec) => `(tactic| with_reducible refine i_pk2 ?_)
local macro_rules | `(tactic| array_get_dec) => `(tactic| with_reducible refine i_pk1 ?_)
local macro_rules | `(tactic| array_get_dec) => `(tactic| with_reducible refine i_fnk ?_)
local macro_rules | `(tactic| array_get_dec) => `(tactic| with_reducible refine i_fn ?_)
local macro_rules | `(tactic| array_get_dec) => `(tactic| with_reducible refine i_call ?_)
local macro_rules | `(tactic| array_get_dec) => `(tactic| with_reducible refine i_ix (by with_unfolding_all exact rfl) (by with_unfolding_all exact rfl) ?_)
local macro_rules | `(tactic| array_get_dec) => `(tactic| with_reducible refine i_ix (by assumption) (by with_unfolding_all exact rfl) ?_)
local macro_rules | `(tactic| array_get_dec) => `(tactic| with_reducible refine i_all (by repeat constructor) (by with_unfolding_all exact Nat.le_of_ble_eq_true rfl) ?_)
local macro_rules | `(tactic| array_get_dec) => `(tactic| with_reducible refine i_lst ?_)
local macro_rules | `(tactic| array_get_dec) => `(tactic| with_reducible refine i_tup ?_)
local macro_rules | `(tactic| array_get_dec) => `(tactic| with_reducible refine i_zipL ?_)
local macro_rules | `(tactic| array_get_dec) => `(tactic| with_reducible refine i_subB ?_)
local macro_rules | `(tactic| array_get_dec) => `(tactic| with_reducible refine i_notB ?_)
local macro_rules | `(tactic| array_get_dec) => `(tactic| with_reducible refine i_minT2 ?_)
local macro_rules | `(tactic| array_get_dec) => `(tactic| with_reducible refine i_maxT2 ?_)
local macro_rules | `(tactic| array_get_dec) => `(tactic| with_reducible refine i_listT ?_)
local macro_rules | `(tactic| array_get_dec) => `(tactic| with_reducible refine i_tupL ?_)
local macro_rules | `(tactic| array_get_dec) => `(tactic| with_reducible refine rvL ?_)
local macro_rules | `(tactic| array_get_dec) => `(tactic| with_reducible refine i_rev ?_)
local macro_rules | `(tactic| array_get_dec) => `(tactic| with_reducible refine slL ?_)
local macro_rules | `(tactic| array_get_dec) => `(tactic| with_reducible refine slT ?_)
local macro_rules | `(tactic| array_get_dec) => `(tactic| with_reducible refine i_oS ?_)
local macro_rules | `(tactic| array_get_dec) => `(tactic| with_reducible refine i_oN ?_)
local macro_rules | `(tactic| array_get_dec) => `(tactic| with_reducible refine i_slG ?_)
local macro_rules | `(tactic| array_get_dec) => `(tactic| with_reducible refine i_fnotG ?_)
local macro_rules | `(tactic| array_get_dec) => `(tactic| with_reducible refine i_forG ?_)
local macro_rules | `(tactic| array_get_dec) => `(tactic| with_reducible refine i_fand ?_)
local macro_rules | `(tactic| array_get_dec) => `(tactic| with_reducible refine i_fif ?_)
local macro_rules | `(tactic| array_get_dec) => `(tactic| with_reducible refine i_not2 ?_)
local macro_rules | `(tactic| array_get_dec) => `(tactic| with_reducible refine i_or2 ?_)
local macro_rules | `(tactic| array_get_dec) => `(tactic| with_reducible refine i_and2 ?_)
local macro_rules | `(tactic| array_get_dec) => `(tactic| with_reducible refine i_isr ?_)
local macro_rules | `(tactic| array_get_dec) => `(tactic| with_reducible refine i_isi ?_)
local macro_rules | `(tactic| array_get_dec) => `(tactic| with_reducible refine i_isb ?_)
local macro_rules | `(tactic| array_get_dec) => `(tactic| with_reducible refine i_val ?_)
local macro_rules | `(tactic| array_get_dec) => `(tactic| with_reducible refine i_un ?_)
local macro_rules | `(tactic| array_get_dec) => `(tactic| with_reducible refine i_nes ?_)
local macro_rules | `(tactic| array_get_dec) => `(tactic| with_reducible refine i_nesr ?_)
local macro_rules | `(tactic| array_get_dec) => `(tactic| with_reducible refine i_eqs ?_)
local macro_rules | `(tactic| array_get_dec) => `(tactic| with_reducible refine i_eqsr ?_)
local macro_rules | `(tactic| array_get_dec) => `(tactic| with_reducible refine i_nei ?_)
local macro_rules | `(tactic| array_get_dec) => `(tactic| with_reducible refine i_eqi ?_)
local macro_rules | `(tactic| array_get_dec) => `(tactic| with_reducible refine i_add ?_)
local macro_rules | `(tactic| array_get_dec) => `(tactic| with_reducible refine i_ints ?_ ?_)
local macro_rules | `(tactic| array_get_dec) => `(tactic| with_reducible refine i_ints0 ?_)
local macro_rules | `(tactic| array_get_dec) => `(tactic| with_reducible refine i_bin ?_)
local macro_rules | `(tactic| array_get_dec) => `(tactic| with_reducible refine i_nil ?_)
local macro_rules | `(tactic| array_get_dec) => `(tactic| with_reducible refine i_cons ?_)
local macro_rules | `(tactic| array_get_dec) => `(tactic| with_reducible refine i_c ?_)
local macro_rules | `(tactic| array_get_dec) => `(tactic| with_reducible refine i_var (by repeat constructor) ?_)
local macro_rules | `(tactic| array_get_dec) => `(tactic| with_reducible refine i_if ?_)
local macro_rules | `(tactic| array_get_dec) => `(tactic| with_reducible refine i_ret ?_)
local macro_rules | `(tactic| array_get_dec) => `(tactic| with_reducible refine i_trip (by repeat constructor) (by repeat constructor) (by repeat constructor) ?_)
local macro_rules | `(tactic| array_get_dec) => `(tactic| with_reducible refine i_par3 ?_ (by with_unfolding_all exact Nat.le_of_ble_eq_true rfl) (by with_unfolding_all exact Nat.le_of_ble_eq_true rfl) (by with_unfolding_all exact Nat.le_of_ble_eq_true rfl))
local macro_rules | `(tactic| array_get_dec) => `(tactic| with_reducible refine i_pair (by repeat constructor) (by repeat constructor) ?_)
local macro_rules | `(tactic| array_get_dec) => `(tactic| with_reducible refine i_par ?_ (by with_unfolding_all exact Nat.le_of_ble_eq_true rfl) (by with_unfolding_all exact Nat.le_of_ble_eq_true rfl))
local macro_rules | `(tactic| array_get_dec) => `(tactic| with_reducible refine i_set (by repeat constructor) ?_)
local macro_rules | `(tactic| array_get_dec) => `(tactic| with_reducible refine i_asgn ?_ (by with_unfolding_all exact Nat.le_of_ble_eq_true rfl))
local macro_rules | `(tactic| array_get_dec) => `(tactic| with_reducible refine i_asg2v (by repeat constructor) (by repeat constructor) (by repeat constructor) ?_)
local macro_rules | `(tactic| array_get_dec) => `(tactic| with_reducible refine i_seqg (fun _ _ => ?_))

local macro_rules
  | `(tactic| decreasing_trivial_pre_omega) => `(tactic| (apply cmB; (repeat' (first | assumption | apply Bd.add | apply Bd.sub | apply Bd.mul | apply Bd.neg)); decide))

open RG (Zp cor)
open Classical
abbrev rD (L : List Zp) : PyData := .tuple (L.map zD)
def sides (L : List Zp) : List PyData := (List.range L.length).map fun i => sD (cor L i) (cor L (i + 1))
theorem cut_nn {α : Type} (ps : List α) (i j : Nat) : cut ps (some (i : Int)) (some (j : Int)) = (ps.drop i).take (j - i) := by
  unfold cut
  rw [HT.sIx_nat, HT.sIx_nat]
  apply List.ext_getElem?
  intro k
  simp only [List.getElem?_take, List.getElem?_drop]
  by_cases c : i ≤ ps.length
  · rw [Nat.min_eq_left c]
    by_cases d : k < j - i
    · by_cases e : i + k < ps.length
      · rw [if_pos (by omega), if_pos d]
      · rw [List.getElem?_eq_none (by omega)]
        simp
    · rw [if_neg (by omega), if_neg d]
  · rw [List.getElem?_eq_none (by omega), List.getElem?_eq_none (by omega)]
    simp
theorem cut_n0 {α : Type} (ps : List α) (i : Nat) : cut ps (some (i : Int)) none = ps.drop i := by
  unfold cut
  rw [HT.sIx_nat]
  show (ps.drop (min i ps.length)).take (ps.length - min i ps.length) = _
  by_cases c : i ≤ ps.length
  · rw [Nat.min_eq_left c, List.take_of_length_le (by simp)]
  · rw [Nat.min_eq_right (by omega), List.drop_of_length_le (by omega), List.drop_of_length_le (by omega)]
    simp
theorem cut_0n {α : Type} (ps : List α) (j : Nat) : cut ps none (some (j : Int)) = ps.take j := by
  unfold cut
  rw [HT.sIx_nat]
  show (ps.drop 0).take (min j ps.length - 0) = _
  rw [List.drop_zero, Nat.sub_zero]
  by_cases c : j ≤ ps.length
  · rw [Nat.min_eq_left c]
  · rw [Nat.min_eq_right (by omega), List.take_of_length_le (by omega), List.take_of_length_le (by omega)]
theorem at_nat {xs : List D} {i : Nat} {y : D} (e : xs[i]? = some y) : L2.atI xs (i : Int) = some y := by
  have hl := (List.getElem?_eq_some_iff.1 e).1
  unfold L2.atI ixN
  rw [if_pos (by omega), if_pos (by omega)]
  simpa using e
section
variable {L : List Zp} {i : Nat}
theorem sides_len : (sides L).length = L.length := by simp [sides]
theorem sides_get (h : i < L.length) : (sides L)[i]? = some (sD (cor L i) (cor L (i + 1))) := by simp [sides, h]
theorem cor_mem (h : 0 < L.length) (i : Nat) : cor L i ∈ L := by
  rw [← RG.cor_mod, RG.cor_lt (Nat.mod_lt i h)]
  exact List.getElem_mem _
theorem sides_zip : List.zipWith (fun p q => PyData.tuple [p, q]) (L.map zD) ((L.map zD).drop 1 ++ (L.map zD).take 1) = sides L := by
  apply List.ext_getElem?
  intro k
  by_cases hk : k < L.length
  · rw [sides_get hk, List.getElem?_zipWith, List.getElem?_map, List.getElem?_eq_getElem hk]
    have e2 : ((L.map zD).drop 1 ++ (L.map zD).take 1)[k]? = some (zD (cor L (k + 1))) := by
      by_cases h1 : k + 1 < L.length
      · rw [List.getElem?_append_left (by simp; omega), List.getElem?_drop, List.getElem?_map, Nat.add_comm 1 k, List.getElem?_eq_getElem h1, RG.cor_lt h1]
        rfl
      · rw [List.getElem?_append_right (by simp; omega)]
        have e0 : k - (List.drop 1 (L.map zD)).length = 0 := by simp; omega
        have ek : cor L (k + 1) = L[0] := by
          rw [show k + 1 = 0 + L.length by omega, RG.cor_per, RG.cor_lt (by omega)]
        rw [e0, ek, List.getElem?_take]
        simp [List.getElem?_map, List.getElem?_eq_getElem (show 0 < L.length by omega)]
    rw [e2, RG.cor_lt hk]
    rfl
  · rw [List.getElem?_eq_none (by simp; omega), List.getElem?_eq_none (by rw [sides_len]; omega)]
noncomputable def bad (L : List Zp) : Bool := decide (RG.PBad L.length (cor L))
def okAt (L : List Zp) (i : Nat) : Prop := ¬ RG.Back (cor L i) (cor L (i + 1)) (cor L (i + 2)) ∧ ∀ j, i + 2 ≤ j → j < L.length - (if i = 0 then 1 else 0) → ¬ RG.PMeet (cor L i) (cor L (i + 1)) (cor L j) (cor L (j + 1))
theorem bad_of (h : ∀ i, i < L.length → okAt L i) : bad L = false := by
  refine decide_eq_false ?_
  rintro ⟨i, hi, hb | ⟨j, h1, h2, hm⟩⟩
  · exact (h i hi).1 hb
  · exact (h i hi).2 j h1 h2 hm
end
theorem wp_sides_along {L : List Zp} {h : Ho} {Q : KD} {E : XD} (h0 : 0 < L.length) (h1 : L.length ≤ 1000) (k : Q (.d (.list (sides L))) h) : M_sides_along [.d (rD L)] h Q E := by
  refine i_mir rfl (by repeat constructor) (by repeat constructor) ?_
  unfold B_sides_along
  repeat' array_get_dec
  have e1 : cut (L.map zD) (some 1) none = (L.map zD).drop 1 := cut_n0 _ 1
  have e2 : cut (L.map zD) none (some 1) = (L.map zD).take 1 := cut_0n _ 1
  rw [e1, e2]
  refine i_addTT (by simp; exact Nat.le_trans (by omega) (show 1001 ≤ sizeLine by decide)) ?_
  repeat' array_get_dec
  refine ⟨_, _, rfl, by simp; omega, ?_⟩
  rw [sides_zip]
  exact k
theorem wp_ring_sides {L : List Zp} {h : Ho} {Q : KD} {E : XD} (h0 : 0 < L.length) (h1 : L.length ≤ 1000) (k : Q (.d (.tuple (sides L))) h) : M_ring_sides [.d (rD L)] h Q E := by
  refine i_mir rfl (by repeat constructor) (by repeat constructor) ?_
  unfold B_ring_sides
  repeat' array_get_dec
  refine wp_sides_along h0 h1 ?_
  repeat' array_get_dec
  exact k
theorem wp_meets_itself {L : List Zp} {h : Ho} {Q : KD} {E : XD} (hb : ∀ a ∈ L, B3 a) (h3 : 3 ≤ L.length) (h1 : L.length ≤ 1000) (k : Q (.d (.bool (bad L))) h) : M_meets_itself [.d (rD L)] h Q E := by
  have bc : ∀ i, B3 (cor L i) := fun i => hb _ (cor_mem (by omega) i)
  have yes : RG.PBad L.length (cor L) → Q (.d (.bool true)) h := fun z => by
    have e : bad L = true := decide_eq_true z
    rw [e] at k
    exact k
  refine i_mir rfl (by repeat constructor) (by repeat constructor) ?_
  unfold B_meets_itself
  repeat' array_get_dec
  refine wp_sides_along (by omega) h1 ?_
  repeat' array_get_dec
  rw [List.length_map, sides_len]
  refine ⟨.d (.list (sides L)), _, sides L, rfl, rfl, allD_map _, ?_⟩
  refine for_ind (fun i ρ h' => h' = h ∧ (∀ i', i' < i → okAt L i') ∧ ∃ z3 z4 z5 z6, ρ = [some (.d (rD L)), some (.d (.list (sides L))), some (.d (.int (L.length : Nat))), z3, z4, z5, z6]) ?_ ?_ ⟨rfl, fun i' z => absurd z (Nat.not_lt_zero _), _, _, _, _, rfl⟩
  · rintro i x ρ h' G ex ⟨rfl, ok, z3, z4, z5, z6, rfl⟩ hG
    obtain ⟨p, e1, rfl⟩ := enumD_get ex
    have hi : i < L.length := by
      have := (List.getElem?_eq_some_iff.1 e1).1
      rw [sides_len] at this
      exact this
    rw [sides_get hi] at e1
    cases e1
    refine ⟨[some (.d (rD L)), some (.d (.list (sides L))), some (.d (.int (L.length : Nat))), some (.d (.int (i : Nat))), some (.d (zD (cor L i))), some (.d (zD (cor L (i + 1)))), z6], rfl, ?_⟩
    repeat' array_get_dec
    · omega
    have jn : (i + 1) % L.length < L.length := Nat.mod_lt _ (by omega)
    have ej : (((i : Nat) : Int) + 1) % ((L.length : Nat) : Int) = (((i + 1) % L.length : Nat) : Int) := by rw [Int.natCast_emod, Int.natCast_add]; rfl
    have e2 : cor L ((i + 1) % L.length + 1) = cor L (i + 2) := by
      rw [← RG.cor_mod L ((i + 1) % L.length + 1), Nat.mod_add_mod, RG.cor_mod]
    rw [ej]
    refine i_ix rfl (at_nat (y := .d (sD (cor L ((i + 1) % L.length)) (cor L ((i + 1) % L.length + 1)))) (by rw [List.getElem?_map, sides_get jn]; rfl)) ?_
    repeat' array_get_dec
    rw [e2]
    refine wp_turns_back (bc _) (bc _) (bc _) ?_
    repeat' array_get_dec
    refine i_ite (fun x => ?_) (fun x => ?_)
    · repeat' array_get_dec
      exact yes ⟨i, hi, .inl (baB_iff.1 x)⟩
    · have nb : ¬ RG.Back (cor L i) (cor L (i + 1)) (cor L (i + 2)) := fun z => by
        have := baB_iff.2 z
        rw [x] at this
        cases this
      repeat' array_get_dec
      refine i_iseqG ?_
      repeat' array_get_dec
      have eu : ((L.length : Nat) : Int) - (if decide (((i : Nat) : Int) = 0) = true then (1 : Int) else 0) = ((L.length - (if i = 0 then 1 else 0) : Nat) : Int) := by
        by_cases c : i = 0
        · subst c
          simp
          omega
        · rw [if_neg (by simp; omega), if_neg c]
          simp
      have el : ((i : Nat) : Int) + 2 = ((i + 2 : Nat) : Int) := by rw [Int.natCast_add]; rfl
      rw [eu, el, cut_nn]
      refine ⟨_, rfl, ?_⟩
      generalize eM : L.length - (if i = 0 then 1 else 0) = M
      have hM : M ≤ L.length := by rw [← eM]; exact Nat.sub_le _ _
      refine for_ind (fun m ρ h2 => h2 = h' ∧ (∀ j, i + 2 ≤ j → j < i + 2 + m → j < M → ¬ RG.PMeet (cor L i) (cor L (i + 1)) (cor L j) (cor L (j + 1))) ∧ ∃ z6, ρ = [some (.d (rD L)), some (.d (.list (sides L))), some (.d (.int (L.length : Nat))), some (.d (.int (i : Nat))), some (.d (zD (cor L i))), some (.d (zD (cor L (i + 1)))), z6]) ?_ ?_ ⟨rfl, fun j a b => by omega, _, rfl⟩
      · rintro m x ρ h2 G2 ex2 ⟨rfl, no, z6, rfl⟩ hG2
        rw [List.getElem?_map, Option.map_eq_some_iff] at ex2
        obtain ⟨p, e3, rfl⟩ := ex2
        rw [List.getElem?_take] at e3
        by_cases hm : m < M - (i + 2)
        · rw [if_pos hm, List.getElem?_drop, sides_get (by omega)] at e3
          cases e3
          refine ⟨[some (.d (rD L)), some (.d (.list (sides L))), some (.d (.int (L.length : Nat))), some (.d (.int (i : Nat))), some (.d (zD (cor L i))), some (.d (zD (cor L (i + 1)))), some (.d (sD (cor L (i + 2 + m)) (cor L (i + 2 + m + 1))))], rfl, ?_⟩
          repeat' array_get_dec
          refine wp_meet (bc _) (bc _) (bc _) (bc _) ?_
          repeat' array_get_dec
          refine i_ite (fun x => ?_) (fun x => ?_)
          · repeat' array_get_dec
            exact yes ⟨i, hi, .inr ⟨i + 2 + m, by omega, by rw [eM]; omega, meB_iff.1 x⟩⟩
          · repeat' array_get_dec
            refine ⟨trivial, hG2 _ _ ⟨rfl, fun j a b c => ?_, _, rfl⟩⟩
            by_cases d : j < i + 2 + m
            · exact no j a d c
            · have : j = i + 2 + m := by omega
              subst this
              intro z
              have := meB_iff.2 z
              rw [x] at this
              cases this
        · rw [if_neg hm] at e3
          cases e3
      · rintro ρ h2 ⟨rfl, no, z6, rfl⟩
        refine ⟨trivial, hG _ _ ⟨rfl, fun i' a => ?_, _, _, _, _, rfl⟩⟩
        by_cases c : i' < i
        · exact ok i' c
        · have : i' = i := by omega
          subst this
          refine ⟨nb, fun j a b => no j a ?_ (by rw [← eM]; exact b)⟩
          rw [List.length_map, List.length_take, List.length_drop, sides_len]
          rw [eM] at b
          omega
  · rintro ρ h' ⟨rfl, ok, z3, z4, z5, z6, rfl⟩
    rw [enumD_len, sides_len] at ok
    rw [bad_of ok] at k
    repeat' array_get_dec
    exact k
end LW
set_option Elab.async false
set_option linter.all false
set_option maxRecDepth 100000
set_option maxHeartbeats 40000000
namespace LW
open PySem PySem.Spec PyProof.Rows L2 V2
local macro_rules | `(tactic| array_get_dec) => `(tactic| with_reducible refine i_go (by assumption) ?_)
local macro_rules | `(tactic| array_get_dec) => `(tactic| with_reducible refine i_next ?_)
local macro_rules | `(tactic| array_get_dec) => `(tactic| with_reducible refine i_isr2 ?_)
local macro_rules | `(tactic| array_get_dec) => `(tactic| with_reducible refine i_range2 ?_)
local macro_rules | `(tactic| array_get_dec) => `(tactic| with_reducible refine i_range1 ?_)
local macro_rules | `(tactic| array_get_dec) => `(tactic| with_reducible refine i_for ?_)
local macro_rules | `(tactic| array_get_dec) => `(tactic| with_reducible refine i_brk ?_)
local macro_rules | `(tactic| array_get_dec) => `(tactic| with_reducible refine i_zip2 ?_)
local macro_rules | `(tactic| array_get_dec) => `(tactic| with_reducible refine i_enum1 ?_)
local macro_rules | `(tactic| array_get_dec) => `(tactic| with_reducible refine i_one ?_)
local macro_rules | `(tactic| array_get_dec) => `(tactic| with_reducible refine i_raise ?_)
local macro_rules | `(tactic| array_get_dec) => `(tactic| with_reducible refine i_sub ?_)
local macro_rules | `(tactic| array_get_dec) => `(tactic| with_reducible refine i_append ?_)
local macro_rules | `(tactic| array_get_dec) => `(tactic| with_reducible refine i_pop ?_)
local macro_rules | `(tactic| array_get_dec) => `(tactic| with_reducible refine i_drop ?_)
local macro_rules | `(tactic| array_get_dec) => `(tactic| with_reducible refine i_len (by with_unfolding_all exact rfl) ?_)
local macro_rules | `(tactic| array_get_dec) => `(tactic| with_reducible refine i_notN ?_)
local macro_rules | `(tactic| array_get_dec) => `(tactic| with_reducible refine i_isN ?_)
local macro_rules | `(tactic| array_get_dec) => `(tactic| with_reducible refine i_min2 ?_)
local macro_rules | `(tactic| array_get_dec) => `(tactic| with_reducible refine i_max2 ?_)
local macro_rules | `(tactic| array_get_dec) => `(tactic| with_reducible refine i_chain ?_)
local macro_rules | `(tactic| array_get_dec) => `(tactic| with_reducible refine i_lcm3 ?_ ?_)
local macro_rules | `(tactic| array_get_dec) => `(tactic| with_reducible refine i_gcd ?_)
local macro_rules | `(tactic| array_get_dec) => `(tactic| with_reducible refine i_toint ?_)
local macro_rules | `(tactic| array_get_dec) => `(tactic| with_reducible refine i_abs ?_)
local macro_rules | `(tactic| array_get_dec) => `(tactic| with_reducible refine i_pk4 ?_)
local macro_rules | `(tactic| array_get_dec) => `(tactic| with_reducible refine i_pk3 ?_)
local macro_rules | `(tactic| array_get_dec) => `(tactic| with_reducible refine i_pk2 ?_)
local macro_rules | `(tactic| array_get_dec) => `(tactic| with_reducible refine i_pk1 ?_)
local macro_rules | `(tactic| array_get_dec) => `(tactic| with_reducible refine i_fnk ?_)
local macro_rules | `(tactic| array_get_dec) => `(tactic| with_reducible refine i_fn ?_)
local macro_rules | `(tactic| array_get_dec) => `(tactic| with_reducible refine i_call ?_)
local macro_rules | `(tactic| array_get_dec) => `(tactic| with_reducible refine i_ix (by with_unfolding_all exact rfl) (by with_unfolding_all exact rfl) ?_)
local macro_rules | `(tactic| array_get_dec) => `(tactic| with_reducible refine i_ix (by assumption) (by with_unfolding_all exact rfl) ?_)
local macro_rules | `(tactic| array_get_dec) => `(tactic| with_reducible refine i_all (by repeat constructor) (by with_unfolding_all exact Nat.le_of_ble_eq_true rfl) ?_)
local macro_rules | `(tactic| array_get_dec) => `(tactic| with_reducible refine i_lst ?_)
local macro_rules | `(tactic| array_get_dec) => `(tactic| with_reducible refine i_tup ?_)
local macro_rules | `(tactic| array_get_dec) => `(tactic| with_reducible refine i_zipL ?_)
local macro_rules | `(tactic| array_get_dec) => `(tactic| with_reducible refine i_subB ?_)
local macro_rules | `(tactic| array_get_dec) => `(tactic| with_reducible refine i_notB ?_)
local macro_rules | `(tactic| array_get_dec) => `(tactic| with_reducible refine i_minT2 ?_)
local macro_rules | `(tactic| array_get_dec) => `(tactic| with_reducible refine i_maxT2 ?_)
local macro_rules | `(tactic| array_get_dec) => `(tactic| with_reducible refine i_listT ?_)
local macro_rules | `(tactic| array_get_dec) => `(tactic| with_reducible refine i_tupL ?_)
local macro_rules | `(tactic| array_get_dec) => `(tactic| with_reducible refine rvL ?_)
local macro_rules | `(tactic| array_get_dec) => `(tactic| with_reducible refine i_rev ?_)
local macro_rules | `(tactic| array_get_dec) => `(tactic| with_reducible refine slL ?_)
local macro_rules | `(tactic| array_get_dec) => `(tactic| with_reducible refine slT ?_)
local macro_rules | `(tactic| array_get_dec) => `(tactic| with_reducible refine i_oS ?_)
local macro_rules | `(tactic| array_get_dec) => `(tactic| with_reducible refine i_oN ?_)
local macro_rules | `(tactic| array_get_dec) => `(tactic| with_reducible refine i_slG ?_)
local macro_rules | `(tactic| array_get_dec) => `(tactic| with_reducible refine i_fnotG ?_)
local macro_rules | `(tactic| array_get_dec) => `(tactic| with_reducible refine i_forG ?_)
local macro_rules | `(tactic| array_get_dec) => `(tactic| with_reducible refine i_fand ?_)
local macro_rules | `(tactic| array_get_dec) => `(tactic| with_reducible refine i_fif ?_)
local macro_rules | `(tactic| array_get_dec) => `(tactic| with_reducible refine i_not2 ?_)
local macro_rules | `(tactic| array_get_dec) => `(tactic| with_reducible refine i_or2 ?_)
local macro_rules | `(tactic| array_get_dec) => `(tactic| with_reducible refine i_and2 ?_)
local macro_rules | `(tactic| array_get_dec) => `(tactic| with_reducible refine i_isr ?_)
local macro_rules | `(tactic| array_get_dec) => `(tactic| with_reducible refine i_isi ?_)
local macro_rules | `(tactic| array_get_dec) => `(tactic| with_reducible refine i_isb ?_)
local macro_rules | `(tactic| array_get_dec) => `(tactic| with_reducible refine i_val ?_)
local macro_rules | `(tactic| array_get_dec) => `(tactic| with_reducible refine i_un ?_)
local macro_rules | `(tactic| array_get_dec) => `(tactic| with_reducible refine i_nes ?_)
local macro_rules | `(tactic| array_get_dec) => `(tactic| with_reducible refine i_nesr ?_)
local macro_rules | `(tactic| array_get_dec) => `(tactic| with_reducible refine i_eqs ?_)
local macro_rules | `(tactic| array_get_dec) => `(tactic| with_reducible refine i_eqsr ?_)
local macro_rules | `(tactic| array_get_dec) => `(tactic| with_reducible refine i_nei ?_)
local macro_rules | `(tactic| array_get_dec) => `(tactic| with_reducible refine i_eqi ?_)
local macro_rules | `(tactic| array_get_dec) => `(tactic| with_reducible refine i_add ?_)
local macro_rules | `(tactic| array_get_dec) => `(tactic| with_reducible refine i_ints ?_ ?_)
local macro_rules | `(tactic| array_get_dec) => `(tactic| with_reducible refine i_ints0 ?_)
local macro_rules | `(tactic| array_get_dec) => `(tactic| with_reducible refine i_bin ?_)
local macro_rules | `(tactic| array_get_dec) => `(tactic| with_reducible refine i_nil ?_)
local macro_rules | `(tactic| array_get_dec) => `(tactic| with_reducible refine i_cons ?_)
local macro_rules | `(tactic| array_get_dec) => `(tactic| with_reducible refine i_c ?_)
local macro_rules | `(tactic| array_get_dec) => `(tactic| with_reducible refine i_var (by repeat constructor) ?_)
local macro_rules | `(tactic| array_get_dec) => `(tactic| with_reducible refine i_if ?_)
local macro_rules | `(tactic| array_get_dec) => `(tactic| with_reducible refine i_ret ?_)
local macro_rules | `(tactic| array_get_dec) => `(tactic| with_reducible refine i_trip (by repeat constructor) (by repeat constructor) (by repeat constructor) ?_)
local macro_rules | `(tactic| array_get_dec) => `(tactic| with_reducible refine i_par3 ?_ (by with_unfolding_all exact Nat.le_of_ble_eq_true rfl) (by with_unfolding_all exact Nat.le_of_ble_eq_true rfl) (by with_unfolding_all exact Nat.le_of_ble_eq_true rfl))
local macro_rules | `(tactic| array_get_dec) => `(tactic| with_reducible refine i_pair (by repeat constructor) (by repeat constructor) ?_)
local macro_rules | `(tactic| array_get_dec) => `(tactic| with_reducible refine i_par ?_ (by with_unfolding_all exact Nat.le_of_ble_eq_true rfl) (by with_unfolding_all exact Nat.le_of_ble_eq_true rfl))
local macro_rules | `(tactic| array_get_dec) => `(tactic| with_reducible refine i_set (by repeat constructor) ?_)
local macro_rules | `(tactic| array_get_dec) => `(tactic| with_reducible refine i_asgn ?_ (by with_unfolding_all exact Nat.le_of_ble_eq_true rfl))
local macro_rules | `(tactic| array_get_dec) => `(tactic| with_reducible refine i_asg2v (by repeat constructor) (by repeat constructor) (by repeat constructor) ?_)
local macro_rules | `(tactic| array_get_dec) => `(tactic| with_reducible refine i_seqg (fun _ _ => ?_))

local macro_rules
  | `(tactic| decreasing_trivial_pre_omega) => `(tactic| (apply cmB; (repeat' (first | assumption | apply Bd.add | apply Bd.sub | apply Bd.mul | apply Bd.neg)); decide))

open RG (Zp cor)
def pureInt : PyData → Bool
  | .int _ => true
  | _ => false
theorem pureInt_eq (p : PyData) : (isInt p && !isBool p) = pureInt p := by cases p <;> rfl
def tup2 : PyData → Bool
  | .tuple [_, _] => true
  | _ => false
def two : PyData → Bool
  | .tuple [x, y] => pureInt x && pureInt y
  | _ => false
section
variable {p : PyData} {h : Ho} {Q : KD} {E : XD}
theorem wp_is_int (k : Q (.d (.bool (pureInt p))) h) : M_is_int [.d p] h Q E := by
  rw [← pureInt_eq] at k
  refine i_mir rfl (by repeat constructor) (by repeat constructor) ?_
  unfold B_is_int
  repeat' array_get_dec
  refine i_isiD (by repeat constructor) (kit_int p) ?_
  repeat' array_get_dec
  refine i_ite (fun c => ?_) (fun c => ?_)
  · rw [c, Bool.true_and] at k
    exact ⟨isBool p, kit_bool p, k⟩
  · rw [c] at k
    exact k
theorem wp_is_tuple (k : Q (.d (.bool (tup2 p))) h) : M_is_tuple_of [.d p, .d (.int 2)] h Q E := by
  refine i_mir rfl (by repeat constructor) (by repeat constructor) ?_
  unfold B_is_tuple_of
  repeat' array_get_dec
  refine i_isiD (by repeat constructor) (kit_tup p) ?_
  repeat' array_get_dec
  cases p with
  | tuple xs =>
    refine i_ifT rfl ?_
    repeat' array_get_dec
    match xs, k with
    | [], k => exact k
    | [_], k => exact k
    | [_, _], k => exact k
    | x1 :: x2 :: x3 :: l, k =>
      have e : decide ((((List.map D.d (x1 :: x2 :: x3 :: l)).length : Nat) : Int) = 2) = false := decide_eq_false (by simp only [List.length_map, List.length_cons]; omega)
      rw [e]
      exact k
  | none => exact i_ifF rfl k
  | bool _ => exact i_ifF rfl k
  | int _ => exact i_ifF rfl k
  | str _ => exact i_ifF rfl k
  | list _ => exact i_ifF rfl k
  | dict _ => exact i_ifF rfl k
theorem tup2_of (c : tup2 p = true) : ∃ x y, p = .tuple [x, y] := by
  match p, c with
  | .tuple [x, y], _ => exact ⟨x, y, rfl⟩
theorem two_of (c : two p = true) : ∃ a b, p = .tuple [.int a, .int b] := by
  unfold two at c
  split at c
  · rename_i x y
    rw [Bool.and_eq_true_iff] at c
    cases x with
    | int a =>
      cases y with
      | int b => exact ⟨a, b, rfl⟩
      | _ => cases c.2
    | _ => cases c.1
  · cases c
theorem two_f (c : tup2 p = false) : two p = false := by
  cases e : two p with
  | false => rfl
  | true =>
    obtain ⟨a, b, rfl⟩ := two_of e
    cases c
theorem wp_are_ints (k : Q (.d (.bool (two p))) h) : M_are_ints [.d p, .d (.int 2)] h Q E := by
  refine i_mir rfl (by repeat constructor) (by repeat constructor) ?_
  unfold B_are_ints
  repeat' array_get_dec
  refine wp_is_tuple ?_
  repeat' array_get_dec
  refine i_ite (fun c => ?_) (fun c => ?_)
  · obtain ⟨x, y, rfl⟩ := tup2_of c
    repeat' array_get_dec
    refine i_lcv ?_
    refine i_iseq (by repeat constructor) rfl ?_
    refine lcv_ind (hb := h) (fun k acc => acc = (([x, y].take k).map fun z => PyData.bool (pureInt z)).map D.d) stay_d ?_ ?_ rfl
    · rintro i z acc ez rfl
      rw [List.getElem?_map, Option.map_eq_some_iff] at ez
      obtain ⟨z, e1, rfl⟩ := ez
      have hi : i < 2 := (List.getElem?_eq_some_iff.1 e1).1
      refine ⟨_, true, rfl, fun P q => q, fun _ => ⟨.d (.bool (pureInt z)), fun P q => ?_, ?_, ?_⟩, fun e => by cases e⟩
      · show fFn _ _ [_, _, some (.d z)] _ _ _
        repeat' array_get_dec
        exact wp_is_int q
      · have : sizeLine = 2 ^ 24 := rfl
        simp only [List.length_map, List.length_take]
        omega
      · rw [List.take_succ, e1]
        simp
    · rintro acc rfl
      refine ⟨[.bool (pureInt x), .bool (pureInt y)], .cons (.cons .nil), ?_⟩
      repeat' array_get_dec
      refine i_allB (bs := [pureInt x, pureInt y]) rfl ?_
      have e : [pureInt x, pureInt y].all id = two (.tuple [x, y]) := by simp [two]
      rw [e]
      exact k
  · rw [two_f c] at k
    exact k
def cornerOf : PyData → Option Zp
  | .tuple [.int a, .int b] => if max a b ≤ 1000 ∧ -1000 ≤ min a b then some (a, b) else none
  | _ => none
def isC (p : PyData) : Bool := (cornerOf p).isSome
theorem corner_some {p : PyData} {c : Zp} (e : cornerOf p = some c) : p = zD c ∧ B3 c := by
  unfold cornerOf at e
  split at e
  · split at e
    · rename_i a b hc
      cases e
      refine ⟨rfl, ?_⟩
      unfold B3
      dsimp only
      omega
    · cases e
  · cases e
theorem corner_zD {c : Zp} (h : B3 c) : cornerOf (zD c) = some c := by
  unfold B3 at h
  show (if max c.1 c.2 ≤ 1000 ∧ -1000 ≤ min c.1 c.2 then some (c.1, c.2) else none) = some c
  rw [if_pos (by omega)]
theorem corner_two {p : PyData} (c : two p = false) : cornerOf p = none := by
  unfold cornerOf
  split
  · cases c
  · rfl
theorem wp_is_corner (k : Q (.d (.bool (isC p))) h) : M_is_corner [.d p] h Q E := by
  refine i_mir rfl (by repeat constructor) (by repeat constructor) ?_
  unfold B_is_corner
  repeat' array_get_dec
  refine wp_are_ints ?_
  repeat' array_get_dec
  refine i_ite (fun c => ?_) (fun c => ?_)
  · obtain ⟨a, b, rfl⟩ := two_of c
    have e : isC (.tuple [.int a, .int b]) = (decide (max a b ≤ 1000) && decide (-1000 ≤ min a b)) := by
      show (if max a b ≤ 1000 ∧ -1000 ≤ min a b then some (a, b) else none).isSome = _
      by_cases c1 : max a b ≤ 1000 <;> by_cases c2 : -1000 ≤ min a b <;> simp [c1, c2]
    rw [e] at k
    repeat' array_get_dec
    refine andB k fun k => ?_
    repeat' array_get_dec
    exact k
  · have e : isC p = false := by unfold isC; rw [corner_two c]; rfl
    rw [e] at k
    exact k
end
/-! ### the first wrong thing of a ring -/
def scan : List Zp → List PyData → Sum Nat (List Zp)
  | s, [] => .inr s
  | s, p :: ps => match cornerOf p with
    | none => .inl s.length
    | some c => if c ∈ s then .inl s.length else scan (s ++ [c]) ps
noncomputable def rf : PyData → Option Int
  | .tuple ds => if ds.length < 3 then some (-1) else match scan [] ds with
    | .inl k => some (k : Nat)
    | .inr L => if bad L = true then some (ds.length : Nat) else none
  | _ => some (-1)
theorem scan_inr {L : List Zp} : ∀ {ps : List PyData} {s : List Zp}, scan s ps = .inr L → s.Nodup → (∀ a ∈ s, B3 a) → L.Nodup ∧ (∀ a ∈ L, B3 a) ∧ L.map zD = s.map zD ++ ps
  | [], s, e, hn, hb => by
    cases e
    exact ⟨hn, hb, by simp⟩
  | p :: ps, s, e, hn, hb => by
    unfold scan at e
    cases ec : cornerOf p with
    | none => rw [ec] at e; cases e
    | some c =>
      rw [ec] at e
      obtain ⟨rfl, bc⟩ := corner_some ec
      dsimp only at e
      split at e
      · cases e
      · rename_i nc
        obtain ⟨h1, h2, h3⟩ := scan_inr e (by
          rw [List.nodup_append]
          exact ⟨hn, by simp, fun a ha b hb => by
            rw [List.mem_singleton] at hb
            rw [hb]
            exact fun z => nc (z ▸ ha)⟩) (fun a ha => by
          rw [List.mem_append, List.mem_singleton] at ha
          rcases ha with ha | rfl
          · exact hb a ha
          · exact bc)
        exact ⟨h1, h2, by rw [h3]; simp⟩
theorem scan_ring {L : List Zp} (hn : L.Nodup) (hb : ∀ a ∈ L, B3 a) : scan [] (L.map zD) = .inr L := by
  have aux : ∀ (r s : List Zp), (s ++ r).Nodup → (∀ a ∈ r, B3 a) → scan s (r.map zD) = .inr (s ++ r) := by
    intro r
    induction r with
    | nil => intro s _ _; simp [scan]
    | cons c r ih =>
      intro s h1 h2
      rw [List.map_cons]
      unfold scan
      rw [corner_zD (h2 c (by simp))]
      dsimp only
      have nc : c ∉ s := fun hc => by
        rw [List.nodup_append] at h1
        exact h1.2.2 c hc c (by simp) rfl
      rw [if_neg nc, ih (s ++ [c]) (by simpa using h1) (fun a ha => h2 a (by simp [ha]))]
      simp
  exact aux L [] (by simpa using hn) hb
def Junk (j : Ho) : Prop := j = [] ∨ ∃ ks, j = [.keys ks]
def key (c : Zp) : List Int := [c.1, c.2]
theorem key_inj {a b : Zp} (h : key a = key b) : a = b := by
  unfold key at h
  simp only [List.cons.injEq, and_true] at h
  exact Prod.ext h.1 h.2
theorem key_mem {c : Zp} {s : List Zp} : key c ∈ s.map key ↔ c ∈ s := by
  rw [List.mem_map]
  constructor
  · rintro ⟨a, ha, e⟩
    rw [← key_inj e]; exact ha
  · intro h; exact ⟨c, h, rfl⟩
theorem wp_need_ring {p : PyData} {h : Ho} {Q : KD} {E : XD} (hl : ∀ ds, p = .tuple ds → ds.length ≤ 1000) (k : rf p = none → ∀ j, Junk j → Q (.d .none) (h ++ j)) (ke : ∀ i, rf p = some i → ∀ j, Junk j → E ⟨"InvalidRing", some ("at", .d (.int i))⟩ (h ++ j)) : M_need_ring [.d p] h Q E := by
  refine i_mir rfl (by repeat constructor) (by repeat constructor) ?_
  unfold B_need_ring
  repeat' array_get_dec
  refine i_isiD (by repeat constructor) (kit_tup p) ?_
  repeat' array_get_dec
  have short : rf p = some (-1) → E ⟨"InvalidRing", some ("at", .d (.int (-1)))⟩ h := fun e => by
    have := ke _ e [] (.inl rfl)
    rwa [List.append_nil] at this
  by_cases ht : ∃ ds, p = .tuple ds
  · obtain ⟨ds, rfl⟩ := ht
    have hl := hl ds rfl
    refine i_ifT rfl ?_
    repeat' array_get_dec
    rw [List.length_map]
    refine i_ite (fun x => ?_) (fun x => ?_)
    · have x : ¬ (3 : Int) ≤ (ds.length : Nat) := by simpa using x
      repeat' array_get_dec
      refine short ?_
      show (if ds.length < 3 then _ else _) = _
      rw [if_pos (by omega)]
    · have x : (3 : Int) ≤ (ds.length : Nat) := by simpa using x
      have h3 : ¬ ds.length < 3 := by omega
      have rfe : rf (.tuple ds) = match scan [] ds with
        | .inl k => some (k : Nat)
        | .inr L => if bad L = true then some (ds.length : Nat) else none := by
        show (if ds.length < 3 then _ else _) = _
        rw [if_neg h3]
      repeat' array_get_dec
      refine i_dct ?_
      repeat' array_get_dec
      refine ⟨.d (.tuple ds), _, ds, rfl, rfl, allD_map _, ?_⟩
      refine for_ind (fun i ρ h' => ∃ s : List Zp, s.length = i ∧ s.Nodup ∧ (∀ a ∈ s, B3 a) ∧ scan [] ds = scan s (ds.drop i) ∧ h' = h ++ [.keys (s.map key)] ∧ ∃ z2 z3, ρ = [some (.d (.tuple ds)), some (.loc h.length), z2, z3]) ?_ ?_ ⟨[], rfl, by simp, by simp, by simp, rfl, _, _, rfl⟩
      · rintro i x ρ h' G ex ⟨s, hs, hn, hb, sc, rfl, z2, z3, rfl⟩ hG
        obtain ⟨q, e1, rfl⟩ := enumD_get ex
        have hi : i < ds.length := (List.getElem?_eq_some_iff.1 e1).1
        refine ⟨[some (.d (.tuple ds)), some (.loc h.length), some (.d (.int (i : Nat))), some (.d q)], rfl, ?_⟩
        have sc2 : scan [] ds = scan s (q :: ds.drop (i + 1)) := by
          rw [sc, List.drop_eq_getElem_cons hi]
          rw [List.getElem?_eq_getElem hi] at e1
          cases e1
          rfl
        repeat' array_get_dec
        refine wp_is_corner ?_
        repeat' array_get_dec
        cases ec : cornerOf q with
        | none =>
          have e0 : isC q = false := by unfold isC; rw [ec]; rfl
          rw [e0]
          refine i_ifT rfl ?_
          refine i_ifT rfl ?_
          repeat' array_get_dec
          refine ke _ ?_ _ (.inr ⟨_, rfl⟩)
          rw [rfe, sc2]
          unfold scan
          rw [ec]
          simp [hs]
        | some c =>
          have e0 : isC q = true := by unfold isC; rw [ec]; rfl
          obtain ⟨rfl, bc⟩ := corner_some ec
          rw [e0]
          refine i_ifF rfl ?_
          repeat' array_get_dec
          refine i_inK (ks := s.map key) (by simp) (show keyOf (zD c) = some (key c) from rfl) ?_
          repeat' array_get_dec
          refine i_ite (fun x => ?_) (fun x => ?_)
          · have x := key_mem.1 (of_decide_eq_true x)
            repeat' array_get_dec
            refine ke _ ?_ _ (.inr ⟨_, rfl⟩)
            rw [rfe, sc2]
            unfold scan
            rw [ec]
            simp [hs, x]
          · have x : c ∉ s := fun z => of_decide_eq_false x (key_mem.2 z)
            repeat' array_get_dec
            refine i_put ?_
            repeat' array_get_dec
            refine putK_loc (ks := s.map key) (h2 := h ++ [.keys ((s ++ [c]).map key)]) (by simp) (show keyOf (zD c) = some (key c) from rfl) (by rw [List.length_map, hs]; exact Nat.lt_of_lt_of_le hi (Nat.le_trans hl (by decide))) ?_ ?_
            · rw [List.set_append_right _ _ (Nat.le_refl _), Nat.sub_self, List.set_cons_zero]
              unfold addK
              rw [if_neg (fun z => x (key_mem.1 z)), List.map_append]
              rfl
            · refine ⟨trivial, hG _ _ ⟨s ++ [c], by simp [hs], ?_, ?_, ?_, rfl, _, _, rfl⟩⟩
              · rw [List.nodup_append]
                exact ⟨hn, by simp, fun a ha b hb => by
                  rw [List.mem_singleton] at hb
                  rw [hb]
                  exact fun z => x (z ▸ ha)⟩
              · intro a ha
                rw [List.mem_append, List.mem_singleton] at ha
                rcases ha with ha | rfl
                · exact hb a ha
                · exact bc
              · rw [sc2]
                conv => lhs; unfold scan
                rw [ec]
                dsimp only
                rw [if_neg x]
      · rintro ρ h' ⟨s, hs, hn, hb, sc, rfl, z2, z3, rfl⟩
        rw [enumD_len] at hs sc
        have sc2 : scan [] ds = .inr s := by
          rw [sc, List.drop_length]
          rfl
        obtain ⟨_, _, e3⟩ := scan_inr sc2 (by simp) (by simp)
        have eds : ds = s.map zD := by simpa using e3.symm
        subst eds
        repeat' array_get_dec
        refine wp_meets_itself hb (by rw [List.length_map] at h3; omega) (by rw [List.length_map] at hl; exact hl) ?_
        repeat' array_get_dec
        rw [sc2] at rfe
        dsimp only at rfe
        refine i_ite (fun x => ?_) (fun x => ?_)
        · repeat' array_get_dec
          rw [if_pos x] at rfe
          rw [List.length_map]
          exact ke _ rfe _ (.inr ⟨_, rfl⟩)
        · repeat' array_get_dec
          rw [if_neg (by rw [x]; decide)] at rfe
          exact k rfe _ (.inr ⟨_, rfl⟩)
  · have e : rf p = some (-1) := by
      cases p with
      | tuple ds => exact absurd ⟨_, rfl⟩ ht
      | _ => rfl
    have e2 : isTup p = false := by
      cases p with
      | tuple ds => exact absurd ⟨_, rfl⟩ ht
      | _ => rfl
    rw [e2]
    refine i_ifF rfl ?_
    refine i_ifT rfl ?_
    repeat' array_get_dec
    exact short e
theorem wp_is_ring {p : PyData} {h : Ho} {Q : KD} {E : XD} (hl : ∀ ds, p = .tuple ds → ds.length ≤ 1000) (k : ∀ j, Junk j → Q (.d (.bool (rf p).isNone)) (h ++ j)) : M_is_ring [.d p] h Q E := by
  refine i_mir rfl (by repeat constructor) (by repeat constructor) ?_
  unfold B_is_ring
  array_get_dec
  refine i_tryO ?_
  repeat' array_get_dec
  refine wp_need_ring hl (fun e j hj => ?_) (fun i e j hj => ?_)
  · have k := k j hj
    rw [e] at k
    repeat' array_get_dec
    exact k
  · have k := k j hj
    rw [e] at k
    show sRet _ _ _ _
    repeat' array_get_dec
    exact k
end LW
set_option Elab.async false
set_option linter.all false
set_option maxRecDepth 100000
set_option maxHeartbeats 40000000
namespace LW
open PySem PySem.Spec PyProof.Rows L2 V2
local macro_rules | `(tactic| array_get_dec) => `(tactic| with_reducible refine i_go (by assumption) ?_)
local macro_rules | `(tactic| array_get_dec) => `(tactic| with_reducible refine i_next ?_)
local macro_rules | `(tactic| array_get_dec) => `(tactic| with_reducible refine i_isr2 ?_)
local macro_rules | `(tactic| array_get_dec) => `(tactic| with_reducible refine i_range2 ?_)
local macro_rules | `(tactic| array_get_dec) => `(tactic| with_reducible refine i_range1 ?_)
local macro_rules | `(tactic| array_get_dec) => `(tactic| with_reducible refine i_for ?_)
local macro_rules | `(tactic| array_get_dec) => `(tactic| with_reducible refine i_brk ?_)
local macro_rules | `(tactic| array_get_dec) => `(tactic| with_reducible refine i_zip2 ?_)
local macro_rules | `(tactic| array_get_dec) => `(tactic| with_reducible refine i_enum1 ?_)
local macro_rules | `(tactic| array_get_dec) => `(tactic| with_reducible refine i_one ?_)
local macro_rules | `(tactic| array_get_dec) => `(tactic| with_reducible refine i_raise ?_)
local macro_rules | `(tactic| array_get_dec) => `(tactic| with_reducible refine i_sub ?_)
local macro_rules | `(tactic| array_get_dec) => `(tactic| with_reducible refine i_append ?_)
local macro_rules | `(tactic| array_get_dec) => `(tactic| with_reducible refine i_pop ?_)
local macro_rules | `(tactic| array_get_dec) => `(tactic| with_reducible refine i_drop ?_)
local macro_rules | `(tactic| array_get_dec) => `(tactic| with_reducible refine i_len (by with_unfolding_all exact rfl) ?_)
local macro_rules | `(tactic| array_get_dec) => `(tactic| with_reducible refine i_notN ?_)
local macro_rules | `(tactic| array_get_dec) => `(tactic| with_reducible refine i_isN ?_)
local macro_rules | `(tactic| array_get_dec) => `(tactic| with_reducible refine i_min2 ?_)
local macro_rules | `(tactic| array_get_dec) => `(tactic| with_reducible refine i_max2 ?_)
local macro_rules | `(tactic| array_get_dec) => `(tactic| with_reducible refine i_chain ?_)
local macro_rules | `(tactic| array_get_dec) => `(tactic| with_reducible refine i_lcm3 ?_ ?_)
local macro_rules | `(tactic| array_get_dec) => `(tactic| with_reducible refine i_gcd ?_)
local macro_rules | `(tactic| array_get_dec) => `(tactic| with_reducible refine i_toint ?_)
local macro_rules | `(tactic| array_get_dec) => `(tactic| with_reducible refine i_abs ?_)
local macro_rules | `(tactic| array_get_dec) => `(tactic| with_reducible refine i_pk4 ?_)
local macro_rules | `(tactic| array_get_dec) => `(tactic| with_reducible refine i_pk3 ?_)
local macro_rules | `(tactic| array_get_dec) => `(tactic| with_reducible refine i_pk2 ?_)
local macro_rules | `(tactic| array_get_dec) => `(tactic| with_reducible refine i_pk1 ?_)
local macro_rules | `(tactic| array_get_dec) => `(tactic| with_reducible refine i_fnk ?_)
local macro_rules | `(tactic| array_get_dec) => `(tactic| with_reducible refine i_fn ?_)
local macro_rules | `(tactic| array_get_dec) => `(tactic| with_reducible refine i_call ?_)
local macro_rules | `(tactic| array_get_dec) => `(tactic| with_reducible refine i_ix (by with_unfolding_all exact rfl) (by with_unfolding_all exact rfl) ?_)
local macro_rules | `(tactic| array_get_dec) => `(tactic| with_reducible refine i_ix (by assumption) (by with_unfolding_all exact rfl) ?_)
local macro_rules | `(tactic| array_get_dec) => `(tactic| with_reducible refine i_all (by repeat constructor) (by with_unfolding_all exact Nat.le_of_ble_eq_true rfl) ?_)
local macro_rules | `(tactic| array_get_dec) => `(tactic| with_reducible refine i_lst ?_)
local macro_rules | `(tactic| array_get_dec) => `(tactic| with_reducible refine i_tup ?_)
local macro_rules | `(tactic| array_get_dec) => `(tactic| with_reducible refine i_zipL ?_)
local macro_rules | `(tactic| array_get_dec) => `(tactic| with_reducible refine i_subB ?_)
local macro_rules | `(tactic| array_get_dec) => `(tactic| with_reducible refine i_notB ?_)
local macro_rules | `(tactic| array_get_dec) => `(tactic| with_reducible refine i_minT2 ?_)
local macro_rules | `(tactic| array_get_dec) => `(tactic| with_reducible refine i_maxT2 ?_)
local macro_rules | `(tactic| array_get_dec) => `(tactic| with_reducible refine i_listT ?_)
local macro_rules | `(tactic| array_get_dec) => `(tactic| with_reducible refine i_tupL ?_)
local macro_rules | `(tactic| array_get_dec) => `(tactic| with_reducible refine rvL ?_)
local macro_rules | `(tactic| array_get_dec) => `(tactic| with_reducible refine i_rev ?_)
local macro_rules | `(tactic| array_get_dec) => `(tactic| with_reducible refine slL ?_)
local macro_rules | `(tactic| array_get_dec) => `(tactic| with_reducible refine slT ?_)
local macro_rules | `(tactic| array_get_dec) => `(tactic| with_reducible refine i_oS ?_)
local macro_rules | `(tactic| array_get_dec) => `(tactic| with_reducible refine i_oN ?_)
local macro_rules | `(tactic| array_get_dec) => `(tactic| with_reducible refine i_slG ?_)
local macro_rules | `(tactic| array_get_dec) => `(tactic| with_reducible refine i_fnotG ?_)
local macro_rules | `(tactic| array_get_dec) => `(tactic| with_reducible refine i_forG ?_)
local macro_rules | `(tactic| array_get_dec) => `(tactic| with_reducible refine i_fand ?_)
local macro_rules | `(tactic| array_get_dec) => `(tactic| with_reducible refine i_fif ?_)
local macro_rules | `(tactic| array_get_dec) => `(tactic| with_reducible refine i_not2 ?_)
local macro_rules | `(tactic| array_get_dec) => `(tactic| with_reducible refine i_or2 ?_)
local macro_rules | `(tactic| array_get_dec) => `(tactic| with_reducible refine i_and2 ?_)
local macro_rules | `(tactic| array_get_dec) => `(tactic| with_reducible refine i_isr ?_)
local macro_rules | `(tactic| array_get_dec) => `(tactic| with_reducible refine i_isi ?_)
local macro_rules | `(tactic| array_get_dec) => `(tactic| with_reducible refine i_isb ?_)
local macro_rules | `(tactic| array_get_dec) => `(tactic| with_reducible refine i_val ?_)
local macro_rules | `(tactic| array_get_dec) => `(tactic| with_reducible refine i_un ?_)
local macro_rules | `(tactic| array_get_dec) => `(tactic| with_reducible refine i_nes ?_)
local macro_rules | `(tactic| array_get_dec) => `(tactic| with_reducible refine i_nesr ?_)
local macro_rules | `(tactic| array_get_dec) => `(tactic| with_reducible refine i_eqs ?_)
local macro_rules | `(tactic| array_get_dec) => `(tactic| with_reducible refine i_eqsr ?_)
local macro_rules | `(tactic| array_get_dec) => `(tactic| with_reducible refine i_nei ?_)
local macro_rules | `(tactic| array_get_dec) => `(tactic| with_reducible refine i_eqi ?_)
local macro_rules | `(tactic| array_get_dec) => `(tactic| with_reducible refine i_add ?_)
local macro_rules | `(tactic| array_get_dec) => `(tactic| with_reducible refine i_ints ?_ ?_)
local macro_rules | `(tactic| array_get_dec) => `(tactic| with_reducible refine i_ints0 ?_)
local macro_rules | `(tactic| array_get_dec) => `(tactic| with_reducible refine i_bin ?_)
local macro_rules | `(tactic| array_get_dec) => `(tactic| with_reducible refine i_nil ?_)
local macro_rules | `(tactic| array_get_dec) => `(tactic| with_reducible refine i_cons ?_)
local macro_rules | `(tactic| array_get_dec) => `(tactic| with_reducible refine i_c ?_)
local macro_rules | `(tactic| array_get_dec) => `(tactic| with_reducible refine i_var (by repeat constructor) ?_)
local macro_rules | `(tactic| array_get_dec) => `(tactic| with_reducible refine i_if ?_)
local macro_rules | `(tactic| array_get_dec) => `(tactic| with_reducible refine i_ret ?_)
local macro_rules | `(tactic| array_get_dec) => `(tactic| with_reducible refine i_trip (by repeat constructor) (by repeat constructor) (by repeat constructor) ?_)
local macro_rules | `(tactic| array_get_dec) => `(tactic| with_reducible refine i_par3 ?_ (by with_unfolding_all exact Nat.le_of_ble_eq_true rfl) (by with_unfolding_all exact Nat.le_of_ble_eq_true rfl) (by with_unfolding_all exact Nat.le_of_ble_eq_true rfl))
local macro_rules | `(tactic| array_get_dec) => `(tactic| with_reducible refine i_pair (by repeat constructor) (by repeat constructor) ?_)
local macro_rules | `(tactic| array_get_dec) => `(tactic| with_reducible refine i_par ?_ (by with_unfolding_all exact Nat.le_of_ble_eq_true rfl) (by with_unfolding_all exact Nat.le_of_ble_eq_true rfl))
local macro_rules | `(tactic| array_get_dec) => `(tactic| with_reducible refine i_set (by repeat constructor) ?_)
local macro_rules | `(tactic| array_get_dec) => `(tactic| with_reducible refine i_asgn ?_ (by with_unfolding_all exact Nat.le_of_ble_eq_true rfl))
local macro_rules | `(tactic| array_get_dec) => `(tactic| with_reducible refine i_asg2v (by repeat constructor) (by repeat constructor) (by repeat constructor) ?_)
local macro_rules | `(tactic| array_get_dec) => `(tactic| with_reducible refine i_seqg (fun _ _ => ?_))

local macro_rules
  | `(tactic| decreasing_trivial_pre_omega) => `(tactic| (apply cmB; (repeat' (first | assumption | apply Bd.add | apply Bd.sub | apply Bd.mul | apply Bd.neg)); decide))

open RG (Zp cor)
open Classical
theorem range_get {n k : Nat} {x : D} (e : (rangeD 0 n)[k]? = some x) : k < n ∧ x = .d (.int (k : Nat)) := by
  unfold rangeD at e
  rw [List.getElem?_map, Option.map_eq_some_iff] at e
  obtain ⟨j, e1, rfl⟩ := e
  obtain ⟨h1, e2⟩ := List.getElem?_eq_some_iff.1 e1
  rw [List.getElem_range] at e2
  subst e2
  rw [List.length_range] at h1
  exact ⟨h1, by rw [Int.zero_add]⟩
theorem range_len {n : Nat} : (rangeD 0 n).length = n := by simp [rangeD]
noncomputable def lmB (a b c d : Zp) : Bool := decide (RG.LMeet a b c d)
section
variable {a b c d : Zp} {h : Ho} {Q : KD} {E : XD}
theorem lm_slant (hs : RG.slant a b c d ≠ 0) : lmB a b c d = (wiB (RG.part a b c d) (RG.slant a b c d) && wiB (RG.other a b c d) (RG.slant a b c d)) := by
  have e : RG.LMeet a b c d ↔ RG.W (RG.part a b c d) (RG.slant a b c d) ∧ RG.W (RG.other a b c d) (RG.slant a b c d) := by
    unfold RG.LMeet
    constructor
    · rintro (⟨_, x⟩ | ⟨x, _⟩)
      · exact x
      · exact absurd x hs
    · intro x; exact .inl ⟨hs, x⟩
  unfold lmB
  rw [Bool.eq_iff_iff, decide_eq_true_iff, e, Bool.and_eq_true, wiB_iff, wiB_iff]
theorem lm_far (hs : RG.slant a b c d = 0) (ho : RG.other a b c d ≠ 0) : lmB a b c d = false := by
  refine decide_eq_false ?_
  rintro (⟨x, _⟩ | ⟨_, x, _⟩)
  · exact x hs
  · exact ho x
theorem lm_near (hs : RG.slant a b c d = 0) (ho : RG.other a b c d = 0) : lmB a b c d = true ↔ ¬ RG.ApartX a b c d ∧ ¬ RG.ApartY a b c d := by
  unfold lmB
  rw [decide_eq_true_iff]
  unfold RG.LMeet
  constructor
  · rintro (⟨x, _⟩ | ⟨_, _, x⟩)
    · exact absurd hs x
    · exact x
  · intro x; exact .inr ⟨hs, ho, x⟩
theorem wp_lis_int {p : PyData} (k : Q (.d (.bool (pureInt p))) h) : M__law_is_int [.d p] h Q E := by
  rw [← pureInt_eq] at k
  refine i_mir rfl (by repeat constructor) (by repeat constructor) ?_
  unfold B__law_is_int
  repeat' array_get_dec
  refine i_isiD (by repeat constructor) (kit_int p) ?_
  repeat' array_get_dec
  refine andB k fun k => ?_
  repeat' array_get_dec
  refine i_isiD (by repeat constructor) (kit_bool p) ?_
  repeat' array_get_dec
  exact k
theorem wp_lmeet (ha : B3 a) (hb : B3 b) (hc : B3 c) (hd : B3 d) (k : Q (.d (.bool (lmB a b c d))) h) : M__law_meet [.d (zD a), .d (zD b), .d (zD c), .d (zD d)] h Q E := by
  obtain ⟨a1, a2⟩ := ha.bd
  obtain ⟨b1, b2⟩ := hb.bd
  obtain ⟨c1, c2⟩ := hc.bd
  obtain ⟨d1, d2⟩ := hd.bd
  refine i_mir rfl (by repeat constructor) (by repeat constructor) ?_
  unfold B__law_meet
  repeat' array_get_dec
  refine i_asgG ?_
  repeat' array_get_dec
  refine ⟨[some (.d (zD a)), some (.d (zD b)), some (.d (zD c)), some (.d (zD d)), some (.d (.int (b.1 - a.1))), some (.d (.int (b.2 - a.2))), some (.d (.int (d.1 - c.1))), some (.d (.int (d.2 - c.2))), none, none, none, none], rfl, ?_⟩
  repeat' array_get_dec
  · decreasing_trivial_pre_omega
  · decreasing_trivial_pre_omega
  repeat' array_get_dec
  · decreasing_trivial_pre_omega
  · decreasing_trivial_pre_omega
  repeat' array_get_dec
  · decreasing_trivial_pre_omega
  · decreasing_trivial_pre_omega
  have es : (b.1 - a.1) * (d.2 - c.2) - (b.2 - a.2) * (d.1 - c.1) = RG.slant a b c d := rfl
  have ep : (c.1 - a.1) * (d.2 - c.2) - (c.2 - a.2) * (d.1 - c.1) = RG.part a b c d := rfl
  have eo : (c.1 - a.1) * (b.2 - a.2) - (c.2 - a.2) * (b.1 - a.1) = RG.other a b c d := rfl
  rw [es, ep, eo]
  by_cases hs : RG.slant a b c d = 0
  · refine i_ifF (by rw [decide_eq_true hs]; rfl) ?_
    repeat' array_get_dec
    by_cases ho : RG.other a b c d = 0
    · refine i_ifF (by rw [decide_eq_true ho]; rfl) ?_
      have key := lm_near hs ho
      repeat' array_get_dec
      refine ⟨by decide, by decide, ?_⟩
      have no : RG.ApartX a b c d ∨ RG.ApartY a b c d → Q (.d (.bool false)) h := fun z => by
        have e : lmB a b c d = false := by
          cases e : lmB a b c d with
          | false => rfl
          | true => exact (z.elim (key.1 e).1 (key.1 e).2).elim
        rw [e] at k
        exact k
      refine for_ind (fun i ρ h' => h' = h ∧ (1 ≤ i → ¬ RG.ApartX a b c d) ∧ (2 ≤ i → ¬ RG.ApartY a b c d) ∧ ∃ z, ρ = [some (.d (zD a)), some (.d (zD b)), some (.d (zD c)), some (.d (zD d)), some (.d (.int (b.1 - a.1))), some (.d (.int (b.2 - a.2))), some (.d (.int (d.1 - c.1))), some (.d (.int (d.2 - c.2))), some (.d (.int (RG.slant a b c d))), some (.d (.int (RG.part a b c d))), some (.d (.int (RG.other a b c d))), z]) ?_ ?_ ⟨rfl, fun z => by omega, fun z => by omega, _, rfl⟩
      · rintro i x ρ h' G ex ⟨rfl, nx, ny, z, rfl⟩ hG
        obtain ⟨hi, rfl⟩ := range_get (n := 2) ex
        refine ⟨_, rfl, ?_⟩
        have hi : i = 0 ∨ i = 1 := by omega
        rcases hi with rfl | rfl
        · show sIf _ _ _ [_, _, _, _, _, _, _, _, _, _, _, some (.d (.int 0))] _ _
          repeat' array_get_dec
          refine i_ite (fun x => ?_) (fun x => ?_)
          · refine i_ifT rfl ?_
            repeat' array_get_dec
            refine no (.inl (.inl ?_))
            have x := of_decide_eq_true x
            rwa [mxE, mnE] at x
          · have x := of_decide_eq_false x
            rw [mxE, mnE] at x
            repeat' array_get_dec
            refine i_ite (fun y => ?_) (fun y => ?_)
            · repeat' array_get_dec
              refine no (.inl (.inr ?_))
              have y := of_decide_eq_true y
              rwa [mxE, mnE] at y
            · have y := of_decide_eq_false y
              rw [mxE, mnE] at y
              repeat' array_get_dec
              refine ⟨trivial, hG _ _ ⟨rfl, fun _ z => z.elim x y, fun z => by omega, _, rfl⟩⟩
        · show sIf _ _ _ [_, _, _, _, _, _, _, _, _, _, _, some (.d (.int 1))] _ _
          repeat' array_get_dec
          refine i_ite (fun x => ?_) (fun x => ?_)
          · refine i_ifT rfl ?_
            repeat' array_get_dec
            refine no (.inr (.inl ?_))
            have x := of_decide_eq_true x
            rwa [mxE, mnE] at x
          · have x := of_decide_eq_false x
            rw [mxE, mnE] at x
            repeat' array_get_dec
            refine i_ite (fun y => ?_) (fun y => ?_)
            · repeat' array_get_dec
              refine no (.inr (.inr ?_))
              have y := of_decide_eq_true y
              rwa [mxE, mnE] at y
            · have y := of_decide_eq_false y
              rw [mxE, mnE] at y
              repeat' array_get_dec
              refine ⟨trivial, hG _ _ ⟨rfl, fun _ => nx (by omega), fun _ z => z.elim x y, _, rfl⟩⟩
      · rintro ρ h' ⟨rfl, nx, ny, z, rfl⟩
        have e2 : (rangeD 0 (2 : Int).toNat).length = 2 := range_len
        rw [e2] at nx ny
        rw [key.2 ⟨nx (by omega), ny (by omega)⟩] at k
        repeat' array_get_dec
        exact k
    · rw [lm_far hs ho] at k
      refine i_ifT (by rw [decide_eq_false ho]; rfl) ?_
      repeat' array_get_dec
      exact k
  · rw [lm_slant hs] at k
    refine i_ifT (by rw [decide_eq_false hs]; rfl) ?_
    repeat' array_get_dec
    refine wp_within ?_
    repeat' array_get_dec
    refine andB k fun k => ?_
    repeat' array_get_dec
    exact wp_within k
end
end LW
set_option Elab.async false
set_option linter.all false
set_option maxRecDepth 100000
set_option maxHeartbeats 40000000
namespace LW
open PySem PySem.Spec PyProof.Rows L2 V2
local macro_rules | `(tactic| array_get_dec) => `(tactic| with_reducible refine i_go (by assumption) ?_)
local macro_rules | `(tactic| array_get_dec) => `(tactic| with_reducible refine i_next ?_)
local macro_rules | `(tactic| array_get_dec) => `(tactic| with_reducible refine i_isr2 ?_)
local macro_rules | `(tactic| array_get_dec) => `(tactic| with_reducible refine i_range2 ?_)
local macro_rules | `(tactic| array_get_dec) => `(tactic| with_reducible refine i_range1 ?_)
local macro_rules | `(tactic| array_get_dec) => `(tactic| with_reducible refine i_for ?_)
local macro_rules | `(tactic| array_get_dec) => `(tactic| with_reducible refine i_brk ?_)
local macro_rules | `(tactic| array_get_dec) => `(tactic| with_reducible refine i_zip2 ?_)
local macro_rules | `(tactic| array_get_dec) => `(tactic| with_reducible refine i_enum1 ?_)
local macro_rules | `(tactic| array_get_dec) => `(tactic| with_reducible refine i_one ?_)
local macro_rules | `(tactic| array_get_dec) => `(tactic| with_reducible refine i_raise ?_)
local macro_rules | `(tactic| array_get_dec) => `(tactic| with_reducible refine i_sub ?_)
local macro_rules | `(tactic| array_get_dec) => `(tactic| with_reducible refine i_append ?_)
local macro_rules | `(tactic| array_get_dec) => `(tactic| with_reducible refine i_pop ?_)
local macro_rules | `(tactic| array_get_dec) => `(tactic| with_reducible refine i_drop ?_)
local macro_rules | `(tactic| array_get_dec) => `(tactic| with_reducible refine i_len (by with_unfolding_all exact rfl) ?_)
local macro_rules | `(tactic| array_get_dec) => `(tactic| with_reducible refine i_notN ?_)
local macro_rules | `(tactic| array_get_dec) => `(tactic| with_reducible refine i_isN ?_)
local macro_rules | `(tactic| array_get_dec) => `(tactic| with_reducible refine i_min2 ?_)
local macro_rules | `(tactic| array_get_dec) => `(tactic| with_reducible refine i_max2 ?_)
local macro_rules | `(tactic| array_get_dec) => `(tactic| with_reducible refine i_chain ?_)
local macro_rules | `(tactic| array_get_dec) => `(tactic| with_reducible refine i_lcm3 ?_ ?_)
local macro_rules | `(tactic| array_get_dec) => `(tactic| with_reducible refine i_gcd ?_)
local macro_rules | `(tactic| array_get_dec) => `(tactic| with_reducible refine i_toint ?_)
local macro_rules | `(tactic| array_get_dec) => `(tactic| with_reducible refine i_abs ?_)
local macro_rules | `(tactic| array_get_dec) => `(tactic| with_reducible refine i_pk4 ?_)
local macro_rules | `(tactic| array_get_dec) => `(tactic| with_reducible refine i_pk3 ?_)
local macro_rules | `(tactic| array_get_dec) => `(tactic| with_reducible refine i_pk2 ?_)
local macro_rules | `(tactic| array_get_dec) => `(tactic| with_reducible refine i_pk1 ?_)
local macro_rules | `(tactic| array_get_dec) => `(tactic| with_reducible refine i_fnk ?_)
local macro_rules | `(tactic| array_get_dec) => `(tactic| with_reducible refine i_fn ?_)
local macro_rules | `(tactic| array_get_dec) => `(tactic| with_reducible refine i_call ?_)
local macro_rules | `(tactic| array_get_dec) => `(tactic| with_reducible refine i_ix (by with_unfolding_all exact rfl) (by with_unfolding_all exact rfl) ?_)
local macro_rules | `(tactic| array_get_dec) => `(tactic| with_reducible refine i_ix (by assumption) (by with_unfolding_all exact rfl) ?_)
local macro_rules | `(tactic| array_get_dec) => `(tactic| with_reducible refine i_all (by repeat constructor) (by with_unfolding_all exact Nat.le_of_ble_eq_true rfl) ?_)
local macro_rules | `(tactic| array_get_dec) => `(tactic| with_reducible refine i_lst ?_)
local macro_rules | `(tactic| array_get_dec) => `(tactic| with_reducible refine i_tup ?_)
local macro_rules | `(tactic| array_get_dec) => `(tactic| with_reducible refine i_zipL ?_)
local macro_rules | `(tactic| array_get_dec) => `(tactic| with_reducible refine i_subB ?_)
local macro_rules | `(tactic| array_get_dec) => `(tactic| with_reducible refine i_notB ?_)
local macro_rules | `(tactic| array_get_dec) => `(tactic| with_reducible refine i_minT2 ?_)
local macro_rules | `(tactic| array_get_dec) => `(tactic| with_reducible refine i_maxT2 ?_)
local macro_rules | `(tactic| array_get_dec) => `(tactic| with_reducible refine i_listT ?_)
local macro_rules | `(tactic| array_get_dec) => `(tactic| with_reducible refine i_tupL ?_)
local macro_rules | `(tactic| array_get_dec) => `(tactic| with_reducible refine rvL ?_)
local macro_rules | `(tactic| array_get_dec) => `(tactic| with_reducible refine i_rev ?_)
local macro_rules | `(tactic| array_get_dec) => `(tactic| with_reducible refine slL ?_)
local macro_rules | `(tactic| array_get_dec) => `(tactic| with_reducible refine slT ?_)
local macro_rules | `(tactic| array_get_dec) => `(tactic| with_reducible refine i_oS ?_)
local macro_rules | `(tactic| array_get_dec) => `(tactic| with_reducible refine i_oN ?_)
local macro_rules | `(tactic| array_get_dec) => `(tactic| with_reducible refine i_slG ?_)
local macro_rules | `(tactic| array_get_dec) => `(tactic| with_reducible refine i_fnotG ?_)
local macro_rules | `(tactic| array_get_dec) => `(tactic| with_reducible refine i_forG ?_)
local macro_rules | `(tactic| array_get_dec) => `(tactic| with_reducible refine i_fand ?_)
local macro_rules | `(tactic| array_get_dec) => `(tactic| with_reducible refine i_fif ?_)
local macro_rules | `(tactic| array_get_dec) => `(tactic| with_reducible refine i_not2 ?_)
local macro_rules | `(tactic| array_get_dec) => `(tactic| with_reducible refine i_or2 ?_)
local macro_rules | `(tactic| array_get_dec) => `(tactic| with_reducible refine i_and2 ?_)
local macro_rules | `(tactic| array_get_dec) => `(tactic| with_reducible refine i_isr ?_)
local macro_rules | `(tactic| array_get_dec) => `(tactic| with_reducible refine i_isi ?_)
local macro_rules | `(tactic| array_get_dec) => `(tactic| with_reducible refine i_isb ?_)
local macro_rules | `(tactic| array_get_dec) => `(tactic| with_reducible refine i_val ?_)
local macro_rules | `(tactic| array_get_dec) => `(tactic| with_reducible refine i_un ?_)
local macro_rules | `(tactic| array_get_dec) => `(tactic| with_reducible refine i_nes ?_)
local macro_rules | `(tactic| array_get_dec) => `(tactic| with_reducible refine i_nesr ?_)
local macro_rules | `(tactic| array_get_dec) => `(tactic| with_reducible refine i_eqs ?_)
local macro_rules | `(tactic| array_get_dec) => `(tactic| with_reducible refine i_eqsr ?_)
local macro_rules | `(tactic| array_get_dec) => `(tactic| with_reducible refine i_nei ?_)
local macro_rules | `(tactic| array_get_dec) => `(tactic| with_reducible refine i_eqi ?_)
local macro_rules | `(tactic| array_get_dec) => `(tactic| with_reducible refine i_add ?_)
local macro_rules | `(tactic| array_get_dec) => `(tactic| with_reducible refine i_ints ?_ ?_)
local macro_rules | `(tactic| array_get_dec) => `(tactic| with_reducible refine i_ints0 ?_)
local macro_rules | `(tactic| array_get_dec) => `(tactic| with_reducible refine i_bin ?_)
local macro_rules | `(tactic| array_get_dec) => `(tactic| with_reducible refine i_nil ?_)
local macro_rules | `(tactic| array_get_dec) => `(tactic| with_reducible refine i_cons ?_)
local macro_rules | `(tactic| array_get_dec) => `(tactic| with_reducible refine i_c ?_)
local macro_rules | `(tactic| array_get_dec) => `(tactic| with_reducible refine i_var (by repeat constructor) ?_)
local macro_rules | `(tactic| array_get_dec) => `(tactic| with_reducible refine i_if ?_)
local macro_rules | `(tactic| array_get_dec) => `(tactic| with_reducible refine i_ret ?_)
local macro_rules | `(tactic| array_get_dec) => `(tactic| with_reducible refine i_trip (by repeat constructor) (by repeat constructor) (by repeat constructor) ?_)
local macro_rules | `(tactic| array_get_dec) => `(tactic| with_reducible refine i_par3 ?_ (by with_unfolding_all exact Nat.le_of_ble_eq_true rfl) (by with_unfolding_all exact Nat.le_of_ble_eq_true rfl) (by with_unfolding_all exact Nat.le_of_ble_eq_true rfl))
local macro_rules | `(tactic| array_get_dec) => `(tactic| with_reducible refine i_pair (by repeat constructor) (by repeat constructor) ?_)
local macro_rules | `(tactic| array_get_dec) => `(tactic| with_reducible refine i_par ?_ (by with_unfolding_all exact Nat.le_of_ble_eq_true rfl) (by with_unfolding_all exact Nat.le_of_ble_eq_true rfl))
local macro_rules | `(tactic| array_get_dec) => `(tactic| with_reducible refine i_set (by repeat constructor) ?_)
local macro_rules | `(tactic| array_get_dec) => `(tactic| with_reducible refine i_asgn ?_ (by with_unfolding_all exact Nat.le_of_ble_eq_true rfl))
local macro_rules | `(tactic| array_get_dec) => `(tactic| with_reducible refine i_asg2v (by repeat constructor) (by repeat constructor) (by repeat constructor) ?_)
local macro_rules | `(tactic| array_get_dec) => `(tactic| with_reducible refine i_seqg (fun _ _ => ?_))

local macro_rules
  | `(tactic| decreasing_trivial_pre_omega) => `(tactic| (apply cmB; (repeat' (first | assumption | apply Bd.add | apply Bd.sub | apply Bd.mul | apply Bd.neg)); decide))

open RG (Zp cor)
open Classical
theorem eqv_zD (a b : Zp) : PyData.eqv (zD a) (zD b) = decide (a = b) := by
  by_cases e : a = b
  · subst e
    simp [PyData.eqv, PyData.eqvAll]
  · rw [decide_eq_false e]
    have : ¬ (a.1 = b.1 ∧ a.2 = b.2) := fun z => e (Prod.ext z.1 z.2)
    simp only [PyData.eqv, PyData.eqvAll, Bool.and_true, Bool.and_eq_false_iff, beq_eq_false_iff_ne, ne_eq]
    by_cases h1 : a.1 = b.1
    · exact .inr fun z => this ⟨h1, z⟩
    · exact .inl h1
theorem shaped_zD (s : List Zp) : SeqAt.shaped (.tuple (s.map zD)) = true := by
  have h1 : ∀ s : List Zp, PyData.canLayAll0 (s.map zD) = true := by
    intro s
    induction s with
    | nil => rfl
    | cons c cs ih => simp only [List.map_cons, PyData.canLayAll0, PyData.canLay0, ih, Bool.and_self]
  have h2 : ∀ s : List Zp, PyData.depthAll (s.map zD) ≤ 2 := by
    intro s
    induction s with
    | nil => exact Nat.zero_le _
    | cons c cs ih => simp only [List.map_cons, PyData.depthAll, PyData.depth] at *; omega
  unfold SeqAt.shaped
  simp only [PyData.canLay0, PyData.depth, Bool.and_eq_true]
  have := h2 s
  exact ⟨h1 s, decide_eq_true (by omega)⟩
theorem i_inZ {c : Zp} {s : List Zp} {h : Ho} {Q : KD} (k : Q (.d (.bool (decide (c ∈ s)))) h) : rInT2 (.d (zD c)) (.d (.tuple (s.map zD))) h Q := by
  refine i_inT rfl (by simp only [PyData.depth, PyData.depthAll]; decide) (shaped_zD s) ?_
  have e : ((s.map zD).any fun z => PyData.eqv z (zD c)) = decide (c ∈ s) := by
    rw [Bool.eq_iff_iff, List.any_eq_true, decide_eq_true_iff]
    constructor
    · rintro ⟨z, hz, e⟩
      obtain ⟨a, ha, rfl⟩ := List.mem_map.1 hz
      rw [eqv_zD, decide_eq_true_iff] at e
      rw [← e]; exact ha
    · intro hc
      exact ⟨zD c, List.mem_map.2 ⟨c, hc, rfl⟩, by rw [eqv_zD, decide_eq_true_iff]⟩
  rw [e]
  exact k
def cf (ds : List PyData) : PyData := match scan [] ds with
  | .inl k => .int (k : Nat)
  | .inr _ => .none
section
variable {h : Ho} {Q : KD} {E : XD}
theorem wp_corner_fault {ds : List PyData} (hl : ds.length ≤ 1000) (k : Q (.d (cf ds)) h) : M__law_corner_fault [.d (.tuple ds)] h Q E := by
  refine i_mir rfl (by repeat constructor) (by repeat constructor) ?_
  unfold B__law_corner_fault
  repeat' array_get_dec
  rw [List.length_map]
  refine ⟨by omega, by omega, ?_⟩
  refine for_ind (fun i ρ h' => h' = h ∧ ∃ s : List Zp, s.length = i ∧ s.Nodup ∧ (∀ a ∈ s, B3 a) ∧ scan [] ds = scan s (ds.drop i) ∧ ds.take i = s.map zD ∧ ∃ z1 z2, ρ = [some (.d (.tuple ds)), z1, z2]) ?_ ?_ ⟨rfl, [], rfl, by simp, by simp, by simp, by simp, _, _, rfl⟩
  · rintro i x ρ h' G ex ⟨rfl, s, hs, hn, hb, sc, tk, z1, z2, rfl⟩ hG
    obtain ⟨hi, rfl⟩ := range_get ex
    rw [Int.toNat_natCast] at hi
    obtain ⟨q, eq⟩ : ∃ q, ds[i]? = some q := ⟨_, List.getElem?_eq_getElem hi⟩
    have sc2 : scan [] ds = scan s (q :: ds.drop (i + 1)) := by
      rw [sc, List.drop_eq_getElem_cons hi]
      rw [List.getElem?_eq_getElem hi] at eq
      cases eq
      rfl
    have t1 : ds.take (i + 1) = s.map zD ++ [q] := by
      rw [List.take_add_one, eq, tk]; rfl
    have stop : (cornerOf q = none ∨ ∃ c, cornerOf q = some c ∧ c ∈ s) → Q (.d (.int (i : Nat))) h' := fun z => by
      have e : cf ds = .int (i : Nat) := by
        unfold cf
        rw [sc2]
        unfold scan
        rcases z with z | ⟨c, z, hc⟩
        · rw [z]; simp [hs]
        · rw [z]; simp [hs, hc]
      rw [e] at k
      exact k
    refine ⟨_, rfl, ?_⟩
    show (sSeq _ _) [some (.d (.tuple ds)), some (.d (.int (i : Nat))), z2] _ _
    repeat' array_get_dec
    refine i_ix rfl (at_nat (y := .d q) (by rw [List.getElem?_map, eq]; rfl)) ?_
    repeat' array_get_dec
    refine i_isiD (by repeat constructor) (kit_tup q) ?_
    repeat' array_get_dec
    by_cases t2 : two q = true
    · obtain ⟨a, b, rfl⟩ := two_of t2
      refine i_ifF rfl ?_
      repeat' array_get_dec
      refine i_ifF rfl ?_
      repeat' array_get_dec
      refine wp_lis_int ?_
      repeat' array_get_dec
      refine i_ifF rfl ?_
      repeat' array_get_dec
      refine wp_lis_int ?_
      repeat' array_get_dec
      refine i_ifF rfl ?_
      repeat' array_get_dec
      have ec : cornerOf (.tuple [.int a, .int b]) = if max a b ≤ 1000 ∧ -1000 ≤ min a b then some (a, b) else none := rfl
      have em : mx (if a < 0 then -a else a) (if b < 0 then -b else b) ≤ 1000 ↔ (max a b ≤ 1000 ∧ -1000 ≤ min a b) := by
        rw [mxE]
        split <;> split <;> omega
      by_cases c1 : max a b ≤ 1000 ∧ -1000 ≤ min a b
      · rw [if_pos c1] at ec
        have bc : B3 (a, b) := (corner_some ec).2
        refine i_ifF (decide_eq_false (by have := em.2 c1; omega)) ?_
        repeat' array_get_dec
        rw [cut_0n, tk]
        refine i_inZ (c := (a, b)) ?_
        repeat' array_get_dec
        refine i_ite (fun x => ?_) (fun x => ?_)
        · repeat' array_get_dec
          exact stop (.inr ⟨_, ec, of_decide_eq_true x⟩)
        · have x := of_decide_eq_false x
          repeat' array_get_dec
          refine ⟨trivial, hG _ _ ⟨rfl, s ++ [(a, b)], by simp [hs], ?_, ?_, ?_, ?_, _, _, rfl⟩⟩
          · rw [List.nodup_append]
            exact ⟨hn, by simp, fun a' ha b' hb => by
              rw [List.mem_singleton] at hb
              rw [hb]
              exact fun z => x (z ▸ ha)⟩
          · intro a' ha
            rw [List.mem_append, List.mem_singleton] at ha
            rcases ha with ha | rfl
            · exact hb _ ha
            · exact bc
          · rw [sc2]
            conv => lhs; unfold scan
            rw [ec]
            dsimp only
            rw [if_neg x]
          · rw [t1, List.map_append]
            rfl
      · rw [if_neg c1] at ec
        refine i_ifT (decide_eq_true (by
          have := mt em.1 c1
          omega)) ?_
        refine i_ifT rfl ?_
        repeat' array_get_dec
        exact stop (.inl ec)
    · have t2 : two q = false := by simpa using t2
      have st := stop (.inl (corner_two t2))
      by_cases ht : isTup q = true
      · obtain ⟨es, rfl⟩ : ∃ es, q = .tuple es := by
          cases q with
          | tuple es => exact ⟨es, rfl⟩
          | _ => cases ht
        refine i_ifF rfl ?_
        repeat' array_get_dec
        rw [List.length_map]
        by_cases h2 : es.length = 2
        · obtain ⟨x, y, rfl⟩ : ∃ x y, es = [x, y] := by
            match es, h2 with
            | [x, y], _ => exact ⟨x, y, rfl⟩
          refine i_ifF rfl ?_
          repeat' array_get_dec
          refine wp_lis_int ?_
          repeat' array_get_dec
          cases hx : pureInt x with
          | false =>
            refine i_ifT rfl ?_
            refine i_ifT rfl ?_
            repeat' array_get_dec
            exact st
          | true =>
            refine i_ifF rfl ?_
            repeat' array_get_dec
            refine wp_lis_int ?_
            repeat' array_get_dec
            have hy : pureInt y = false := by
              have : (pureInt x && pureInt y) = false := t2
              rwa [hx, Bool.true_and] at this
            rw [hy]
            refine i_ifT rfl ?_
            repeat' array_get_dec
            exact st
        · refine i_ifT (by rw [decide_eq_false (by omega)]; rfl) ?_
          refine i_ifT rfl ?_
          repeat' array_get_dec
          exact st
      · have ht : isTup q = false := by simpa using ht
        rw [ht]
        refine i_ifT rfl ?_
        refine i_ifT rfl ?_
        repeat' array_get_dec
        exact st
  · rintro ρ h' ⟨rfl, s, hs, hn, hb, sc, tk, z1, z2, rfl⟩
    rw [Int.toNat_natCast, range_len] at sc
    have e : cf ds = .none := by
      unfold cf
      rw [sc, List.drop_length]
      rfl
    rw [e] at k
    repeat' array_get_dec
    exact k
end
end LW
set_option Elab.async false
set_option linter.all false
set_option maxRecDepth 100000
set_option maxHeartbeats 40000000
namespace LW
open PySem PySem.Spec PyProof.Rows L2 V2
local macro_rules | `(tactic| array_get_dec) => `(tactic| with_reducible refine i_go (by assumption) ?_)
local macro_rules | `(tactic| array_get_dec) => `(tactic| with_reducible refine i_next ?_)
local macro_rules | `(tactic| array_get_dec) => `(tactic| with_reducible refine i_isr2 ?_)
local macro_rules | `(tactic| array_get_dec) => `(tactic| with_reducible refine i_range2 ?_)
local macro_rules | `(tactic| array_get_dec) => `(tactic| with_reducible refine i_range1 ?_)
local macro_rules | `(tactic| array_get_dec) => `(tactic| with_reducible refine i_for ?_)
local macro_rules | `(tactic| array_get_dec) => `(tactic| with_reducible refine i_brk ?_)
local macro_rules | `(tactic| array_get_dec) => `(tactic| with_reducible refine i_zip2 ?_)
local macro_rules | `(tactic| array_get_dec) => `(tactic| with_reducible refine i_enum1 ?_)
local macro_rules | `(tactic| array_get_dec) => `(tactic| with_reducible refine i_one ?_)
local macro_rules | `(tactic| array_get_dec) => `(tactic| with_reducible refine i_raise ?_)
local macro_rules | `(tactic| array_get_dec) => `(tactic| with_reducible refine i_sub ?_)
local macro_rules | `(tactic| array_get_dec) => `(tactic| with_reducible refine i_append ?_)
local macro_rules | `(tactic| array_get_dec) => `(tactic| with_reducible refine i_pop ?_)
local macro_rules | `(tactic| array_get_dec) => `(tactic| with_reducible refine i_drop ?_)
local macro_rules | `(tactic| array_get_dec) => `(tactic| with_reducible refine i_len (by with_unfolding_all exact rfl) ?_)
local macro_rules | `(tactic| array_get_dec) => `(tactic| with_reducible refine i_notN ?_)
local macro_rules | `(tactic| array_get_dec) => `(tactic| with_reducible refine i_isN ?_)
local macro_rules | `(tactic| array_get_dec) => `(tactic| with_reducible refine i_min2 ?_)
local macro_rules | `(tactic| array_get_dec) => `(tactic| with_reducible refine i_max2 ?_)
local macro_rules | `(tactic| array_get_dec) => `(tactic| with_reducible refine i_chain ?_)
local macro_rules | `(tactic| array_get_dec) => `(tactic| with_reducible refine i_lcm3 ?_ ?_)
local macro_rules | `(tactic| array_get_dec) => `(tactic| with_reducible refine i_gcd ?_)
local macro_rules | `(tactic| array_get_dec) => `(tactic| with_reducible refine i_toint ?_)
local macro_rules | `(tactic| array_get_dec) => `(tactic| with_reducible refine i_abs ?_)
local macro_rules | `(tactic| array_get_dec) => `(tactic| with_reducible refine i_pk4 ?_)
local macro_rules | `(tactic| array_get_dec) => `(tactic| with_reducible refine i_pk3 ?_)
local macro_rules | `(tactic| array_get_dec) => `(tactic| with_reducible refine i_pk2 ?_)
local macro_rules | `(tactic| array_get_dec) => `(tactic| with_reducible refine i_pk1 ?_)
local macro_rules | `(tactic| array_get_dec) => `(tactic| with_reducible refine i_fnk ?_)
local macro_rules | `(tactic| array_get_dec) => `(tactic| with_reducible refine i_fn ?_)
local macro_rules | `(tactic| array_get_dec) => `(tactic| with_reducible refine i_call ?_)
local macro_rules | `(tactic| array_get_dec) => `(tactic| with_reducible refine i_ix (by with_unfolding_all exact rfl) (by with_unfolding_all exact rfl) ?_)
local macro_rules | `(tactic| array_get_dec) => `(tactic| with_reducible refine i_ix (by assumption) (by with_unfolding_all exact rfl) ?_)
local macro_rules | `(tactic| array_get_dec) => `(tactic| with_reducible refine i_all (by repeat constructor) (by with_unfolding_all exact Nat.le_of_ble_eq_true rfl) ?_)
local macro_rules | `(tactic| array_get_dec) => `(tactic| with_reducible refine i_lst ?_)
local macro_rules | `(tactic| array_get_dec) => `(tactic| with_reducible refine i_tup ?_)
local macro_rules | `(tactic| array_get_dec) => `(tactic| with_reducible refine i_zipL ?_)
local macro_rules | `(tactic| array_get_dec) => `(tactic| with_reducible refine i_subB ?_)
local macro_rules | `(tactic| array_get_dec) => `(tactic| with_reducible refine i_notB ?_)
local macro_rules | `(tactic| array_get_dec) => `(tactic| with_reducible refine i_minT2 ?_)
local macro_rules | `(tactic| array_get_dec) => `(tactic| with_reducible refine i_maxT2 ?_)
local macro_rules | `(tactic| array_get_dec) => `(tactic| with_reducible refine i_listT ?_)
local macro_rules | `(tactic| array_get_dec) => `(tactic| with_reducible refine i_tupL ?_)
local macro_rules | `(tactic| array_get_dec) => `(tactic| with_reducible refine rvL ?_)
local macro_rules | `(tactic| array_get_dec) => `(tactic| with_reducible refine i_rev ?_)
local macro_rules | `(tactic| array_get_dec) => `(tactic| with_reducible refine slL ?_)
local macro_rules | `(tactic| array_get_dec) => `(tactic| with_reducible refine slT ?_)
local macro_rules | `(tactic| array_get_dec) => `(tactic| with_reducible refine i_oS ?_)
local macro_rules | `(tactic| array_get_dec) => `(tactic| with_reducible refine i_oN ?_)
local macro_rules | `(tactic| array_get_dec) => `(tactic| with_reducible refine i_slG ?_)
local macro_rules | `(tactic| array_get_dec) => `(tactic| with_reducible refine i_fnotG ?_)
local macro_rules | `(tactic| array_get_dec) => `(tactic| with_reducible refine i_forG ?_)
local macro_rules | `(tactic| array_get_dec) => `(tactic| with_reducible refine i_fand ?_)
local macro_rules | `(tactic| array_get_dec) => `(tactic| with_reducible refine i_fif ?_)
local macro_rules | `(tactic| array_get_dec) => `(tactic| with_reducible refine i_not2 ?_)
local macro_rules | `(tactic| array_get_dec) => `(tactic| with_reducible refine i_or2 ?_)
local macro_rules | `(tactic| array_get_dec) => `(tactic| with_reducible refine i_and2 ?_)
local macro_rules | `(tactic| array_get_dec) => `(tactic| with_reducible refine i_isr ?_)
local macro_rules | `(tactic| array_get_dec) => `(tactic| with_reducible refine i_isi ?_)
local macro_rules | `(tactic| array_get_dec) => `(tactic| with_reducible refine i_isb ?_)
local macro_rules | `(tactic| array_get_dec) => `(tactic| with_reducible refine i_val ?_)
local macro_rules | `(tactic| array_get_dec) => `(tactic| with_reducible refine i_un ?_)
local macro_rules | `(tactic| array_get_dec) => `(tactic| with_reducible refine i_nes ?_)
local macro_rules | `(tactic| array_get_dec) => `(tactic| with_reducible refine i_nesr ?_)
local macro_rules | `(tactic| array_get_dec) => `(tactic| with_reducible refine i_eqs ?_)
local macro_rules | `(tactic| array_get_dec) => `(tactic| with_reducible refine i_eqsr ?_)
local macro_rules | `(tactic| array_get_dec) => `(tactic| with_reducible refine i_nei ?_)
local macro_rules | `(tactic| array_get_dec) => `(tactic| with_reducible refine i_eqi ?_)
local macro_rules | `(tactic| array_get_dec) => `(tactic| with_reducible refine i_add ?_)
local macro_rules | `(tactic| array_get_dec) => `(tactic| with_reducible refine i_ints ?_ ?_)
local macro_rules | `(tactic| array_get_dec) => `(tactic| with_reducible refine i_ints0 ?_)
local macro_rules | `(tactic| array_get_dec) => `(tactic| with_reducible refine i_bin ?_)
local macro_rules | `(tactic| array_get_dec) => `(tactic| with_reducible refine i_nil ?_)
local macro_rules | `(tactic| array_get_dec) => `(tactic| with_reducible refine i_cons ?_)
local macro_rules | `(tactic| array_get_dec) => `(tactic| with_reducible refine i_c ?_)
local macro_rules | `(tactic| array_get_dec) => `(tactic| with_reducible refine i_var (by repeat constructor) ?_)
local macro_rules | `(tactic| array_get_dec) => `(tactic| with_reducible refine i_if ?_)
local macro_rules | `(tactic| array_get_dec) => `(tactic| with_reducible refine i_ret ?_)
local macro_rules | `(tactic| array_get_dec) => `(tactic| with_reducible refine i_trip (by repeat constructor) (by repeat constructor) (by repeat constructor) ?_)
local macro_rules | `(tactic| array_get_dec) => `(tactic| with_reducible refine i_par3 ?_ (by with_unfolding_all exact Nat.le_of_ble_eq_true rfl) (by with_unfolding_all exact Nat.le_of_ble_eq_true rfl) (by with_unfolding_all exact Nat.le_of_ble_eq_true rfl))
local macro_rules | `(tactic| array_get_dec) => `(tactic| with_reducible refine i_pair (by repeat constructor) (by repeat constructor) ?_)
local macro_rules | `(tactic| array_get_dec) => `(tactic| with_reducible refine i_par ?_ (by with_unfolding_all exact Nat.le_of_ble_eq_true rfl) (by with_unfolding_all exact Nat.le_of_ble_eq_true rfl))
local macro_rules | `(tactic| array_get_dec) => `(tactic| with_reducible refine i_set (by repeat constructor) ?_)
local macro_rules | `(tactic| array_get_dec) => `(tactic| with_reducible refine i_asgn ?_ (by with_unfolding_all exact Nat.le_of_ble_eq_true rfl))
local macro_rules | `(tactic| array_get_dec) => `(tactic| with_reducible refine i_asg2v (by repeat constructor) (by repeat constructor) (by repeat constructor) ?_)
local macro_rules | `(tactic| array_get_dec) => `(tactic| with_reducible refine i_seqg (fun _ _ => ?_))

local macro_rules
  | `(tactic| decreasing_trivial_pre_omega) => `(tactic| (apply cmB; (repeat' (first | assumption | apply Bd.add | apply Bd.sub | apply Bd.mul | apply Bd.neg)); decide))

open RG (Zp cor)
theorem i_cutg {ρ : En} {h : Ho} {nx : En → Ho → Prop} {rt : KD} {bk ct : En → Ho → Prop} {ex : Ex → En → Ho → Prop} {f g : WS} (S : En → Ho → Prop) (tail : ∀ ρ h, S ρ h → g ρ h ⟨nx, rt, bk, ct, ex⟩) (k : ∀ nx', (∀ ρ h, S ρ h → nx' ρ h) → f ρ h ⟨nx', rt, bk, ct, ex⟩) : sSeq f g ρ h ⟨nx, rt, bk, ct, ex⟩ := i_seq (k _ tail)
theorem at_cor {L : List Zp} {j : Int} (h1 : -(L.length : Int) ≤ j) (h2 : j < L.length) : L2.atI ((L.map zD).map D.d) j = some (.d (zD (cor L (j + L.length).toNat))) := by
  unfold L2.atI ixN
  simp only [List.length_map]
  by_cases c : 0 ≤ j
  · rw [if_pos c, if_pos h2]
    have e : (j + L.length).toNat = j.toNat + L.length := by omega
    rw [e, RG.cor_per, RG.cor_lt (by omega)]
    simp [List.getElem?_eq_getElem (show j.toNat < L.length by omega)]
  · rw [if_neg c, if_pos h1]
    rw [RG.cor_lt (by omega)]
    simp [List.getElem?_eq_getElem (show (j + (L.length : Int)).toNat < L.length by omega)]
open Classical in
theorem lmB_iff {a b c d : Zp} : lmB a b c d = true ↔ RG.LMeet a b c d := decide_eq_true_iff
theorem cor_ne {L : List Zp} (hn : L.Nodup) (h3 : 3 ≤ L.length) (i : Nat) : cor L i ≠ cor L (i + 1) := by
  rw [← RG.cor_mod L i, ← RG.cor_mod L (i + 1), RG.cor_lt (Nat.mod_lt i (by omega)), RG.cor_lt (Nat.mod_lt (i + 1) (by omega))]
  intro e
  have e := (List.getElem_inj hn).mp e
  have := Nat.sub_mod_eq_zero_of_mod_eq e.symm
  rw [show i + 1 - i = 1 by omega, Nat.mod_eq_of_lt (by omega)] at this
  cases this
open Classical in
theorem badL {L : List Zp} (hn : L.Nodup) (h3 : 3 ≤ L.length) : bad L = true ↔ RG.LBad L.length (cor L) := by
  unfold bad
  rw [decide_eq_true_iff, RG.bad_iff h3 (RG.cor_per L) (cor_ne hn h3)]
noncomputable def rfD (p : PyData) : PyData := match rf p with
  | some i => .int i
  | none => .none
def lok (L : List Zp) (i : Nat) : Prop := ¬ RG.LBack (cor L (i + L.length - 2)) (cor L (i + L.length - 1)) (cor L i) ∧ ∀ o, o < i → 1 < i - o → i - o < L.length - 1 → ¬ RG.LMeet (cor L (o + L.length - 1)) (cor L o) (cor L (i + L.length - 1)) (cor L i)
section
variable {h : Ho} {Q : KD} {E : XD}
theorem wp_ring_fault {p : PyData} (hl : ∀ ds, p = .tuple ds → ds.length ≤ 1000) (k : Q (.d (rfD p)) h) : M__law_ring_fault [.d p] h Q E := by
  refine i_mir rfl (by repeat constructor) (by repeat constructor) ?_
  unfold B__law_ring_fault
  repeat' array_get_dec
  refine i_isiD (by repeat constructor) (kit_tup p) ?_
  repeat' array_get_dec
  by_cases ht : ∃ ds, p = .tuple ds
  · obtain ⟨ds, rfl⟩ := ht
    have hl := hl ds rfl
    refine i_ifF rfl ?_
    repeat' array_get_dec
    rw [List.length_map]
    refine i_ite (fun x => ?_) (fun x => ?_)
    · have x := of_decide_eq_true x
      have e : rf (.tuple ds) = some (-1) := by
        show (if ds.length < 3 then _ else _) = _
        rw [if_pos (by omega)]
      unfold rfD at k
      rw [e] at k
      repeat' array_get_dec
      exact k
    · have x := of_decide_eq_false x
      have h3 : ¬ ds.length < 3 := by omega
      have rfe : rf (.tuple ds) = match scan [] ds with
        | .inl k => some (k : Nat)
        | .inr L => if bad L = true then some (ds.length : Nat) else none := by
        exact if_neg h3
      unfold rfD at k
      rw [rfe] at k
      repeat' array_get_dec
      refine wp_corner_fault hl ?_
      repeat' array_get_dec
      rw [List.length_map]
      cases sc : scan [] ds with
      | inl j =>
        have e : cf ds = .int (j : Nat) := by unfold cf; rw [sc]
        rw [sc] at k
        rw [e]
        refine i_ifT rfl ?_
        repeat' array_get_dec
        exact k
      | inr L =>
        have e : cf ds = .none := by unfold cf; rw [sc]
        obtain ⟨hn, hb, e3⟩ := scan_inr sc (by simp) (by simp)
        have eds : ds = L.map zD := by simpa using e3.symm
        subst eds
        rw [List.length_map] at h3 hl
        have bc : ∀ i, B3 (cor L i) := fun i => hb _ (cor_mem (by omega) i)
        rw [sc] at k
        dsimp only at k
        rw [List.length_map] at k
        rw [e]
        refine i_ifF rfl ?_
        repeat' array_get_dec
        rw [List.length_map]
        have yes : RG.LBad L.length (cor L) → Q (.d (.int (L.length : Nat))) h := fun z => by
          rw [if_pos ((badL hn (by omega)).2 z)] at k
          exact k
        refine ⟨by omega, by omega, ?_⟩
        refine for_ind (fun i ρ h' => h' = h ∧ (∀ i', i' < i → lok L i') ∧ ∃ z1 z3 z4 z5 z6, ρ = [some (.d (.tuple (L.map zD))), z1, some (.d (.int (L.length : Nat))), z3, z4, z5, z6]) ?_ ?_ ⟨rfl, fun i' z => absurd z (Nat.not_lt_zero _), _, _, _, _, _, rfl⟩
        · rintro i x ρ h' G ex ⟨rfl, ok, z1, z3, z4, z5, z6, rfl⟩ hG
          obtain ⟨hi, rfl⟩ := range_get ex
          rw [Int.toNat_natCast] at hi
          refine ⟨_, rfl, ?_⟩
          show (sSeq _ _) [some (.d (.tuple (L.map zD))), some (.d (.int (i : Nat))), some (.d (.int (L.length : Nat))), z3, z4, z5, z6] _ _
          have v2 : L2.atI ((L.map zD).map D.d) (((i : Nat) : Int) - 2) = some (.d (zD (cor L (i + L.length - 2)))) := by
            rw [at_cor (by omega) (by omega), show (((i : Nat) : Int) - 2 + L.length).toNat = i + L.length - 2 by omega]
          have v1 : L2.atI ((L.map zD).map D.d) (((i : Nat) : Int) - 1) = some (.d (zD (cor L (i + L.length - 1)))) := by
            rw [at_cor (by omega) (by omega), show (((i : Nat) : Int) - 1 + L.length).toNat = i + L.length - 1 by omega]
          have v0 : L2.atI ((L.map zD).map D.d) ((i : Nat) : Int) = some (.d (zD (cor L i))) := by
            rw [at_cor (by omega) (by omega), show (((i : Nat) : Int) + L.length).toNat = i + L.length by omega, RG.cor_per]
          repeat' array_get_dec
          refine i_ix rfl v2 ?_
          repeat' array_get_dec
          refine i_ix rfl v1 ?_
          repeat' array_get_dec
          refine i_ix rfl v0 ?_
          array_get_dec
          array_get_dec
          array_get_dec
          refine i_cutg (fun ρ' h2 => h2 = h' ∧ ρ' = [some (.d (.tuple (L.map zD))), some (.d (.int (i : Nat))), some (.d (.int (L.length : Nat))), some (.d (zD (cor L (i + L.length - 2)))), some (.d (zD (cor L (i + L.length - 1)))), some (.d (zD (cor L i))), z6] ∧ ¬ RG.LBack (cor L (i + L.length - 2)) (cor L (i + L.length - 1)) (cor L i)) ?tail ?work
          case work =>
            intro nx' tl
            obtain ⟨a1, a2⟩ := (bc (i + L.length - 2)).bd
            obtain ⟨b1, b2⟩ := (bc (i + L.length - 1)).bd
            obtain ⟨c1, c2⟩ := (bc i).bd
            repeat' array_get_dec
            refine wp_lcross (bc _) (bc _) (bc _) ?_
            repeat' array_get_dec
            refine i_ite (fun x => ?_) (fun x => ?_)
            · have x := of_decide_eq_true x
              repeat' array_get_dec
              · decreasing_trivial_pre_omega
              · decreasing_trivial_pre_omega
              refine i_ite (fun y => ?_) (fun y => ?_)
              · have y := of_decide_eq_true y
                repeat' array_get_dec
                exact yes ⟨i, hi, .inl ⟨x, y⟩⟩
              · have y := of_decide_eq_false y
                repeat' array_get_dec
                exact tl _ _ ⟨rfl, rfl, fun z => y z.2⟩
            · have x := of_decide_eq_false x
              refine i_ifF rfl ?_
              repeat' array_get_dec
              exact tl _ _ ⟨rfl, rfl, fun z => x z.1⟩
          case tail =>
          rintro ρ h2 ⟨rfl, rfl, nb⟩
          repeat' array_get_dec
          refine ⟨by omega, by omega, ?_⟩
          refine for_ind (fun o ρ h3 => h3 = h2 ∧ (∀ o', o' < o → 1 < i - o' → i - o' < L.length - 1 → ¬ RG.LMeet (cor L (o' + L.length - 1)) (cor L o') (cor L (i + L.length - 1)) (cor L i)) ∧ ∃ z6, ρ = [some (.d (.tuple (L.map zD))), some (.d (.int (i : Nat))), some (.d (.int (L.length : Nat))), some (.d (zD (cor L (i + L.length - 2)))), some (.d (zD (cor L (i + L.length - 1)))), some (.d (zD (cor L i))), z6]) ?_ ?_ ⟨rfl, fun o' z => absurd z (Nat.not_lt_zero _), _, rfl⟩
          · rintro o x ρ h3 G2 ex2 ⟨rfl, no, z6, rfl⟩ hG2
            obtain ⟨ho, rfl⟩ := range_get ex2
            rw [Int.toNat_natCast] at ho
            refine ⟨_, rfl, ?_⟩
            show sIf _ _ _ [some (.d (.tuple (L.map zD))), some (.d (.int (i : Nat))), some (.d (.int (L.length : Nat))), some (.d (zD (cor L (i + L.length - 2)))), some (.d (zD (cor L (i + L.length - 1)))), some (.d (zD (cor L i))), some (.d (.int (o : Nat)))] _ _
            have w1 : L2.atI ((L.map zD).map D.d) (((o : Nat) : Int) - 1) = some (.d (zD (cor L (o + L.length - 1)))) := by
              rw [at_cor (by omega) (by omega), show (((o : Nat) : Int) - 1 + L.length).toNat = o + L.length - 1 by omega]
            have w0 : L2.atI ((L.map zD).map D.d) ((o : Nat) : Int) = some (.d (zD (cor L o))) := by
              rw [at_cor (by omega) (by omega), show (((o : Nat) : Int) + L.length).toNat = o + L.length by omega, RG.cor_per]
            have next : ¬ (1 < i - o ∧ i - o < L.length - 1 ∧ RG.LMeet (cor L (o + L.length - 1)) (cor L o) (cor L (i + L.length - 1)) (cor L i)) → G2 [some (.d (.tuple (L.map zD))), some (.d (.int (i : Nat))), some (.d (.int (L.length : Nat))), some (.d (zD (cor L (i + L.length - 2)))), some (.d (zD (cor L (i + L.length - 1)))), some (.d (zD (cor L i))), some (.d (.int (o : Nat)))] h3 := fun z => hG2 _ _ ⟨rfl, fun o' a b c m => by
              by_cases d : o' < o
              · exact no o' d b c m
              · have : o' = o := by omega
                subst this
                exact z ⟨b, c, m⟩, _, rfl⟩
            repeat' array_get_dec
            refine i_ite (fun x => ?_) (fun x => ?_)
            · have x := of_decide_eq_true x
              repeat' array_get_dec
              refine i_ite (fun y => ?_) (fun y => ?_)
              · have y := of_decide_eq_true y
                repeat' array_get_dec
                refine i_ix rfl w1 ?_
                repeat' array_get_dec
                refine i_ix rfl w0 ?_
                repeat' array_get_dec
                refine i_ix rfl v1 ?_
                repeat' array_get_dec
                refine i_ix rfl v0 ?_
                repeat' array_get_dec
                refine wp_lmeet (bc _) (bc _) (bc _) (bc _) ?_
                repeat' array_get_dec
                refine i_ite (fun w => ?_) (fun w => ?_)
                · have w := lmB_iff.1 w
                  repeat' array_get_dec
                  exact yes ⟨i, hi, .inr ⟨o, ho, by omega, by omega, w⟩⟩
                · have w : ¬ RG.LMeet _ _ _ _ := fun z => by
                    rw [lmB_iff.2 z] at w
                    cases w
                  repeat' array_get_dec
                  exact ⟨trivial, next fun z => w z.2.2⟩
              · have y := of_decide_eq_false y
                refine i_ifF rfl ?_
                repeat' array_get_dec
                exact ⟨trivial, next fun z => y (by omega)⟩
            · have x := of_decide_eq_false x
              repeat' array_get_dec
              refine i_ifF rfl ?_
              repeat' array_get_dec
              exact ⟨trivial, next fun z => x (by omega)⟩
          · rintro ρ h3 ⟨rfl, no, z6, rfl⟩
            rw [Int.toNat_natCast, range_len] at no
            refine ⟨trivial, hG _ _ ⟨rfl, fun i' a => ?_, _, _, _, _, _, rfl⟩⟩
            by_cases c : i' < i
            · exact ok i' c
            · have : i' = i := by omega
              subst this
              exact ⟨nb, no⟩
        · rintro ρ h' ⟨rfl, ok, z1, z3, z4, z5, z6, rfl⟩
          rw [Int.toNat_natCast, range_len] at ok
          have nb : ¬ bad L = true := fun z => by
            obtain ⟨i, hi, z | ⟨o, a, b, c, m⟩⟩ := (badL hn (by omega)).1 z
            · exact (ok i hi).1 z
            · exact (ok i hi).2 o a b c m
          rw [if_neg nb] at k
          repeat' array_get_dec
          exact k
  · have e : rf p = some (-1) := by
      cases p with
      | tuple ds => exact absurd ⟨_, rfl⟩ ht
      | _ => rfl
    have e2 : isTup p = false := by
      cases p with
      | tuple ds => exact absurd ⟨_, rfl⟩ ht
      | _ => rfl
    unfold rfD at k
    rw [e] at k
    rw [e2]
    refine i_ifT rfl ?_
    refine i_ifT rfl ?_
    repeat' array_get_dec
    exact k
noncomputable def heardD (p : PyData) : PyData := match rf p with
  | some i => .list [.int i]
  | none => .list []
theorem wp_heard {p : PyData} (hl : ∀ ds, p = .tuple ds → ds.length ≤ 1000) (k : ∀ j, Junk j → Q (.d (heardD p)) (h ++ j)) : M__law_heard [.d p] h Q E := by
  unfold heardD at k
  refine i_mir rfl (by repeat constructor) (by repeat constructor) ?_
  unfold B__law_heard
  refine i_try ?_
  repeat' array_get_dec
  refine wp_need_ring hl (fun e j hj => ?_) (fun i e j hj => ?_)
  · have k := k j hj
    rw [e] at k
    repeat' array_get_dec
    refine i_ifT rfl ?_
    repeat' array_get_dec
    exact k
  · have k := k j hj
    rw [e] at k
    refine ⟨by show 1 < 2; decide, ?_⟩
    repeat' array_get_dec
    refine ⟨rfl, rfl, true, rfl, ?_⟩
    refine i_ifT rfl ?_
    repeat' array_get_dec
    refine ⟨rfl, _, rfl, ?_⟩
    repeat' array_get_dec
    exact k
end
end LW
set_option Elab.async false
set_option linter.all false
set_option maxRecDepth 100000
set_option maxHeartbeats 40000000
namespace LW
open PySem PySem.Spec PyProof.Rows L2 V2
local macro_rules | `(tactic| array_get_dec) => `(tactic| with_reducible refine i_go (by assumption) ?_)
local macro_rules | `(tactic| array_get_dec) => `(tactic| with_reducible refine i_next ?_)
local macro_rules | `(tactic| array_get_dec) => `(tactic| with_reducible refine i_isr2 ?_)
local macro_rules | `(tactic| array_get_dec) => `(tactic| with_reducible refine i_range2 ?_)
local macro_rules | `(tactic| array_get_dec) => `(tactic| with_reducible refine i_range1 ?_)
local macro_rules | `(tactic| array_get_dec) => `(tactic| with_reducible refine i_for ?_)
local macro_rules | `(tactic| array_get_dec) => `(tactic| with_reducible refine i_brk ?_)
local macro_rules | `(tactic| array_get_dec) => `(tactic| with_reducible refine i_zip2 ?_)
local macro_rules | `(tactic| array_get_dec) => `(tactic| with_reducible refine i_enum1 ?_)
local macro_rules | `(tactic| array_get_dec) => `(tactic| with_reducible refine i_one ?_)
local macro_rules | `(tactic| array_get_dec) => `(tactic| with_reducible refine i_raise ?_)
local macro_rules | `(tactic| array_get_dec) => `(tactic| with_reducible refine i_sub ?_)
local macro_rules | `(tactic| array_get_dec) => `(tactic| with_reducible refine i_append ?_)
local macro_rules | `(tactic| array_get_dec) => `(tactic| with_reducible refine i_pop ?_)
local macro_rules | `(tactic| array_get_dec) => `(tactic| with_reducible refine i_drop ?_)
local macro_rules | `(tactic| array_get_dec) => `(tactic| with_reducible refine i_len (by with_unfolding_all exact rfl) ?_)
local macro_rules | `(tactic| array_get_dec) => `(tactic| with_reducible refine i_notN ?_)
local macro_rules | `(tactic| array_get_dec) => `(tactic| with_reducible refine i_isN ?_)
local macro_rules | `(tactic| array_get_dec) => `(tactic| with_reducible refine i_min2 ?_)
local macro_rules | `(tactic| array_get_dec) => `(tactic| with_reducible refine i_max2 ?_)
local macro_rules | `(tactic| array_get_dec) => `(tactic| with_reducible refine i_chain ?_)
local macro_rules | `(tactic| array_get_dec) => `(tactic| with_reducible refine i_lcm3 ?_ ?_)
local macro_rules | `(tactic| array_get_dec) => `(tactic| with_reducible refine i_gcd ?_)
local macro_rules | `(tactic| array_get_dec) => `(tactic| with_reducible refine i_toint ?_)
local macro_rules | `(tactic| array_get_dec) => `(tactic| with_reducible refine i_abs ?_)
local macro_rules | `(tactic| array_get_dec) => `(tactic| with_reducible refine i_pk4 ?_)
local macro_rules | `(tactic| array_get_dec) => `(tactic| with_reducible refine i_pk3 ?_)
local macro_rules | `(tactic| array_get_dec) => `(tactic| with_reducible refine i_pk2 ?_)
local macro_rules | `(tactic| array_get_dec) => `(tactic| with_reducible refine i_pk1 ?_)
local macro_rules | `(tactic| array_get_dec) => `(tactic| with_reducible refine i_fnk ?_)
local macro_rules | `(tactic| array_get_dec) => `(tactic| with_reducible refine i_fn ?_)
local macro_rules | `(tactic| array_get_dec) => `(tactic| with_reducible refine i_call ?_)
local macro_rules | `(tactic| array_get_dec) => `(tactic| with_reducible refine i_ix (by with_unfolding_all exact rfl) (by with_unfolding_all exact rfl) ?_)
local macro_rules | `(tactic| array_get_dec) => `(tactic| with_reducible refine i_ix (by assumption) (by with_unfolding_all exact rfl) ?_)
local macro_rules | `(tactic| array_get_dec) => `(tactic| with_reducible refine i_all (by repeat constructor) (by with_unfolding_all exact Nat.le_of_ble_eq_true rfl) ?_)
local macro_rules | `(tactic| array_get_dec) => `(tactic| with_reducible refine i_lst ?_)
local macro_rules | `(tactic| array_get_dec) => `(tactic| with_reducible refine i_tup ?_)
local macro_rules | `(tactic| array_get_dec) => `(tactic| with_reducible refine i_zipL ?_)
local macro_rules | `(tactic| array_get_dec) => `(tactic| with_reducible refine i_subB ?_)
local macro_rules | `(tactic| array_get_dec) => `(tactic| with_reducible refine i_notB ?_)
local macro_rules | `(tactic| array_get_dec) => `(tactic| with_reducible refine i_minT2 ?_)
local macro_rules | `(tactic| array_get_dec) => `(tactic| with_reducible refine i_maxT2 ?_)
local macro_rules | `(tactic| array_get_dec) => `(tactic| with_reducible refine i_listT ?_)
local macro_rules | `(tactic| array_get_dec) => `(tactic| with_reducible refine i_tupL ?_)
local macro_rules | `(tactic| array_get_dec) => `(tactic| with_reducible refine rvL ?_)
local macro_rules | `(tactic| array_get_dec) => `(tactic| with_reducible refine i_rev ?_)
local macro_rules | `(tactic| array_get_dec) => `(tactic| with_reducible refine slL ?_)
local macro_rules | `(tactic| array_get_dec) => `(tactic| with_reducible refine slT ?_)
local macro_rules | `(tactic| array_get_dec) => `(tactic| with_reducible refine i_oS ?_)
local macro_rules | `(tactic| array_get_dec) => `(tactic| with_reducible refine i_oN ?_)
local macro_rules | `(tactic| array_get_dec) => `(tactic| with_reducible refine i_slG ?_)
local macro_rules | `(tactic| array_get_dec) => `(tactic| with_reducible refine i_fnotG ?_)
local macro_rules | `(tactic| array_get_dec) => `(tactic| with_reducible refine i_forG ?_)
local macro_rules | `(tactic| array_get_dec) => `(tactic| with_reducible refine i_fand ?_)
local macro_rules | `(tactic| array_get_dec) => `(tactic| with_reducible refine i_fif ?_)
local macro_rules | `(tactic| array_get_dec) => `(tactic| with_reducible refine i_not2 ?_)
local macro_rules | `(tactic| array_get_dec) => `(tactic| with_reducible refine i_or2 ?_)
local macro_rules | `(tactic| array_get_dec) => `(tactic| with_reducible refine i_and2 ?_)
local macro_rules | `(tactic| array_get_dec) => `(tactic| with_reducible refine i_isr ?_)
local macro_rules | `(tactic| array_get_dec) => `(tactic| with_reducible refine i_isi ?_)
local macro_rules | `(tactic| array_get_dec) => `(tactic| with_reducible refine i_isb ?_)
local macro_rules | `(tactic| array_get_dec) => `(tactic| with_reducible refine i_val ?_)
local macro_rules | `(tactic| array_get_dec) => `(tactic| with_reducible refine i_un ?_)
local macro_rules | `(tactic| array_get_dec) => `(tactic| with_reducible refine i_nes ?_)
local macro_rules | `(tactic| array_get_dec) => `(tactic| with_reducible refine i_nesr ?_)
local macro_rules | `(tactic| array_get_dec) => `(tactic| with_reducible refine i_eqs ?_)
local macro_rules | `(tactic| array_get_dec) => `(tactic| with_reducible refine i_eqsr ?_)
local macro_rules | `(tactic| array_get_dec) => `(tactic| with_reducible refine i_nei ?_)
local macro_rules | `(tactic| array_get_dec) => `(tactic| with_reducible refine i_eqi ?_)
local macro_rules | `(tactic| array_get_dec) => `(tactic| with_reducible refine i_add ?_)
local macro_rules | `(tactic| array_get_dec) => `(tactic| with_reducible refine i_ints ?_ ?_)
local macro_rules | `(tactic| array_get_dec) => `(tactic| with_reducible refine i_ints0 ?_)
local macro_rules | `(tactic| array_get_dec) => `(tactic| with_reducible refine i_bin ?_)
local macro_rules | `(tactic| array_get_dec) => `(tactic| with_reducible refine i_nil ?_)
local macro_rules | `(tactic| array_get_dec) => `(tactic| with_reducible refine i_cons ?_)
local macro_rules | `(tactic| array_get_dec) => `(tactic| with_reducible refine i_c ?_)
local macro_rules | `(tactic| array_get_dec) => `(tactic| with_reducible refine i_var (by repeat constructor) ?_)
local macro_rules | `(tactic| array_get_dec) => `(tactic| with_reducible refine i_if ?_)
local macro_rules | `(tactic| array_get_dec) => `(tactic| with_reducible refine i_ret ?_)
local macro_rules | `(tactic| array_get_dec) => `(tactic| with_reducible refine i_trip (by repeat constructor) (by repeat constructor) (by repeat constructor) ?_)
local macro_rules | `(tactic| array_get_dec) => `(tactic| with_reducible refine i_par3 ?_ (by with_unfolding_all exact Nat.le_of_ble_eq_true rfl) (by with_unfolding_all exact Nat.le_of_ble_eq_true rfl) (by with_unfolding_all exact Nat.le_of_ble_eq_true rfl))
local macro_rules | `(tactic| array_get_dec) => `(tactic| with_reducible refine i_pair (by repeat constructor) (by repeat constructor) ?_)
local macro_rules | `(tactic| array_get_dec) => `(tactic| with_reducible refine i_par ?_ (by with_unfolding_all exact Nat.le_of_ble_eq_true rfl) (by with_unfolding_all exact Nat.le_of_ble_eq_true rfl))
local macro_rules | `(tactic| array_get_dec) => `(tactic| with_reducible refine i_set (by repeat constructor) ?_)
local macro_rules | `(tactic| array_get_dec) => `(tactic| with_reducible refine i_asgn ?_ (by with_unfolding_all exact Nat.le_of_ble_eq_true rfl))
local macro_rules | `(tactic| array_get_dec) => `(tactic| with_reducible refine i_asg2v (by repeat constructor) (by repeat constructor) (by repeat constructor) ?_)
local macro_rules | `(tactic| array_get_dec) => `(tactic| with_reducible refine i_seqg (fun _ _ => ?_))

local macro_rules
  | `(tactic| decreasing_trivial_pre_omega) => `(tactic| (apply cmB; (repeat' (first | assumption | apply Bd.add | apply Bd.sub | apply Bd.mul | apply Bd.neg)); decide))

theorem wp_any {n : Int} {rest h : Ho} {Q : KD} {E : XD} (hn : 0 < n) (hb : n < 2 ^ 100) (dh : Deal rest h) (k : ∀ v h', 0 ≤ v → v < n → Deal rest h' → Q (.d (.int v)) h') : M__law_any [.loc 1, .d (.int n)] h Q E := by
  obtain ⟨cs, mix, rfl, hl, hc, hm0, hm1⟩ := dh.is
  refine i_mir rfl (by repeat constructor) (by repeat constructor) ?_
  unfold B__law_any
  array_get_dec
  refine i_while (fun m ρ' h' => ρ' = [some (.loc 1), some (.d (.int n)), none] ∧ ∃ cs' : List Int, cs'.length = m ∧ h' = .lst (cs'.map cell) :: .lst [.loc 0, cell mix] :: rest ∧ cs'.length ≤ 63 ∧ ∀ c ∈ cs', 0 ≤ c) ⟨rfl, cs, rfl, rfl, hl, hc⟩ ?_ ?_
  · rintro m ρ' h' ⟨rfl, cs', rfl, rfl, hl, hc⟩
    rcases nil_or_snoc cs' with rfl | ⟨cs2, c, rfl⟩
    · repeat' array_get_dec
      refine i_ned (datum_cells (cs := [])) rfl rfl rfl ni_loc ?_
      repeat' array_get_dec
      refine i_ifF rfl ?_
      repeat' array_get_dec
      · exact mix_mul hm0 hm1
      · decide
      · refine subK_loc (j := 1) (h2 := .lst [] :: .lst [.loc 0, cell ((mix * 48271 + 83) % 2147483647)] :: rest) rfl rfl rfl ?_
        have m0 : 0 ≤ (mix * 48271 + 83) % 2147483647 := Int.emod_nonneg _ (by decide)
        have m1 : (mix * 48271 + 83) % 2147483647 < 2147483647 := Int.emod_lt_of_pos _ (by decide)
        repeat' array_get_dec
        · exact ⟨by decide, by decide⟩
        · exact hn
        · exact k _ _ (Int.emod_nonneg _ (by omega)) (Int.emod_lt_of_pos _ hn) ⟨[], _, rfl, hl, hc, m0, by omega⟩
    · have em : (cs2 ++ [c]).map cell = cs2.map cell ++ [cell c] := by simp
      rw [em]
      have hc2 : 0 ≤ c := hc c (by simp)
      repeat' array_get_dec
      refine i_ned (by rw [← em]; exact datum_cells (cs := cs2 ++ [c])) rfl (shaped_ints _) rfl ni_loc ?_
      rw [ints_ne (by simp)]
      repeat' array_get_dec
      refine i_ifT rfl ?_
      repeat' array_get_dec
      refine popK_loc rfl (h2 := .lst (cs2.map cell) :: .lst [.loc 0, cell mix] :: rest) rfl ?_
      repeat' array_get_dec
      refine appK_loc rfl ?_
      repeat' array_get_dec
      · exact ⟨by omega, Nat.lt_of_lt_of_le (log2_lt (n := 100) (by decide) (by omega)) (by decide)⟩
      · have hl2 : cs2.length < 63 := by rw [List.length_append, List.length_singleton] at hl; omega
        refine ⟨_, cs2.map cell, rfl, rfl, by rw [List.length_map]; exact Nat.lt_of_lt_of_le hl2 (by decide), ?_⟩
        repeat' array_get_dec
        · exact hn
        · refine k _ _ (Int.emod_nonneg _ (by omega)) (Int.emod_lt_of_pos _ hn) ⟨cs2 ++ [c.fdiv n], mix, by rw [List.map_append]; rfl, by rw [List.length_append, List.length_singleton]; omega, ?_, hm0, hm1⟩
          intro d hd
          rw [List.mem_append, List.mem_singleton] at hd
          rcases hd with hd | rfl
          · exact hc d (by simp [hd])
          · rw [Int.fdiv_eq_ediv_of_nonneg _ (by omega)]
            exact Int.ediv_nonneg hc2 (by omega)
  · intro he m ρ' h' hi
    have hi0 := hi
    obtain ⟨rfl, cs', rfl, rfl, hl, hc⟩ := hi
    rcases nil_or_snoc cs' with rfl | ⟨cs2, c, rfl⟩
    · repeat' array_get_dec
      refine i_ned (datum_cells (cs := [])) rfl rfl rfl ni_loc ?_
      repeat' array_get_dec
      refine i_ifF rfl ?_
      exact i_ifF rfl (he _ _ _ hi0)
    · have em : (cs2 ++ [c]).map cell = cs2.map cell ++ [cell c] := by simp
      rw [em] at hi0 ⊢
      repeat' array_get_dec
      refine i_ned (by rw [← em]; exact datum_cells (cs := cs2 ++ [c])) rfl (shaped_ints _) rfl ni_loc ?_
      rw [ints_ne (by simp)]
      repeat' array_get_dec
      refine i_ifT rfl ?_
      repeat' array_get_dec
      refine i_ix rfl atI_last ?_
      repeat' array_get_dec
      refine i_ite (fun e => ?_) (fun e => ?_)
      · repeat' array_get_dec
        refine popK_loc rfl (h2 := .lst (cs2.map cell) :: .lst [.loc 0, cell mix] :: rest) rfl ?_
        refine ⟨cs2.length, by simp, rfl, cs2, rfl, rfl, ?_, fun d hd => hc d (by simp [hd])⟩
        rw [List.length_append, List.length_singleton] at hl
        omega
      · exact he _ _ _ hi0
theorem wp_of {xs : List PyData} {rest h : Ho} {Q : KD} {E : XD} (hn : xs ≠ []) (hb : xs.length < 2 ^ 100) (dh : Deal rest h) (k : ∀ x h', x ∈ xs → Deal rest h' → Q (.d x) h') : M__law_of [.loc 1, .d (.list xs)] h Q E := by
  refine i_mir rfl (by repeat constructor) (by repeat constructor) ?_
  unfold B__law_of
  repeat' array_get_dec
  have hp : 0 < xs.length := List.length_pos_iff.2 hn
  rw [List.length_map]
  refine wp_any (by exact_mod_cast hp) (by exact_mod_cast hb) dh fun v h' v0 v1 dh' => ?_
  have e : L2.atI (xs.map D.d) v = some (.d (xs[v.toNat]'(by omega))) := by
    unfold L2.atI ixN
    rw [if_pos v0, if_pos (by rw [List.length_map]; exact v1)]
    simp only [Option.bind_some, List.getElem?_map]
    rw [List.getElem?_eq_getElem (by omega)]
    rfl
  refine i_ix rfl e ?_
  exact k _ _ (List.getElem_mem _) dh'
theorem wp_deal {ns : List Int} {b : Int} {Q : KD} {E : XD} (b0 : 0 ≤ b) (b1 : b ≤ 1000) (hl : ns.length ≤ 63) (k : ∀ h', Deal [] h' → Q (.loc 1) h') : M__law_deal [.d (.list (ns.map PyData.int)), .d (.int b)] [] Q E := by
  refine i_mir rfl (by repeat constructor) (by repeat constructor) ?_
  unfold B__law_deal
  repeat' array_get_dec
  refine i_lcv ?_
  refine i_iseqG ?_
  refine i_sl0 (by repeat constructor) ?_
  refine ⟨_, rfl, ?_⟩
  have ec : cut (ns.map PyData.int) none (some 63) = (cut ns none (some 63)).map PyData.int := by
    unfold cut
    rw [List.length_map, ← List.map_drop, ← List.map_take]
  rw [ec]
  have lc : (cut ns none (some 63)).length ≤ 63 := by
    unfold cut
    rw [List.length_take, List.length_drop]
    omega
  generalize cut ns none (some 63) = ms at lc ⊢
  refine lcv_ind (hb := []) (fun k acc => ∃ cs : List Int, acc = cs.map cell ∧ cs.length ≤ k ∧ ∀ c ∈ cs, 0 ≤ c) stay_d ?_ ?_ ⟨[], rfl, Nat.le_refl 0, by simp⟩
  · rintro i x acc ex ⟨cs, rfl, hc, hp⟩
    rw [List.map_map, List.getElem?_map, Option.map_eq_some_iff] at ex
    obtain ⟨c, e1, rfl⟩ := ex
    have hi : i < ms.length := (List.getElem?_eq_some_iff.1 e1).1
    refine ⟨_, true, rfl, fun P q => q, fun _ => ⟨cell (if c < 0 then -c else c), fun P q => ?_, ?_, cs ++ [if c < 0 then -c else c], by simp, by simp; omega, ?_⟩, fun e => by cases e⟩
    · show fCall _ _ [_, _, _, some (.d (.int c)), _] _ _ _
      repeat' array_get_dec
      exact q
    · rw [List.length_map]
      exact Nat.lt_of_le_of_lt (Nat.le_trans hc (by omega : i ≤ 63)) (by decide)
    · intro d hd
      rw [List.mem_append, List.mem_singleton] at hd
      rcases hd with hd | rfl
      · exact hp d hd
      · split <;> omega
  · rintro acc ⟨cs, rfl, hc, hp⟩
    rw [List.length_map, List.length_map] at hc
    refine ⟨_, allD_cells cs, ?_⟩
    repeat' array_get_dec
    · exact cmulw (n := 20) (by decide) (by decide) (by omega) (by decide)
    refine i_iseq (by repeat constructor) rfl ?_
    refine for_ind (fun i ρ h' => h' = [] ∧ ∃ (z : Option D) (mix : Int), ρ = [some (.d (.list (ns.map PyData.int))), some (.d (.int b)), some (.d (.list (cs.map PyData.int))), z, some (cell mix)] ∧ 0 ≤ mix ∧ mix < 2 ^ 31) ?_ ?_ ⟨rfl, _, _, rfl, by omega, by omega⟩
    · rintro i x ρ h' G ex ⟨rfl, z, mix, rfl, m0, m1⟩ hG
      rw [List.map_map, List.getElem?_map, Option.map_eq_some_iff] at ex
      obtain ⟨c, e1, rfl⟩ := ex
      refine ⟨_, rfl, ?_⟩
      show sAsg _ _ [_, _, _, some (.d (.int c)), some (cell mix)] _ _
      repeat' array_get_dec
      · exact mix_mul m0 m1
      · decide
      · decide
      · exact ⟨stay_d _, hG _ _ ⟨rfl, _, _, rfl, Int.emod_nonneg _ (by decide), Int.lt_trans (Int.emod_lt_of_pos _ (by decide)) (by decide)⟩⟩
    · rintro ρ h' ⟨rfl, z, mix, rfl, m0, m1⟩
      repeat' array_get_dec
      refine i_loc ?_
      array_get_dec
      refine i_revloc ?_
      refine i_lcv ?_
      refine i_iseq (by repeat constructor) rfl ?_
      refine lcv_ind (hb := []) (fun k acc => ∃ cs : List Int, acc = cs.map cell ∧ cs.length ≤ k ∧ ∀ c ∈ cs, 0 ≤ c) stay_d ?_ ?_ ⟨[], rfl, Nat.le_refl 0, by simp⟩
      · rintro i x acc ex ⟨ds, rfl, hc2, hp2⟩
        rw [List.map_map, List.getElem?_map, Option.map_eq_some_iff] at ex
        obtain ⟨c, e1, rfl⟩ := ex
        obtain ⟨hi, e2⟩ := List.getElem?_eq_some_iff.1 e1
        refine ⟨_, decide ((10 : Int) ^ (18 : Int).toNat ≤ c), rfl, fun P q => ?_, fun hb => ⟨cell c, fun P q => ?_, ?_, ds ++ [c], by simp, by simp; omega, ?_⟩, fun _ => ⟨ds, rfl, by omega, hp2⟩⟩
        · show tVal _ [_, _, _, some (.d (.int c)), _] _ _ _
          repeat' array_get_dec
          · exact ⟨by decide, by decide, by decide⟩
          · exact q
        · show fVar _ [_, _, _, some (.d (.int c)), _] _ _ _
          exact i_var (by repeat constructor) q
        · rw [List.length_map]
          exact Nat.lt_of_le_of_lt (Nat.le_trans hc2 (by omega : i ≤ 63)) (by decide)
        · intro d hd
          rw [List.mem_append, List.mem_singleton] at hd
          rcases hd with hd | rfl
          · exact hp2 d hd
          · exact hp _ (by rw [← e2]; exact List.getElem_mem _)
      · rintro acc ⟨ds, rfl, hc2, hp2⟩
        rw [List.length_map, List.length_map] at hc2
        refine ⟨_, allD_cells ds, ?_⟩
        refine revK_lst ?_
        repeat' array_get_dec
        refine ⟨Nat.le_of_ble_eq_true rfl, k _ ⟨ds.reverse, mix, ?_, by rw [List.length_reverse]; omega, fun c hc3 => hp2 c (List.mem_reverse.1 hc3), m0, m1⟩⟩
        have e3 : ((ds.map PyData.int).map D.d).reverse = ds.reverse.map cell := by rw [List.map_map, ← List.map_reverse]; rfl
        rw [e3]
        rfl
end LW
set_option Elab.async false
set_option linter.all false
set_option maxRecDepth 100000
set_option maxHeartbeats 40000000
namespace LW
open PySem PySem.Spec PyProof.Rows L2 V2
local macro_rules | `(tactic| array_get_dec) => `(tactic| with_reducible refine i_go (by assumption) ?_)
local macro_rules | `(tactic| array_get_dec) => `(tactic| with_reducible refine i_next ?_)
local macro_rules | `(tactic| array_get_dec) => `(tactic| with_reducible refine i_isr2 ?_)
local macro_rules | `(tactic| array_get_dec) => `(tactic| with_reducible refine i_range2 ?_)
local macro_rules | `(tactic| array_get_dec) => `(tactic| with_reducible refine i_range1 ?_)
local macro_rules | `(tactic| array_get_dec) => `(tactic| with_reducible refine i_for ?_)
local macro_rules | `(tactic| array_get_dec) => `(tactic| with_reducible refine i_brk ?_)
local macro_rules | `(tactic| array_get_dec) => `(tactic| with_reducible refine i_zip2 ?_)
local macro_rules | `(tactic| array_get_dec) => `(tactic| with_reducible refine i_enum1 ?_)
local macro_rules | `(tactic| array_get_dec) => `(tactic| with_reducible refine i_one ?_)
local macro_rules | `(tactic| array_get_dec) => `(tactic| with_reducible refine i_raise ?_)
local macro_rules | `(tactic| array_get_dec) => `(tactic| with_reducible refine i_sub ?_)
local macro_rules | `(tactic| array_get_dec) => `(tactic| with_reducible refine i_append ?_)
local macro_rules | `(tactic| array_get_dec) => `(tactic| with_reducible refine i_pop ?_)
local macro_rules | `(tactic| array_get_dec) => `(tactic| with_reducible refine i_drop ?_)
local macro_rules | `(tactic| array_get_dec) => `(tactic| with_reducible refine i_len (by with_unfolding_all exact rfl) ?_)
local macro_rules | `(tactic| array_get_dec) => `(tactic| with_reducible refine i_notN ?_)
local macro_rules | `(tactic| array_get_dec) => `(tactic| with_reducible refine i_isN ?_)
local macro_rules | `(tactic| array_get_dec) => `(tactic| with_reducible refine i_min2 ?_)
local macro_rules | `(tactic| array_get_dec) => `(tactic| with_reducible refine i_max2 ?_)
local macro_rules | `(tactic| array_get_dec) => `(tactic| with_reducible refine i_chain ?_)
local macro_rules | `(tactic| array_get_dec) => `(tactic| with_reducible refine i_lcm3 ?_ ?_)
local macro_rules | `(tactic| array_get_dec) => `(tactic| with_reducible refine i_gcd ?_)
local macro_rules | `(tactic| array_get_dec) => `(tactic| with_reducible refine i_toint ?_)
local macro_rules | `(tactic| array_get_dec) => `(tactic| with_reducible refine i_abs ?_)
local macro_rules | `(tactic| array_get_dec) => `(tactic| with_reducible refine i_pk4 ?_)
local macro_rules | `(tactic| array_get_dec) => `(tactic| with_reducible refine i_pk3 ?_)
local macro_rules | `(tactic| array_get_dec) => `(tactic| with_reducible refine i_pk2 ?_)
local macro_rules | `(tactic| array_get_dec) => `(tactic| with_reducible refine i_pk1 ?_)
local macro_rules | `(tactic| array_get_dec) => `(tactic| with_reducible refine i_fnk ?_)
local macro_rules | `(tactic| array_get_dec) => `(tactic| with_reducible refine i_fn ?_)
local macro_rules | `(tactic| array_get_dec) => `(tactic| with_reducible refine i_call ?_)
local macro_rules | `(tactic| array_get_dec) => `(tactic| with_reducible refine i_ix (by with_unfolding_all exact rfl) (by with_unfolding_all exact rfl) ?_)
local macro_rules | `(tactic| array_get_dec) => `(tactic| with_reducible refine i_ix (by assumption) (by with_unfolding_all exact rfl) ?_)
local macro_rules | `(tactic| array_get_dec) => `(tactic| with_reducible refine i_all (by repeat constructor) (by with_unfolding_all exact Nat.le_of_ble_eq_true rfl) ?_)
local macro_rules | `(tactic| array_get_dec) => `(tactic| with_reducible refine i_lst ?_)
local macro_rules | `(tactic| array_get_dec) => `(tactic| with_reducible refine i_tup ?_)
local macro_rules | `(tactic| array_get_dec) => `(tactic| with_reducible refine i_zipL ?_)
local macro_rules | `(tactic| array_get_dec) => `(tactic| with_reducible refine i_slP ?_)
local macro_rules | `(tactic| array_get_dec) => `(tactic| with_reducible refine i_subB ?_)
local macro_rules | `(tactic| array_get_dec) => `(tactic| with_reducible refine i_notB ?_)
local macro_rules | `(tactic| array_get_dec) => `(tactic| with_reducible refine i_minT2 ?_)
local macro_rules | `(tactic| array_get_dec) => `(tactic| with_reducible refine i_maxT2 ?_)
local macro_rules | `(tactic| array_get_dec) => `(tactic| with_reducible refine i_listT ?_)
local macro_rules | `(tactic| array_get_dec) => `(tactic| with_reducible refine i_tupL ?_)
local macro_rules | `(tactic| array_get_dec) => `(tactic| with_reducible refine rvL ?_)
local macro_rules | `(tactic| array_get_dec) => `(tactic| with_reducible refine i_rev ?_)
local macro_rules | `(tactic| array_get_dec) => `(tactic| with_reducible refine slL ?_)
local macro_rules | `(tactic| array_get_dec) => `(tactic| with_reducible refine slT ?_)
local macro_rules | `(tactic| array_get_dec) => `(tactic| with_reducible refine i_oS ?_)
local macro_rules | `(tactic| array_get_dec) => `(tactic| with_reducible refine i_oN ?_)
local macro_rules | `(tactic| array_get_dec) => `(tactic| with_reducible refine i_slG ?_)
local macro_rules | `(tactic| array_get_dec) => `(tactic| with_reducible refine i_fnotG ?_)
local macro_rules | `(tactic| array_get_dec) => `(tactic| with_reducible refine i_forG ?_)
local macro_rules | `(tactic| array_get_dec) => `(tactic| with_reducible refine i_fand ?_)
local macro_rules | `(tactic| array_get_dec) => `(tactic| with_reducible refine i_fif ?_)
local macro_rules | `(tactic| array_get_dec) => `(tactic| with_reducible refine i_not2 ?_)
local macro_rules | `(tactic| array_get_dec) => `(tactic| with_reducible refine i_or2 ?_)
local macro_rules | `(tactic| array_get_dec) => `(tactic| with_reducible refine i_and2 ?_)
local macro_rules | `(tactic| array_get_dec) => `(tactic| with_reducible refine i_isr ?_)
local macro_rules | `(tactic| array_get_dec) => `(tactic| with_reducible refine i_isi ?_)
local macro_rules | `(tactic| array_get_dec) => `(tactic| with_reducible refine i_isb ?_)
local macro_rules | `(tactic| array_get_dec) => `(tactic| with_reducible refine i_val ?_)
local macro_rules | `(tactic| array_get_dec) => `(tactic| with_reducible refine i_un ?_)
local macro_rules | `(tactic| array_get_dec) => `(tactic| with_reducible refine i_nes ?_)
local macro_rules | `(tactic| array_get_dec) => `(tactic| with_reducible refine i_nesr ?_)
local macro_rules | `(tactic| array_get_dec) => `(tactic| with_reducible refine i_eqs ?_)
local macro_rules | `(tactic| array_get_dec) => `(tactic| with_reducible refine i_eqsr ?_)
local macro_rules | `(tactic| array_get_dec) => `(tactic| with_reducible refine i_nei ?_)
local macro_rules | `(tactic| array_get_dec) => `(tactic| with_reducible refine i_eqi ?_)
local macro_rules | `(tactic| array_get_dec) => `(tactic| with_reducible refine i_add ?_)
local macro_rules | `(tactic| array_get_dec) => `(tactic| with_reducible refine i_ints ?_ ?_)
local macro_rules | `(tactic| array_get_dec) => `(tactic| with_reducible refine i_ints0 ?_)
local macro_rules | `(tactic| array_get_dec) => `(tactic| with_reducible refine i_bin ?_)
local macro_rules | `(tactic| array_get_dec) => `(tactic| with_reducible refine i_nil ?_)
local macro_rules | `(tactic| array_get_dec) => `(tactic| with_reducible refine i_cons ?_)
local macro_rules | `(tactic| array_get_dec) => `(tactic| with_reducible refine i_c ?_)
local macro_rules | `(tactic| array_get_dec) => `(tactic| with_reducible refine i_var (by repeat constructor) ?_)
local macro_rules | `(tactic| array_get_dec) => `(tactic| with_reducible refine i_if ?_)
local macro_rules | `(tactic| array_get_dec) => `(tactic| with_reducible refine i_ret ?_)
local macro_rules | `(tactic| array_get_dec) => `(tactic| with_reducible refine i_trip (by repeat constructor) (by repeat constructor) (by repeat constructor) ?_)
local macro_rules | `(tactic| array_get_dec) => `(tactic| with_reducible refine i_par3 ?_ (by with_unfolding_all exact Nat.le_of_ble_eq_true rfl) (by with_unfolding_all exact Nat.le_of_ble_eq_true rfl) (by with_unfolding_all exact Nat.le_of_ble_eq_true rfl))
local macro_rules | `(tactic| array_get_dec) => `(tactic| with_reducible refine i_pair (by repeat constructor) (by repeat constructor) ?_)
local macro_rules | `(tactic| array_get_dec) => `(tactic| with_reducible refine i_par ?_ (by with_unfolding_all exact Nat.le_of_ble_eq_true rfl) (by with_unfolding_all exact Nat.le_of_ble_eq_true rfl))
local macro_rules | `(tactic| array_get_dec) => `(tactic| with_reducible refine i_set (by repeat constructor) ?_)
local macro_rules | `(tactic| array_get_dec) => `(tactic| with_reducible refine i_asgn ?_ (by with_unfolding_all exact Nat.le_of_ble_eq_true rfl))
local macro_rules | `(tactic| array_get_dec) => `(tactic| with_reducible refine i_asg2v (by repeat constructor) (by repeat constructor) (by repeat constructor) ?_)
local macro_rules | `(tactic| array_get_dec) => `(tactic| with_reducible refine i_seqg (fun _ _ => ?_))

local macro_rules
  | `(tactic| decreasing_trivial_pre_omega) => `(tactic| (apply cmB; (repeat' (first | assumption | apply Bd.add | apply Bd.sub | apply Bd.mul | apply Bd.neg)); decide))

open RG (Zp cor)
def NoR (rest : Ho) : Prop := ∀ n, noRef n rest = true
theorem NoR.nil : NoR [] := fun _ => rfl
theorem NoR.app {a b : Ho} (h : NoR a) (k : NoR b) : NoR (a ++ b) := fun n => by
  have h := h n
  have k := k n
  unfold noRef at *
  rw [List.all_append, h, k]
  rfl
theorem NoR.data (ps : List PyData) : NoR [.lst (ps.map D.d)] := fun n => by
  unfold noRef
  rw [List.all_cons, List.all_nil, Bool.and_true, List.all_eq_true]
  intro x hx
  obtain ⟨p, _, rfl⟩ := List.mem_map.1 hx
  rfl
theorem NoR.junk {j : Ho} (h : Junk j) : NoR j := by
  rcases h with rfl | ⟨ks, rfl⟩
  · exact NoR.nil
  · exact fun _ => rfl
def Dl (h : Ho) : Prop := ∃ rest, Deal rest h ∧ NoR rest
theorem deal_app {rest h j : Ho} (d : Deal rest h) : Deal (rest ++ j) (h ++ j) := by
  obtain ⟨cs, mix, rfl, h1, h2, h3, h4⟩ := d.is
  exact ⟨cs, mix, rfl, h1, h2, h3, h4⟩
theorem Dl.junk {h j : Ho} (d : Dl h) (hj : Junk j) : Dl (h ++ j) := by
  obtain ⟨rest, d, n⟩ := d
  exact ⟨_, deal_app d, n.app (NoR.junk hj)⟩
def InR (r : Int) (z : Zp) : Prop := (-r ≤ z.1 ∧ z.1 ≤ r) ∧ (-r ≤ z.2 ∧ z.2 ≤ r)
structure Mv (a b c d r u : Int) : Prop where
  dt : a * d - b * c ≠ 0
  ha : -2 ≤ a ∧ a ≤ 2
  hb : -1 ≤ b ∧ b ≤ 1
  hc : -1 ≤ c ∧ c ≤ 1
  hd : -1 ≤ d ∧ d ≤ 1
  hr : -50 ≤ r ∧ r ≤ 50
  hu : -50 ≤ u ∧ u ≤ 50
section
variable {h : Ho} {Q : KD} {E : XD}
theorem dl_any {n : Int} (hn : 0 < n) (hb : n < 2 ^ 100) (dh : Dl h) (k : ∀ v h', 0 ≤ v → v < n → Dl h' → Q (.d (.int v)) h') : M__law_any [.loc 1, .d (.int n)] h Q E := by
  obtain ⟨rest, d, nr⟩ := dh
  exact wp_any hn hb d fun v h' v0 v1 d' => k v h' v0 v1 ⟨rest, d', nr⟩
theorem dl_of {xs : List PyData} (hn : xs ≠ []) (hb : xs.length < 2 ^ 100) (dh : Dl h) (k : ∀ x h', x ∈ xs → Dl h' → Q (.d x) h') : M__law_of [.loc 1, .d (.list xs)] h Q E := by
  obtain ⟨rest, d, nr⟩ := dh
  exact wp_of hn hb d fun v h' v0 d' => k v h' v0 ⟨rest, d', nr⟩
theorem wp_map (dh : Dl h) (k : ∀ a b c d r u h', Mv a b c d r u → Dl h' → Q (.d (.tuple [.int a, .int b, .int c, .int d, .int r, .int u])) h') : M__law_map [.loc 1] h Q E := by
  refine i_mir rfl (by repeat constructor) (by repeat constructor) ?_
  unfold B__law_map
  repeat' array_get_dec
  refine dl_of (by simp) (by simp) dh fun x h1 hx dh => ?_
  have hx : ∃ a b c d : Int, x = .tuple [.int a, .int b, .int c, .int d] ∧ a * d - b * c ≠ 0 ∧ (-2 ≤ a ∧ a ≤ 2) ∧ (-1 ≤ b ∧ b ≤ 1) ∧ (-1 ≤ c ∧ c ≤ 1) ∧ (-1 ≤ d ∧ d ≤ 1) := by
    simp only [List.mem_cons, List.not_mem_nil, or_false] at hx
    rcases hx with rfl | rfl | rfl | rfl | rfl | rfl | rfl | rfl
    all_goals exact ⟨_, _, _, _, rfl, by decide, by decide, by decide, by decide, by decide⟩
  obtain ⟨a, b, c, d, rfl, h0, ha, hb, hc, hd⟩ := hx
  repeat' array_get_dec
  refine dl_any (by decide) (by decide) dh fun v1 h2 a1 b1 dh => ?_
  repeat' array_get_dec
  refine dl_any (by decide) (by decide) dh fun v2 h3 a2 b2 dh => ?_
  repeat' array_get_dec
  refine i_addTT (by simp; decide) ?_
  exact k a b c d _ _ _ ⟨h0, ha, hb, hc, hd, by omega, by omega⟩ dh
theorem mul_le2 {a x : Int} (ha : -2 ≤ a ∧ a ≤ 2) (hx : -300 ≤ x ∧ x ≤ 300) : -600 ≤ a * x ∧ a * x ≤ 600 := by
  have : a = -2 ∨ a = -1 ∨ a = 0 ∨ a = 1 ∨ a = 2 := by omega
  rcases this with rfl | rfl | rfl | rfl | rfl <;> omega
theorem bdI {x : Int} {r : Nat} (h : x.natAbs < 2 ^ r) : Bd r x := h
theorem wp_put {L : List Zp} {a b c d r u : Int} (mvh : Mv a b c d r u) (hL : ∀ p ∈ L, InR 300 p) (hl : L.length ≤ 100)
    (k : Q (.d (rD (if a * d - b * c > 0 then L.map (RG.mv a b c d r u) else (L.map (RG.mv a b c d r u)).reverse))) h) :
    M__law_put [.d (rD L), .d (.tuple [.int a, .int b, .int c, .int d, .int r, .int u])] h Q E := by
  obtain ⟨h0, ha, hb, hc, hd, hr, hu⟩ := mvh
  have ba : Bd 2 a := by show a.natAbs < 4; omega
  have bb : Bd 2 b := by show b.natAbs < 4; omega
  have bc : Bd 2 c := by show c.natAbs < 4; omega
  have bd : Bd 2 d := by show d.natAbs < 4; omega
  refine i_mir rfl (by repeat constructor) (by repeat constructor) ?_
  unfold B__law_put
  repeat' array_get_dec
  refine i_asgG ?_
  repeat' array_get_dec
  refine ⟨[some (.d (rD L)), some (.d (.tuple [.int a, .int b, .int c, .int d, .int r, .int u])), some (.d (.int a)), some (.d (.int b)), some (.d (.int c)), some (.d (.int d)), some (.d (.int r)), some (.d (.int u)), none, none, none], rfl, ?_⟩
  repeat' array_get_dec
  refine i_lcv ?_
  refine i_iseq (by repeat constructor) rfl ?_
  refine lcv_ind (hb := h) (fun k acc => acc = ((L.take k).map fun p => zD (RG.mv a b c d r u p)).map D.d) stay_d ?_ ?_ rfl
  · rintro i z acc ez rfl
    rw [List.map_map, List.getElem?_map, Option.map_eq_some_iff] at ez
    obtain ⟨p, e1, rfl⟩ := ez
    have pm := hL p (List.mem_of_getElem? e1)
    have p1 : Bd 9 p.1 := by show p.1.natAbs < 512; have := pm.1; omega
    have p2 : Bd 9 p.2 := by show p.2.natAbs < 512; have := pm.2; omega
    refine ⟨[some (.d (rD L)), some (.d (.tuple [.int a, .int b, .int c, .int d, .int r, .int u])), some (.d (.int a)), some (.d (.int b)), some (.d (.int c)), some (.d (.int d)), some (.d (.int r)), some (.d (.int u)), none, some (.d (.int p.1)), some (.d (.int p.2))], true, rfl, fun P q => q, fun _ => ⟨.d (zD (RG.mv a b c d r u p)), fun P q => ?_, ?_, ?_⟩, fun e => by cases e⟩
    · repeat' array_get_dec
      · decreasing_trivial_pre_omega
      · decreasing_trivial_pre_omega
      · decreasing_trivial_pre_omega
      · decreasing_trivial_pre_omega
      · exact q
    · have : sizeLine = 2 ^ 24 := rfl
      simp only [List.length_map, List.length_take]
      omega
    · rw [List.take_succ, e1]
      simp
  · rintro acc rfl
    have e : ((L.take ((L.map zD).map D.d).length).map fun p => zD (RG.mv a b c d r u p)) = (L.map (RG.mv a b c d r u)).map zD := by
      rw [List.length_map, List.length_map, List.take_length, List.map_map]
      rfl
    rw [e]
    generalize L.map (RG.mv a b c d r u) = M at k ⊢
    refine ⟨M.map zD, ?_, ?_⟩
    · generalize M.map zD = xs
      induction xs with
      | nil => exact .nil
      | cons a l ih => exact .cons ih
    · repeat' array_get_dec
      · decreasing_trivial_pre_omega
      · decreasing_trivial_pre_omega
      refine i_ite (fun x => ?_) (fun x => ?_)
      · have x := of_decide_eq_true x
        rw [if_pos x] at k
        repeat' array_get_dec
        exact k
      · have x := of_decide_eq_false x
        rw [if_neg x] at k
        repeat' array_get_dec
        rw [← List.map_reverse]
        exact k
end
end LW
set_option Elab.async false
set_option linter.all false
set_option maxRecDepth 100000
set_option maxHeartbeats 40000000
namespace LW
open PySem PySem.Spec PyProof.Rows L2 V2
local macro_rules | `(tactic| array_get_dec) => `(tactic| with_reducible refine i_go (by assumption) ?_)
local macro_rules | `(tactic| array_get_dec) => `(tactic| with_reducible refine i_next ?_)
local macro_rules | `(tactic| array_get_dec) => `(tactic| with_reducible refine i_isr2 ?_)
local macro_rules | `(tactic| array_get_dec) => `(tactic| with_reducible refine i_range2 ?_)
local macro_rules | `(tactic| array_get_dec) => `(tactic| with_reducible refine i_range1 ?_)
local macro_rules | `(tactic| array_get_dec) => `(tactic| with_reducible refine i_for ?_)
local macro_rules | `(tactic| array_get_dec) => `(tactic| with_reducible refine i_brk ?_)
local macro_rules | `(tactic| array_get_dec) => `(tactic| with_reducible refine i_zip2 ?_)
local macro_rules | `(tactic| array_get_dec) => `(tactic| with_reducible refine i_enum1 ?_)
local macro_rules | `(tactic| array_get_dec) => `(tactic| with_reducible refine i_one ?_)
local macro_rules | `(tactic| array_get_dec) => `(tactic| with_reducible refine i_raise ?_)
local macro_rules | `(tactic| array_get_dec) => `(tactic| with_reducible refine i_sub ?_)
local macro_rules | `(tactic| array_get_dec) => `(tactic| with_reducible refine i_append ?_)
local macro_rules | `(tactic| array_get_dec) => `(tactic| with_reducible refine i_pop ?_)
local macro_rules | `(tactic| array_get_dec) => `(tactic| with_reducible refine i_drop ?_)
local macro_rules | `(tactic| array_get_dec) => `(tactic| with_reducible refine i_len (by with_unfolding_all exact rfl) ?_)
local macro_rules | `(tactic| array_get_dec) => `(tactic| with_reducible refine i_notN ?_)
local macro_rules | `(tactic| array_get_dec) => `(tactic| with_reducible refine i_isN ?_)
local macro_rules | `(tactic| array_get_dec) => `(tactic| with_reducible refine i_min2 ?_)
local macro_rules | `(tactic| array_get_dec) => `(tactic| with_reducible refine i_max2 ?_)
local macro_rules | `(tactic| array_get_dec) => `(tactic| with_reducible refine i_chain ?_)
local macro_rules | `(tactic| array_get_dec) => `(tactic| with_reducible refine i_lcm3 ?_ ?_)
local macro_rules | `(tactic| array_get_dec) => `(tactic| with_reducible refine i_gcd ?_)
local macro_rules | `(tactic| array_get_dec) => `(tactic| with_reducible refine i_toint ?_)
local macro_rules | `(tactic| array_get_dec) => `(tactic| with_reducible refine i_abs ?_)
local macro_rules | `(tactic| array_get_dec) => `(tactic| with_reducible refine i_pk4 ?_)
local macro_rules | `(tactic| array_get_dec) => `(tactic| with_reducible refine i_pk3 ?_)
local macro_rules | `(tactic| array_get_dec) => `(tactic| with_reducible refine i_pk2 ?_)
local macro_rules | `(tactic| array_get_dec) => `(tactic| with_reducible refine i_pk1 ?_)
local macro_rules | `(tactic| array_get_dec) => `(tactic| with_reducible refine i_fnk ?_)
local macro_rules | `(tactic| array_get_dec) => `(tactic| with_reducible refine i_fn ?_)
local macro_rules | `(tactic| array_get_dec) => `(tactic| with_reducible refine i_call ?_)
local macro_rules | `(tactic| array_get_dec) => `(tactic| with_reducible refine i_ix (by with_unfolding_all exact rfl) (by with_unfolding_all exact rfl) ?_)
local macro_rules | `(tactic| array_get_dec) => `(tactic| with_reducible refine i_ix (by assumption) (by with_unfolding_all exact rfl) ?_)
local macro_rules | `(tactic| array_get_dec) => `(tactic| with_reducible refine i_all (by repeat constructor) (by with_unfolding_all exact Nat.le_of_ble_eq_true rfl) ?_)
local macro_rules | `(tactic| array_get_dec) => `(tactic| with_reducible refine i_lst ?_)
local macro_rules | `(tactic| array_get_dec) => `(tactic| with_reducible refine i_tup ?_)
local macro_rules | `(tactic| array_get_dec) => `(tactic| with_reducible refine i_zipL ?_)
local macro_rules | `(tactic| array_get_dec) => `(tactic| with_reducible refine i_slP ?_)
local macro_rules | `(tactic| array_get_dec) => `(tactic| with_reducible refine i_subB ?_)
local macro_rules | `(tactic| array_get_dec) => `(tactic| with_reducible refine i_notB ?_)
local macro_rules | `(tactic| array_get_dec) => `(tactic| with_reducible refine i_minT2 ?_)
local macro_rules | `(tactic| array_get_dec) => `(tactic| with_reducible refine i_maxT2 ?_)
local macro_rules | `(tactic| array_get_dec) => `(tactic| with_reducible refine i_listT ?_)
local macro_rules | `(tactic| array_get_dec) => `(tactic| with_reducible refine i_tupL ?_)
local macro_rules | `(tactic| array_get_dec) => `(tactic| with_reducible refine rvL ?_)
local macro_rules | `(tactic| array_get_dec) => `(tactic| with_reducible refine i_rev ?_)
local macro_rules | `(tactic| array_get_dec) => `(tactic| with_reducible refine slL ?_)
local macro_rules | `(tactic| array_get_dec) => `(tactic| with_reducible refine slT ?_)
local macro_rules | `(tactic| array_get_dec) => `(tactic| with_reducible refine i_oS ?_)
local macro_rules | `(tactic| array_get_dec) => `(tactic| with_reducible refine i_oN ?_)
local macro_rules | `(tactic| array_get_dec) => `(tactic| with_reducible refine i_slG ?_)
local macro_rules | `(tactic| array_get_dec) => `(tactic| with_reducible refine i_fnotG ?_)
local macro_rules | `(tactic| array_get_dec) => `(tactic| with_reducible refine i_forG ?_)
local macro_rules | `(tactic| array_get_dec) => `(tactic| with_reducible refine i_fand ?_)
local macro_rules | `(tactic| array_get_dec) => `(tactic| with_reducible refine i_fif ?_)
local macro_rules | `(tactic| array_get_dec) => `(tactic| with_reducible refine i_not2 ?_)
local macro_rules | `(tactic| array_get_dec) => `(tactic| with_reducible refine i_or2 ?_)
local macro_rules | `(tactic| array_get_dec) => `(tactic| with_reducible refine i_and2 ?_)
local macro_rules | `(tactic| array_get_dec) => `(tactic| with_reducible refine i_isr ?_)
local macro_rules | `(tactic| array_get_dec) => `(tactic| with_reducible refine i_isi ?_)
local macro_rules | `(tactic| array_get_dec) => `(tactic| with_reducible refine i_isb ?_)
local macro_rules | `(tactic| array_get_dec) => `(tactic| with_reducible refine i_val ?_)
local macro_rules | `(tactic| array_get_dec) => `(tactic| with_reducible refine i_un ?_)
local macro_rules | `(tactic| array_get_dec) => `(tactic| with_reducible refine i_nes ?_)
local macro_rules | `(tactic| array_get_dec) => `(tactic| with_reducible refine i_nesr ?_)
local macro_rules | `(tactic| array_get_dec) => `(tactic| with_reducible refine i_eqs ?_)
local macro_rules | `(tactic| array_get_dec) => `(tactic| with_reducible refine i_eqsr ?_)
local macro_rules | `(tactic| array_get_dec) => `(tactic| with_reducible refine i_nei ?_)
local macro_rules | `(tactic| array_get_dec) => `(tactic| with_reducible refine i_eqi ?_)
local macro_rules | `(tactic| array_get_dec) => `(tactic| with_reducible refine i_add ?_)
local macro_rules | `(tactic| array_get_dec) => `(tactic| with_reducible refine i_ints ?_ ?_)
local macro_rules | `(tactic| array_get_dec) => `(tactic| with_reducible refine i_ints0 ?_)
local macro_rules | `(tactic| array_get_dec) => `(tactic| with_reducible refine i_bin ?_)
local macro_rules | `(tactic| array_get_dec) => `(tactic| with_reducible refine i_nil ?_)
local macro_rules | `(tactic| array_get_dec) => `(tactic| with_reducible refine i_cons ?_)
local macro_rules | `(tactic| array_get_dec) => `(tactic| with_reducible refine i_c ?_)
local macro_rules | `(tactic| array_get_dec) => `(tactic| with_reducible refine i_var (by repeat constructor) ?_)
local macro_rules | `(tactic| array_get_dec) => `(tactic| with_reducible refine i_if ?_)
local macro_rules | `(tactic| array_get_dec) => `(tactic| with_reducible refine i_ret ?_)
local macro_rules | `(tactic| array_get_dec) => `(tactic| with_reducible refine i_trip (by repeat constructor) (by repeat constructor) (by repeat constructor) ?_)
local macro_rules | `(tactic| array_get_dec) => `(tactic| with_reducible refine i_par3 ?_ (by with_unfolding_all exact Nat.le_of_ble_eq_true rfl) (by with_unfolding_all exact Nat.le_of_ble_eq_true rfl) (by with_unfolding_all exact Nat.le_of_ble_eq_true rfl))
local macro_rules | `(tactic| array_get_dec) => `(tactic| with_reducible refine i_pair (by repeat constructor) (by repeat constructor) ?_)
local macro_rules | `(tactic| array_get_dec) => `(tactic| with_reducible refine i_par ?_ (by with_unfolding_all exact Nat.le_of_ble_eq_true rfl) (by with_unfolding_all exact Nat.le_of_ble_eq_true rfl))
local macro_rules | `(tactic| array_get_dec) => `(tactic| with_reducible refine i_set (by repeat constructor) ?_)
local macro_rules | `(tactic| array_get_dec) => `(tactic| with_reducible refine i_asgn ?_ (by with_unfolding_all exact Nat.le_of_ble_eq_true rfl))
local macro_rules | `(tactic| array_get_dec) => `(tactic| with_reducible refine i_asg2v (by repeat constructor) (by repeat constructor) (by repeat constructor) ?_)
local macro_rules | `(tactic| array_get_dec) => `(tactic| with_reducible refine i_seqg (fun _ _ => ?_))

local macro_rules
  | `(tactic| decreasing_trivial_pre_omega) => `(tactic| (apply cmB; (repeat' (first | assumption | apply Bd.add | apply Bd.sub | apply Bd.mul | apply Bd.neg)); decide))

open RG (Zp cor)
/-- a ring of the law, of so many corners at most -/
structure Rg (n : Nat) (L : List Zp) : Prop where
  ring : RG.IsRing L
  near : ∀ p ∈ L, InR 300 p
  few : L.length ≤ n
def In8 (p : Zp) : Prop := (-80 ≤ p.1 ∧ p.1 ≤ 80) ∧ (-40 ≤ p.2 ∧ p.2 ≤ 40)
structure Rs (L : List Zp) : Prop where
  ring : RG.IsRing L
  near : ∀ p ∈ L, In8 p
  few : L.length ≤ 20
theorem allD_of (xs : List PyData) : AllD (xs.map D.d) xs := by
  induction xs with
  | nil => exact .nil
  | cons a l ih => exact .cons ih
def low (rs : List Int) : List Zp := (List.range rs.length).map fun (t : Nat) => ((20 * ((t : Int) + 1), -20 - rs.getD t 0) : Zp)
def hig (rs : List Int) : List Zp := (List.range rs.length).map fun (t : Nat) => ((20 * ((t : Int) + 1), 20 + rs.getD t 0) : Zp)
theorem low_snoc (rs : List Int) (r : Int) : low (rs ++ [r]) = low rs ++ [(20 * ((rs.length : Int) + 1), -20 - r)] := by
  unfold low
  rw [List.length_append, List.length_singleton, List.range_succ, List.map_append]
  congr 1
  · apply List.map_congr_left
    intro t ht
    rw [List.mem_range] at ht
    rw [List.getD_eq_getElem?_getD, List.getD_eq_getElem?_getD, List.getElem?_append_left ht]
  · simp
theorem hig_snoc (rs : List Int) (r : Int) : hig (rs ++ [r]) = hig rs ++ [(20 * ((rs.length : Int) + 1), 20 + r)] := by
  unfold hig
  rw [List.length_append, List.length_singleton, List.range_succ, List.map_append]
  congr 1
  · apply List.map_congr_left
    intro t ht
    rw [List.mem_range] at ht
    rw [List.getD_eq_getElem?_getD, List.getD_eq_getElem?_getD, List.getElem?_append_left ht]
  · simp
theorem range_get1 {n k : Nat} {x : D} (e : (rangeD 1 n)[k]? = some x) : k < n ∧ x = .d (.int ((k : Nat) + 1)) := by
  unfold rangeD at e
  rw [List.getElem?_map, Option.map_eq_some_iff] at e
  obtain ⟨j, e1, rfl⟩ := e
  obtain ⟨h1, e2⟩ := List.getElem?_eq_some_iff.1 e1
  rw [List.getElem_range] at e2
  subst e2
  rw [List.length_range] at h1
  exact ⟨h1, by rw [Int.add_comm]⟩
theorem getD_mem0 {rs : List Int} {P : Int → Prop} (h : ∀ x ∈ rs, P x) (h0 : P 0) (t : Nat) : P (rs.getD t 0) := by
  rw [List.getD_eq_getElem?_getD]
  cases e : rs[t]? with
  | none => exact h0
  | some x => exact h x (List.mem_of_getElem? e)
section
variable {h : Ho} {Q : KD} {E : XD}
theorem wp_wave {m : Nat} (m0 : 2 ≤ m) (m1 : m ≤ 4) (dh : Dl h) (k : ∀ L h', Rs L → Dl h' → Q (.d (rD L)) h') : M__law_wave [.loc 1, .d (.int (m : Nat))] h Q E := by
  obtain ⟨rest, d, nr⟩ := dh
  refine i_mir rfl (by repeat constructor) (by repeat constructor) ?_
  unfold B__law_wave
  repeat' array_get_dec
  refine i_lcv ?_
  repeat' array_get_dec
  refine ⟨by omega, ?_⟩
  have em : (((m : Nat) : Int) - 1).toNat = m - 1 := by omega
  rw [em]
  refine lcd_ind d (nr _) (fun k acc => ∃ rs : List Int, rs.length = k ∧ (∀ x ∈ rs, 0 ≤ x ∧ x < 20) ∧ acc = (low rs).map zD) (fun _ => trivial) ?_ ?_ ⟨[], rfl, by simp, rfl⟩
  · rintro k x acc h1 G ex ⟨rs, hl, hr, rfl⟩ d1 hG
    obtain ⟨hk, rfl⟩ := range_get1 ex
    refine ⟨_, rfl, ?_, ?_⟩
    · rw [List.length_map]
      unfold low
      rw [List.length_map, List.length_range, hl]
      exact Nat.lt_trans hk (Nat.lt_of_le_of_lt (by omega : m - 1 ≤ 10) (by decide))
    · show fTup _ [_, _, _, some (.d (.int ((k : Nat) + 1))), _] _ _ _
      repeat' array_get_dec
      · exact cmulw (n := 5) (by decide) (by decide) (by omega) (by decide)
      refine wp_any (by decide) (by decide) d1 fun v h2 v0 v1 d2 => ?_
      repeat' array_get_dec
      refine hG _ _ ⟨rs ++ [v], by simp [hl], ?_, ?_⟩ d2
      · intro x hx
        rw [List.mem_append, List.mem_singleton] at hx
        rcases hx with hx | rfl
        · exact hr x hx
        · exact ⟨v0, v1⟩
      · rw [low_snoc, List.map_append, hl]
        rfl
  · rintro acc h1 ⟨rs, hl, hr, rfl⟩ d1
    have hl : rs.length = m - 1 := by rw [hl]; simp [rangeD]
    repeat' array_get_dec
    refine i_lcv ?_
    repeat' array_get_dec
    refine ⟨by omega, ?_⟩
    rw [em]
    refine lcd_ind d1 (nr _) (fun k acc => ∃ ss : List Int, ss.length = k ∧ (∀ x ∈ ss, 0 ≤ x ∧ x < 20) ∧ acc = (hig ss).map zD) (fun _ => trivial) ?_ ?_ ⟨[], rfl, by simp, rfl⟩
    · rintro k x acc h1 G ex ⟨ss, hl, hr, rfl⟩ d1 hG
      obtain ⟨hk, rfl⟩ := range_get1 ex
      refine ⟨_, rfl, ?_, ?_⟩
      · rw [List.length_map]
        unfold hig
        rw [List.length_map, List.length_range, hl]
        exact Nat.lt_trans hk (Nat.lt_of_le_of_lt (by omega : m - 1 ≤ 10) (by decide))
      · show fTup _ [_, _, _, some (.d (.int ((k : Nat) + 1))), _] _ _ _
        repeat' array_get_dec
        · exact cmulw (n := 5) (by decide) (by decide) (by omega) (by decide)
        refine wp_any (by decide) (by decide) d1 fun v h2 v0 v1 d2 => ?_
        repeat' array_get_dec
        refine hG _ _ ⟨ss ++ [v], by simp [hl], ?_, ?_⟩ d2
        · intro x hx
          rw [List.mem_append, List.mem_singleton] at hx
          rcases hx with hx | rfl
          · exact hr x hx
          · exact ⟨v0, v1⟩
        · rw [hig_snoc, List.map_append, hl]
          rfl
    · rintro acc h2 ⟨ss, hl2, hs, rfl⟩ d2
      have hl2 : ss.length = m - 1 := by rw [hl2]; simp [rangeD]
      have s1 : (low rs).length = m - 1 := by unfold low; simp [hl]
      have s2 : (hig ss).length = m - 1 := by unfold hig; simp [hl2]
      have sz : sizeLine = 2 ^ 24 := rfl
      repeat' array_get_dec
      refine i_addLL (by simp [s1]; omega) ?_
      repeat' array_get_dec
      · exact cmulw (n := 5) (by decide) (by decide) (by omega) (by decide)
      refine i_addLL (by simp [s1]; omega) ?_
      repeat' array_get_dec
      refine i_addLL (by simp [s1, s2]; omega) ?_
      repeat' array_get_dec
      have e : ((([PyData.tuple [.int 0, .int 0]] ++ (low rs).map zD) ++ [PyData.tuple [.int (20 * ((m : Nat) : Int)), .int 0]]) ++ ((hig ss).map zD).reverse) =
          ([((0, 0) : Zp)] ++ low rs ++ [((20 * ((rs.length : Int) + 1), 0) : Zp)] ++ (hig ss).reverse).map zD := by
        have : ((rs.length : Nat) : Int) + 1 = (m : Nat) := by omega
        rw [List.map_append, List.map_append, List.map_append, List.map_reverse, this]
        rfl
      rw [e]
      have near : ∀ p ∈ [((0, 0) : Zp)] ++ low rs ++ [((20 * ((rs.length : Int) + 1), 0) : Zp)] ++ (hig ss).reverse, In8 p := by
        intro p hp
        simp only [List.mem_append, List.mem_singleton, List.mem_reverse] at hp
        rcases hp with ((rfl | hp) | rfl) | hp
        · exact ⟨by omega, by omega⟩
        · unfold low at hp
          obtain ⟨t, ht, rfl⟩ := List.mem_map.1 hp
          rw [List.mem_range] at ht
          have := getD_mem0 (P := fun x => 0 ≤ x ∧ x < 20) hr (by decide) t
          exact ⟨by dsimp only; omega, by dsimp only; omega⟩
        · exact ⟨by dsimp only; omega, by dsimp only; omega⟩
        · unfold hig at hp
          obtain ⟨t, ht, rfl⟩ := List.mem_map.1 hp
          rw [List.mem_range] at ht
          have := getD_mem0 (P := fun x => 0 ≤ x ∧ x < 20) hs (by decide) t
          exact ⟨by dsimp only; omega, by dsimp only; omega⟩
      refine k _ _ ⟨?_, near, by simp [s1, s2]; omega⟩ ⟨rest, d2, nr⟩
      have hw := RG.waveL (rs := rs) (ss := ss) (by omega) (by omega) (fun x hx => (hr x hx).1) (fun x hx => (hs x hx).1)
      unfold low hig
      rw [hl2, ← hl]
      exact hw
end
end LW
set_option Elab.async false
set_option linter.all false
set_option maxRecDepth 100000
set_option maxHeartbeats 40000000
namespace LW
open PySem PySem.Spec PyProof.Rows L2 V2
local macro_rules | `(tactic| array_get_dec) => `(tactic| with_reducible refine i_go (by assumption) ?_)
local macro_rules | `(tactic| array_get_dec) => `(tactic| with_reducible refine i_next ?_)
local macro_rules | `(tactic| array_get_dec) => `(tactic| with_reducible refine i_isr2 ?_)
local macro_rules | `(tactic| array_get_dec) => `(tactic| with_reducible refine i_range2 ?_)
local macro_rules | `(tactic| array_get_dec) => `(tactic| with_reducible refine i_range1 ?_)
local macro_rules | `(tactic| array_get_dec) => `(tactic| with_reducible refine i_for ?_)
local macro_rules | `(tactic| array_get_dec) => `(tactic| with_reducible refine i_brk ?_)
local macro_rules | `(tactic| array_get_dec) => `(tactic| with_reducible refine i_zip2 ?_)
local macro_rules | `(tactic| array_get_dec) => `(tactic| with_reducible refine i_enum1 ?_)
local macro_rules | `(tactic| array_get_dec) => `(tactic| with_reducible refine i_one ?_)
local macro_rules | `(tactic| array_get_dec) => `(tactic| with_reducible refine i_raise ?_)
local macro_rules | `(tactic| array_get_dec) => `(tactic| with_reducible refine i_sub ?_)
local macro_rules | `(tactic| array_get_dec) => `(tactic| with_reducible refine i_append ?_)
local macro_rules | `(tactic| array_get_dec) => `(tactic| with_reducible refine i_pop ?_)
local macro_rules | `(tactic| array_get_dec) => `(tactic| with_reducible refine i_drop ?_)
local macro_rules | `(tactic| array_get_dec) => `(tactic| with_reducible refine i_len (by with_unfolding_all exact rfl) ?_)
local macro_rules | `(tactic| array_get_dec) => `(tactic| with_reducible refine i_notN ?_)
local macro_rules | `(tactic| array_get_dec) => `(tactic| with_reducible refine i_isN ?_)
local macro_rules | `(tactic| array_get_dec) => `(tactic| with_reducible refine i_min2 ?_)
local macro_rules | `(tactic| array_get_dec) => `(tactic| with_reducible refine i_max2 ?_)
local macro_rules | `(tactic| array_get_dec) => `(tactic| with_reducible refine i_chain ?_)
local macro_rules | `(tactic| array_get_dec) => `(tactic| with_reducible refine i_lcm3 ?_ ?_)
local macro_rules | `(tactic| array_get_dec) => `(tactic| with_reducible refine i_gcd ?_)
local macro_rules | `(tactic| array_get_dec) => `(tactic| with_reducible refine i_toint ?_)
local macro_rules | `(tactic| array_get_dec) => `(tactic| with_reducible refine i_abs ?_)
local macro_rules | `(tactic| array_get_dec) => `(tactic| with_reducible refine i_pk4 ?_)
local macro_rules | `(tactic| array_get_dec) => `(tactic| with_reducible refine i_pk3 ?_)
local macro_rules | `(tactic| array_get_dec) => `(tactic| with_reducible refine i_pk2 ?_)
local macro_rules | `(tactic| array_get_dec) => `(tactic| with_reducible refine i_pk1 ?_)
local macro_rules | `(tactic| array_get_dec) => `(tactic| with_reducible refine i_fnk ?_)
local macro_rules | `(tactic| array_get_dec) => `(tactic| with_reducible refine i_fn ?_)
local macro_rules | `(tactic| array_get_dec) => `(tactic| with_reducible refine i_call ?_)
local macro_rules | `(tactic| array_get_dec) => `(tactic| with_reducible refine i_ix (by with_unfolding_all exact rfl) (by with_unfolding_all exact rfl) ?_)
local macro_rules | `(tactic| array_get_dec) => `(tactic| with_reducible refine i_ix (by assumption) (by with_unfolding_all exact rfl) ?_)
local macro_rules | `(tactic| array_get_dec) => `(tactic| with_reducible refine i_all (by repeat constructor) (by with_unfolding_all exact Nat.le_of_ble_eq_true rfl) ?_)
local macro_rules | `(tactic| array_get_dec) => `(tactic| with_reducible refine i_lst ?_)
local macro_rules | `(tactic| array_get_dec) => `(tactic| with_reducible refine i_tup ?_)
local macro_rules | `(tactic| array_get_dec) => `(tactic| with_reducible refine i_zipL ?_)
local macro_rules | `(tactic| array_get_dec) => `(tactic| with_reducible refine i_slP ?_)
local macro_rules | `(tactic| array_get_dec) => `(tactic| with_reducible refine i_subB ?_)
local macro_rules | `(tactic| array_get_dec) => `(tactic| with_reducible refine i_notB ?_)
local macro_rules | `(tactic| array_get_dec) => `(tactic| with_reducible refine i_minT2 ?_)
local macro_rules | `(tactic| array_get_dec) => `(tactic| with_reducible refine i_maxT2 ?_)
local macro_rules | `(tactic| array_get_dec) => `(tactic| with_reducible refine i_listT ?_)
local macro_rules | `(tactic| array_get_dec) => `(tactic| with_reducible refine i_tupL ?_)
local macro_rules | `(tactic| array_get_dec) => `(tactic| with_reducible refine rvL ?_)
local macro_rules | `(tactic| array_get_dec) => `(tactic| with_reducible refine i_rev ?_)
local macro_rules | `(tactic| array_get_dec) => `(tactic| with_reducible refine slL ?_)
local macro_rules | `(tactic| array_get_dec) => `(tactic| with_reducible refine slT ?_)
local macro_rules | `(tactic| array_get_dec) => `(tactic| with_reducible refine i_oS ?_)
local macro_rules | `(tactic| array_get_dec) => `(tactic| with_reducible refine i_oN ?_)
local macro_rules | `(tactic| array_get_dec) => `(tactic| with_reducible refine i_slG ?_)
local macro_rules | `(tactic| array_get_dec) => `(tactic| with_reducible refine i_fnotG ?_)
local macro_rules | `(tactic| array_get_dec) => `(tactic| with_reducible refine i_forG ?_)
local macro_rules | `(tactic| array_get_dec) => `(tactic| with_reducible refine i_fand ?_)
local macro_rules | `(tactic| array_get_dec) => `(tactic| with_reducible refine i_fif ?_)
local macro_rules | `(tactic| array_get_dec) => `(tactic| with_reducible refine i_not2 ?_)
local macro_rules | `(tactic| array_get_dec) => `(tactic| with_reducible refine i_or2 ?_)
local macro_rules | `(tactic| array_get_dec) => `(tactic| with_reducible refine i_and2 ?_)
local macro_rules | `(tactic| array_get_dec) => `(tactic| with_reducible refine i_isr ?_)
local macro_rules | `(tactic| array_get_dec) => `(tactic| with_reducible refine i_isi ?_)
local macro_rules | `(tactic| array_get_dec) => `(tactic| with_reducible refine i_isb ?_)
local macro_rules | `(tactic| array_get_dec) => `(tactic| with_reducible refine i_val ?_)
local macro_rules | `(tactic| array_get_dec) => `(tactic| with_reducible refine i_un ?_)
local macro_rules | `(tactic| array_get_dec) => `(tactic| with_reducible refine i_nes ?_)
local macro_rules | `(tactic| array_get_dec) => `(tactic| with_reducible refine i_nesr ?_)
local macro_rules | `(tactic| array_get_dec) => `(tactic| with_reducible refine i_eqs ?_)
local macro_rules | `(tactic| array_get_dec) => `(tactic| with_reducible refine i_eqsr ?_)
local macro_rules | `(tactic| array_get_dec) => `(tactic| with_reducible refine i_nei ?_)
local macro_rules | `(tactic| array_get_dec) => `(tactic| with_reducible refine i_eqi ?_)
local macro_rules | `(tactic| array_get_dec) => `(tactic| with_reducible refine i_add ?_)
local macro_rules | `(tactic| array_get_dec) => `(tactic| with_reducible refine i_ints ?_ ?_)
local macro_rules | `(tactic| array_get_dec) => `(tactic| with_reducible refine i_ints0 ?_)
local macro_rules | `(tactic| array_get_dec) => `(tactic| with_reducible refine i_bin ?_)
local macro_rules | `(tactic| array_get_dec) => `(tactic| with_reducible refine i_nil ?_)
local macro_rules | `(tactic| array_get_dec) => `(tactic| with_reducible refine i_cons ?_)
local macro_rules | `(tactic| array_get_dec) => `(tactic| with_reducible refine i_c ?_)
local macro_rules | `(tactic| array_get_dec) => `(tactic| with_reducible refine i_var (by repeat constructor) ?_)
local macro_rules | `(tactic| array_get_dec) => `(tactic| with_reducible refine i_if ?_)
local macro_rules | `(tactic| array_get_dec) => `(tactic| with_reducible refine i_ret ?_)
local macro_rules | `(tactic| array_get_dec) => `(tactic| with_reducible refine i_trip (by repeat constructor) (by repeat constructor) (by repeat constructor) ?_)
local macro_rules | `(tactic| array_get_dec) => `(tactic| with_reducible refine i_par3 ?_ (by with_unfolding_all exact Nat.le_of_ble_eq_true rfl) (by with_unfolding_all exact Nat.le_of_ble_eq_true rfl) (by with_unfolding_all exact Nat.le_of_ble_eq_true rfl))
local macro_rules | `(tactic| array_get_dec) => `(tactic| with_reducible refine i_pair (by repeat constructor) (by repeat constructor) ?_)
local macro_rules | `(tactic| array_get_dec) => `(tactic| with_reducible refine i_par ?_ (by with_unfolding_all exact Nat.le_of_ble_eq_true rfl) (by with_unfolding_all exact Nat.le_of_ble_eq_true rfl))
local macro_rules | `(tactic| array_get_dec) => `(tactic| with_reducible refine i_set (by repeat constructor) ?_)
local macro_rules | `(tactic| array_get_dec) => `(tactic| with_reducible refine i_asgn ?_ (by with_unfolding_all exact Nat.le_of_ble_eq_true rfl))
local macro_rules | `(tactic| array_get_dec) => `(tactic| with_reducible refine i_asg2v (by repeat constructor) (by repeat constructor) (by repeat constructor) ?_)
local macro_rules | `(tactic| array_get_dec) => `(tactic| with_reducible refine i_seqg (fun _ _ => ?_))

local macro_rules
  | `(tactic| decreasing_trivial_pre_omega) => `(tactic| (apply cmB; (repeat' (first | assumption | apply Bd.add | apply Bd.sub | apply Bd.mul | apply Bd.neg)); decide))

open RG (Zp cor)
theorem anyV_int2 (i : Int) : ∀ ns : List Int, ((((ns.map PyData.int).map D.d).map valD).any fun y => eqV y (V.int i)) = decide (i ∈ ns)
  | [] => rfl
  | n :: ns => by
    have ih := anyV_int2 i ns
    simp only [List.map_cons, List.any_cons, ih]
    show (eqV (V.int n) (V.int i) || decide (i ∈ ns)) = _
    have e : eqV (V.int n) (V.int i) = decide (n = i) := by
      simp [eqV]
      rfl
    rw [e, Bool.eq_iff_iff]
    simp only [Bool.or_eq_true, decide_eq_true_iff, List.mem_cons]
    constructor
    · rintro (h | h)
      · exact .inl h.symm
      · exact .inr h
    · rintro (h | h)
      · exact .inl h.symm
      · exact .inr h
theorem in_int {i : Int} {ns : List Int} {h : Ho} {Q : KD} (k : Q (.d (.bool (decide (i ∈ ns)))) h) : rInD false (.d (.int i)) (.d (.list (ns.map PyData.int))) h Q := by
  refine ⟨rfl, ?_, ?_⟩
  · rw [List.all_eq_true]
    intro x hx
    rw [List.map_map] at hx
    obtain ⟨n, _, rfl⟩ := List.mem_map.1 hx
    rfl
  · have e : inV (valD (.d (.int i))) (((ns.map PyData.int).map D.d).map valD) = decide (i ∈ ns) := anyV_int2 i ns
    rw [if_neg (by decide), e]
    exact k
theorem i_addLLe {ps qs rs : List PyData} {h : Ho} {Q : KD} (e : ps ++ qs = rs) (hl : rs.length ≤ sizeLine) (k : Q (.d (.list rs)) h) : rAdd2 (.d (.list ps)) (.d (.list qs)) h Q := by
  subst e
  exact ⟨by rw [List.length_append] at hl; exact hl, k⟩
def ways8 : List Zp := [(2, 0), (2, 1), (2, 2), (1, 2), (0, 2), (-1, 2), (-2, 2), (-2, 1)]
def negZ (p : Zp) : Zp := (0 - p.1, 0 - p.2)
def sel (ns : List Int) (q k : Nat) : List Nat := ((List.range k).filter fun t => decide (((4 * q + t : Nat) : Int) ∈ ns)).map fun t => 4 * q + t
theorem sel_succ (ns : List Int) (q k : Nat) : sel ns q (k + 1) = sel ns q k ++ (if ((4 * q + k : Nat) : Int) ∈ ns then [4 * q + k] else []) := by
  unfold sel
  rw [List.range_succ, List.filter_append, List.map_append]
  congr 1
  by_cases c : ((4 * q + k : Nat) : Int) ∈ ns
  · rw [if_pos c, List.filter_cons_of_pos (by simpa using c)]
    rfl
  · rw [if_neg c, List.filter_cons_of_neg (by simpa using c)]
    rfl
theorem sel_mem {ns : List Int} {q k x : Nat} : x ∈ sel ns q k ↔ ∃ t, t < k ∧ ((4 * q + t : Nat) : Int) ∈ ns ∧ x = 4 * q + t := by
  unfold sel
  rw [List.mem_map]
  constructor
  · rintro ⟨t, h, rfl⟩
    rw [List.mem_filter, List.mem_range, decide_eq_true_iff] at h
    exact ⟨t, h.1, h.2, rfl⟩
  · rintro ⟨t, h1, h2, rfl⟩
    exact ⟨t, by rw [List.mem_filter, List.mem_range, decide_eq_true_iff]; exact ⟨h1, h2⟩, rfl⟩
theorem sel_asc (ns : List Int) (q k : Nat) : (sel ns q k).Pairwise (· < ·) := by
  unfold sel
  rw [List.pairwise_map]
  refine List.Pairwise.imp (fun h => Nat.add_lt_add_left h _) ?_
  exact List.Pairwise.filter _ List.pairwise_lt_range
theorem sel_len (ns : List Int) (q k : Nat) : (sel ns q k).length ≤ k := by
  unfold sel
  rw [List.length_map]
  exact Nat.le_trans (List.length_filter_le _ _) (by rw [List.length_range]; exact Nat.le_refl _)
abbrev natsD (ks : List Nat) : List PyData := ks.map fun k => PyData.int (k : Nat)
theorem range_getA {a : Int} {n k : Nat} {x : D} (e : (rangeD a n)[k]? = some x) : k < n ∧ x = .d (.int (a + (k : Nat))) := by
  unfold rangeD at e
  rw [List.getElem?_map, Option.map_eq_some_iff] at e
  obtain ⟨j, e1, rfl⟩ := e
  obtain ⟨h1, e2⟩ := List.getElem?_eq_some_iff.1 e1
  rw [List.getElem_range] at e2
  subst e2
  rw [List.length_range] at h1
  exact ⟨h1, rfl⟩
structure Pl (q : Nat) (ks : List Nat) : Prop where
  asc : ks.Pairwise (· < ·)
  lt : ∀ k ∈ ks, k < 4 * q
  each : ∀ r, r < q → ∃ k ∈ ks, k / 4 = r
  few : ks.length ≤ 4 * q
theorem Pl.next {q : Nat} {ks : List Nat} (h : Pl q ks) {ns : List Int} (hn : 0 < ns.length) (hr : ∀ n ∈ ns, 4 * (q : Int) ≤ n ∧ n < 4 * q + 4) : Pl (q + 1) (ks ++ sel ns q 4) := by
  refine ⟨?_, ?_, ?_, ?_⟩
  · rw [List.pairwise_append]
    refine ⟨h.asc, sel_asc _ _ _, fun a ha b hb => ?_⟩
    obtain ⟨t, _, _, rfl⟩ := sel_mem.1 hb
    have := h.lt a ha
    omega
  · intro k hk
    rw [List.mem_append] at hk
    rcases hk with hk | hk
    · have := h.lt k hk
      omega
    · obtain ⟨t, h1, _, rfl⟩ := sel_mem.1 hk
      omega
  · intro r hr'
    by_cases c : r < q
    · obtain ⟨k, hk, e⟩ := h.each r c
      exact ⟨k, List.mem_append_left _ hk, e⟩
    · have : r = q := by omega
      subst this
      have hm := List.getElem_mem hn
      have := hr _ hm
      refine ⟨ns[0].toNat, List.mem_append_right _ (sel_mem.2 ⟨ns[0].toNat - 4 * r, by omega, ?_, by omega⟩), by omega⟩
      rw [show ((4 * r + (ns[0].toNat - 4 * r) : Nat) : Int) = ns[0] by omega]
      exact hm
  · rw [List.length_append]
    have := sel_len ns q 4
    have := h.few
    omega
theorem wy_get {k : Nat} (h : k < 16) : ((RG.ways.map zD).map D.d)[k]? = some (.d (zD (RG.wy k))) := by
  rw [List.getElem?_map, List.getElem?_map]
  have : k = 0 ∨ k = 1 ∨ k = 2 ∨ k = 3 ∨ k = 4 ∨ k = 5 ∨ k = 6 ∨ k = 7 ∨ k = 8 ∨ k = 9 ∨ k = 10 ∨ k = 11 ∨ k = 12 ∨ k = 13 ∨ k = 14 ∨ k = 15 := by omega
  rcases this with rfl | rfl | rfl | rfl | rfl | rfl | rfl | rfl | rfl | rfl | rfl | rfl | rfl | rfl | rfl | rfl
  all_goals rfl
theorem wy_small (k : Nat) : (-2 ≤ (RG.wy k).1 ∧ (RG.wy k).1 ≤ 2) ∧ (-2 ≤ (RG.wy k).2 ∧ (RG.wy k).2 ≤ 2) := by
  have : RG.wy k = RG.wy (k % 16) := by unfold RG.wy; rw [Nat.mod_mod]
  rw [this]
  have h : k % 16 < 16 := Nat.mod_lt _ (by decide)
  generalize k % 16 = j at h
  have : ∀ j, j < 16 → (-2 ≤ (RG.wy j).1 ∧ (RG.wy j).1 ≤ 2) ∧ (-2 ≤ (RG.wy j).2 ∧ (RG.wy j).2 ≤ 2) := by decide +kernel
  exact this j h
section
variable {h : Ho} {Q : KD} {E : XD}
theorem wp_star (dh : Dl h) (k : ∀ L h', Rs L → Dl h' → Q (.d (rD L)) h') : M__law_star [.loc 1, .d (.tuple [.int 0, .int 0]), .d (.int 9), .d (.int 3)] h Q E := by
  have sz : sizeLine = 2 ^ 24 := rfl
  refine i_mir rfl (by repeat constructor) (by repeat constructor) ?_
  unfold B__law_star
  repeat' array_get_dec
  refine i_lcv ?_
  refine i_iseq (xs := (ways8.map zD).map D.d) (by repeat constructor) rfl ?_
  refine lcv_ind (hb := h) (fun k acc => acc = ((ways8.take k).map fun p => zD (negZ p)).map D.d) stay_d ?_ ?_ rfl
  · rintro i z acc ez rfl
    rw [List.map_map, List.getElem?_map, Option.map_eq_some_iff] at ez
    obtain ⟨p, e1, rfl⟩ := ez
    have hi : i < 8 := (List.getElem?_eq_some_iff.1 e1).1
    refine ⟨[some (.loc 1), some (.d (.tuple [.int 0, .int 0])), some (.d (.int 9)), some (.d (.int 3)), some (.d (.list (ways8.map zD))), some (.d (.int p.1)), some (.d (.int p.2)), none, none, none, none, none, none, none], true, rfl, fun P q => q, fun _ => ⟨.d (zD (negZ p)), fun P q => ?_, ?_, ?_⟩, fun e => by cases e⟩
    · repeat' array_get_dec
      exact q
    · simp only [List.length_map, List.length_take]
      omega
    · rw [List.take_succ, e1]
      simp
  · rintro acc rfl
    refine ⟨(ways8.map fun p => zD (negZ p)), allD_of _, ?_⟩
    repeat' array_get_dec
    refine i_addLLe (rs := RG.ways.map zD) rfl (by decide) ?_
    repeat' array_get_dec
    refine ⟨by decide, by decide, ?_⟩
    refine for_ind (fun q ρ h' => Dl h' ∧ ∃ ks, Pl q ks ∧ ∃ z5 z6 z8 z9 z10 z11 z12 z13, ρ = [some (.loc 1), some (.d (.tuple [.int 0, .int 0])), some (.d (.int 9)), some (.d (.int 3)), some (.d (.list (RG.ways.map zD))), z5, z6, some (.d (.list (natsD ks))), z8, z9, z10, z11, z12, z13]) ?_ ?_ ⟨dh, [], ⟨List.Pairwise.nil, by simp, fun r h => by omega, by simp⟩, _, _, _, _, _, _, _, _, rfl⟩
    · rintro q x ρ h' G ex ⟨dh, ks, pl, z5, z6, z8, z9, z10, z11, z12, z13, rfl⟩ hG
      obtain ⟨hq, rfl⟩ := range_get (n := 4) ex
      refine ⟨_, rfl, ?_⟩
      show (sSeq _ _) [some (.loc 1), some (.d (.tuple [.int 0, .int 0])), some (.d (.int 9)), some (.d (.int 3)), some (.d (.list (RG.ways.map zD))), z5, z6, some (.d (.list (natsD ks))), some (.d (.int (q : Nat))), z9, z10, z11, z12, z13] _ _
      repeat' array_get_dec
      refine i_lcv ?_
      repeat' array_get_dec
      refine dl_any (by decide) (by decide) dh fun v h1 v0 v1 dh => ?_
      obtain ⟨rest, d, nr⟩ := dh
      repeat' array_get_dec
      refine ⟨by omega, by omega, ?_⟩
      refine lcd_ind d (nr _) (fun k acc => ∃ ns : List Int, ns.length = k ∧ (∀ n ∈ ns, 4 * (q : Int) ≤ n ∧ n < 4 * q + 4) ∧ acc = ns.map PyData.int) (fun _ => trivial) ?_ ?_ ⟨[], rfl, by simp, rfl⟩
      · rintro k x acc h2 G2 ex2 ⟨ns, hl, hr, rfl⟩ d2 hG2
        obtain ⟨hk, rfl⟩ := range_get ex2
        refine ⟨_, rfl, ?_, ?_⟩
        · rw [List.length_map, hl]
          omega
        · show fBin _ _ _ [some (.loc 1), some (.d (.tuple [.int 0, .int 0])), some (.d (.int 9)), some (.d (.int 3)), some (.d (.list (RG.ways.map zD))), z5, z6, some (.d (.list (natsD ks))), some (.d (.int (q : Nat))), z9, some (.d (.int (k : Nat))), z11, z12, z13] _ _ _
          repeat' array_get_dec
          · exact cmulw (n := 5) (by decide) (by decide) (by omega) (by decide)
          refine wp_any (by decide) (by decide) d2 fun v h3 v0 v1 d3 => ?_
          repeat' array_get_dec
          refine hG2 _ _ ⟨ns ++ [4 * (q : Int) + v], by simp [hl], ?_, by simp⟩ d3
          intro x hx
          rw [List.mem_append, List.mem_singleton] at hx
          rcases hx with hx | rfl
          · exact hr x hx
          · constructor <;> omega
      · rintro acc h2 ⟨ns, hl, hr, rfl⟩ d2
        have hn : 0 < ns.length := by
          rw [hl]
          unfold rangeD
          rw [List.length_map, List.length_range]
          omega
        repeat' array_get_dec
        refine i_lcv ?_
        repeat' array_get_dec
        · exact cmulw (n := 5) (by decide) (by decide) (by omega) (by decide)
        · exact cmulw (n := 5) (by decide) (by decide) (by omega) (by decide)
        refine ⟨by omega, ?_⟩
        have e4 : (4 * ((q : Nat) : Int) + 4 - 4 * ((q : Nat) : Int)).toNat = 4 := by omega
        rw [e4]
        refine lcv_ind (hb := h2) (fun k acc => acc = (natsD (sel ns q k)).map D.d) (fun _ => trivial) ?_ ?_ rfl
        · rintro i x acc ex3 rfl
          obtain ⟨hi, rfl⟩ := range_getA ex3
          have ea : 4 * ((q : Nat) : Int) + ((i : Nat) : Int) = ((4 * q + i : Nat) : Int) := by omega
          rw [ea]
          refine ⟨_, decide (((4 * q + i : Nat) : Int) ∈ ns), rfl, fun P k => ?_, fun hb => ⟨.d (.int ((4 * q + i : Nat) : Int)), fun P k => ?_, ?_, ?_⟩, fun hb => ?_⟩
          · show tVal _ [some (.loc 1), some (.d (.tuple [.int 0, .int 0])), some (.d (.int 9)), some (.d (.int 3)), some (.d (.list (RG.ways.map zD))), z5, z6, some (.d (.list (natsD ks))), some (.d (.int (q : Nat))), some (.d (.list (ns.map PyData.int))), z10, some (.d (.int ((4 * q + i : Nat) : Int))), z12, z13] _ _ _
            repeat' array_get_dec
            refine in_int ?_
            repeat' array_get_dec
            exact k
          · show fVar _ [_, _, _, _, _, _, _, _, _, _, _, some (.d (.int ((4 * q + i : Nat) : Int))), _, _] _ _ _
            exact i_var (by repeat constructor) k
          · rw [List.length_map, List.length_map]
            have := sel_len ns q i
            omega
          · rw [sel_succ, if_pos (of_decide_eq_true hb)]
            simp
          · rw [sel_succ, if_neg (of_decide_eq_false hb), List.append_nil]
        · rintro acc rfl
          refine ⟨natsD (sel ns q (rangeD (4 * ((q : Nat) : Int)) 4).length), allD_of _, ?_⟩
          have e5 : (rangeD (4 * ((q : Nat) : Int)) 4).length = 4 := by simp [rangeD]
          rw [e5]
          repeat' array_get_dec
          refine i_addLLe (rs := natsD (ks ++ sel ns q 4)) (by rw [natsD, natsD, natsD, List.map_append]) (by rw [List.length_map, List.length_append]; have := sel_len ns q 4; have := pl.few; omega) ?_
          repeat' array_get_dec
          exact ⟨trivial, hG _ _ ⟨⟨rest, d2, nr⟩, _, pl.next hn hr, _, _, _, _, _, _, _, _, rfl⟩⟩
    · rintro ρ h' ⟨dh, ks, pl, z5, z6, z8, z9, z10, z11, z12, z13, rfl⟩
      have e4 : (rangeD 0 (4 : Int).toNat).length = 4 := range_len
      rw [e4] at pl
      obtain ⟨rest, d, nr⟩ := dh
      have few := pl.few
      repeat' array_get_dec
      refine i_loc ?_
      array_get_dec
      refine ⟨by show 0 ≤ sizeLine; omega, ?_⟩
      repeat' array_get_dec
      refine i_iseq (xs := (natsD ks).map D.d) (by repeat constructor) rfl ?_
      have dl := d.len
      rw [dl]
      refine for_ind (fun i ρ h2 => ∃ fs : List Int, fs.length = i ∧ (∀ f ∈ fs, 1 ≤ f ∧ f ≤ 9) ∧ Deal (rest ++ [.lst (((List.zipWith RG.ray fs (ks.take i)).map zD).map D.d)]) h2 ∧ ∃ z11 z13, ρ = [some (.loc 1), some (.d (.tuple [.int 0, .int 0])), some (.d (.int 9)), some (.d (.int 3)), some (.d (.list (RG.ways.map zD))), z5, z6, some (.d (.list (natsD ks))), z8, z9, z10, z11, some (.loc (rest.length + 2)), z13]) ?_ ?_ ⟨[], rfl, by simp, d.snoc _, _, _, rfl⟩
      · rintro i x ρ h2 G ex ⟨fs, hl, hf, d2, z11, z13, rfl⟩ hG
        rw [List.map_map, List.getElem?_map, Option.map_eq_some_iff] at ex
        obtain ⟨c, e1, rfl⟩ := ex
        obtain ⟨hi, e2⟩ := List.getElem?_eq_some_iff.1 e1
        have c16 : c < 16 := pl.lt c (List.mem_of_getElem? e1)
        refine ⟨_, rfl, ?_⟩
        show (sSeq _ _) [some (.loc 1), some (.d (.tuple [.int 0, .int 0])), some (.d (.int 9)), some (.d (.int 3)), some (.d (.list (RG.ways.map zD))), z5, z6, some (.d (.list (natsD ks))), z8, z9, z10, some (.d (.int (c : Nat))), some (.loc (rest.length + 2)), z13] _ _
        repeat' array_get_dec
        refine wp_any (by decide) (by decide) d2 fun v h3 v0 v1 d3 => ?_
        repeat' array_get_dec
        refine appK_loc (d3.at' List.getElem?_concat_length) ?_
        have ws := wy_small c
        repeat' array_get_dec
        refine i_ix rfl (at_nat (wy_get c16)) ?_
        repeat' array_get_dec
        · exact cmulw (n := 5) (by decide) (by omega) (by omega) (by decide)
        refine i_ix rfl (at_nat (wy_get c16)) ?_
        repeat' array_get_dec
        · exact cmulw (n := 5) (by decide) (by omega) (by omega) (by decide)
        refine ⟨_, _, rfl, d3.at' List.getElem?_concat_length, ?_, ?_⟩
        · simp only [List.length_map, List.length_zipWith, List.length_take]
          omega
        · refine ⟨trivial, hG _ _ ⟨fs ++ [1 + v], by simp [hl], ?_, ?_, _, _, rfl⟩⟩
          · intro f hf'
            rw [List.mem_append, List.mem_singleton] at hf'
            rcases hf' with hf' | rfl
            · exact hf f hf'
            · constructor <;> omega
          · have := d3.put rest.length (.lst (((List.zipWith RG.ray fs (ks.take i)).map zD).map D.d ++ [.d (.tuple [.int (0 + (1 + v) * (RG.wy c).1), .int (0 + (1 + v) * (RG.wy c).2)])]))
            rw [List.set_append_right _ _ (Nat.le_refl _), Nat.sub_self, List.set_cons_zero] at this
            have ez : List.zipWith RG.ray (fs ++ [1 + v]) (ks.take (i + 1)) = List.zipWith RG.ray fs (ks.take i) ++ [RG.ray (1 + v) c] := by
              rw [List.take_add_one, e1]
              show List.zipWith RG.ray (fs ++ [1 + v]) (ks.take i ++ [c]) = _
              rw [List.zipWith_append (by rw [List.length_take]; omega)]
              rfl
            rw [ez, List.map_append, List.map_append]
            simp only [Int.zero_add] at this ⊢
            exact this
      · rintro ρ h2 ⟨fs, hl, hf, d2, z11, z13, rfl⟩
        rw [List.length_map, List.length_map] at hl d2
        rw [List.take_length] at d2
        repeat' array_get_dec
        refine i_tupLoc (d2.at' List.getElem?_concat_length) ?_
        refine k _ _ ⟨RG.starL hl (fun f m => by have := hf f m; omega) pl.asc (fun k m => pl.lt k m) (fun q hq => pl.each q hq), ?_, ?_⟩ ⟨_, d2, nr.app (NoR.data _)⟩
        · intro p hp
          obtain ⟨j, hj, rfl⟩ := List.mem_iff_getElem.1 hp
          rw [List.getElem_zipWith]
          have f1 := hf _ (List.getElem_mem (by rw [List.length_zipWith] at hj; omega : j < fs.length))
          generalize fs[j]'(by rw [List.length_zipWith] at hj; omega) = f at f1
          generalize ks[j]'(by rw [List.length_zipWith] at hj; omega) = c
          have ws := wy_small c
          unfold RG.ray
          have : ∀ w : Int, -2 ≤ w → w ≤ 2 → -18 ≤ f * w ∧ f * w ≤ 18 := by
            intro w h1 h2
            have : w = -2 ∨ w = -1 ∨ w = 0 ∨ w = 1 ∨ w = 2 := by omega
            rcases this with rfl | rfl | rfl | rfl | rfl <;> omega
          have t1 := this _ ws.1.1 ws.1.2
          have t2 := this _ ws.2.1 ws.2.2
          exact ⟨⟨by dsimp only; omega, by dsimp only; omega⟩, ⟨by dsimp only; omega, by dsimp only; omega⟩⟩
        · rw [List.length_zipWith]
          omega
end
end LW
set_option Elab.async false
set_option linter.all false
set_option maxRecDepth 100000
set_option maxHeartbeats 40000000
namespace LW
open PySem PySem.Spec PyProof.Rows L2 V2
local macro_rules | `(tactic| array_get_dec) => `(tactic| with_reducible refine i_go (by assumption) ?_)
local macro_rules | `(tactic| array_get_dec) => `(tactic| with_reducible refine i_next ?_)
local macro_rules | `(tactic| array_get_dec) => `(tactic| with_reducible refine i_isr2 ?_)
local macro_rules | `(tactic| array_get_dec) => `(tactic| with_reducible refine i_range2 ?_)
local macro_rules | `(tactic| array_get_dec) => `(tactic| with_reducible refine i_range1 ?_)
local macro_rules | `(tactic| array_get_dec) => `(tactic| with_reducible refine i_for ?_)
local macro_rules | `(tactic| array_get_dec) => `(tactic| with_reducible refine i_brk ?_)
local macro_rules | `(tactic| array_get_dec) => `(tactic| with_reducible refine i_zip2 ?_)
local macro_rules | `(tactic| array_get_dec) => `(tactic| with_reducible refine i_enum1 ?_)
local macro_rules | `(tactic| array_get_dec) => `(tactic| with_reducible refine i_one ?_)
local macro_rules | `(tactic| array_get_dec) => `(tactic| with_reducible refine i_raise ?_)
local macro_rules | `(tactic| array_get_dec) => `(tactic| with_reducible refine i_sub ?_)
local macro_rules | `(tactic| array_get_dec) => `(tactic| with_reducible refine i_append ?_)
local macro_rules | `(tactic| array_get_dec) => `(tactic| with_reducible refine i_pop ?_)
local macro_rules | `(tactic| array_get_dec) => `(tactic| with_reducible refine i_drop ?_)
local macro_rules | `(tactic| array_get_dec) => `(tactic| with_reducible refine i_len (by with_unfolding_all exact rfl) ?_)
local macro_rules | `(tactic| array_get_dec) => `(tactic| with_reducible refine i_notN ?_)
local macro_rules | `(tactic| array_get_dec) => `(tactic| with_reducible refine i_isN ?_)
local macro_rules | `(tactic| array_get_dec) => `(tactic| with_reducible refine i_min2 ?_)
local macro_rules | `(tactic| array_get_dec) => `(tactic| with_reducible refine i_max2 ?_)
local macro_rules | `(tactic| array_get_dec) => `(tactic| with_reducible refine i_chain ?_)
local macro_rules | `(tactic| array_get_dec) => `(tactic| with_reducible refine i_lcm3 ?_ ?_)
local macro_rules | `(tactic| array_get_dec) => `(tactic| with_reducible refine i_gcd ?_)
local macro_rules | `(tactic| array_get_dec) => `(tactic| with_reducible refine i_toint ?_)
local macro_rules | `(tactic| array_get_dec) => `(tactic| with_reducible refine i_abs ?_)
local macro_rules | `(tactic| array_get_dec) => `(tactic| with_reducible refine i_pk4 ?_)
local macro_rules | `(tactic| array_get_dec) => `(tactic| with_reducible refine i_pk3 ?_)
local macro_rules | `(tactic| array_get_dec) => `(tactic| with_reducible refine i_pk2 ?_)
local macro_rules | `(tactic| array_get_dec) => `(tactic| with_reducible refine i_pk1 ?_)
local macro_rules | `(tactic| array_get_dec) => `(tactic| with_reducible refine i_fnk ?_)
local macro_rules | `(tactic| array_get_dec) => `(tactic| with_reducible refine i_fn ?_)
local macro_rules | `(tactic| array_get_dec) => `(tactic| with_reducible refine i_call ?_)
local macro_rules | `(tactic| array_get_dec) => `(tactic| with_reducible refine i_ix (by with_unfolding_all exact rfl) (by with_unfolding_all exact rfl) ?_)
local macro_rules | `(tactic| array_get_dec) => `(tactic| with_reducible refine i_ix (by assumption) (by with_unfolding_all exact rfl) ?_)
local macro_rules | `(tactic| array_get_dec) => `(tactic| with_reducible refine i_all (by repeat constructor) (by with_unfolding_all exact Nat.le_of_ble_eq_true rfl) ?_)
local macro_rules | `(tactic| array_get_dec) => `(tactic| with_reducible refine i_lst ?_)
local macro_rules | `(tactic| array_get_dec) => `(tactic| with_reducible refine i_tup ?_)
local macro_rules | `(tactic| array_get_dec) => `(tactic| with_reducible refine i_zipL ?_)
local macro_rules | `(tactic| array_get_dec) => `(tactic| with_reducible refine i_slP ?_)
local macro_rules | `(tactic| array_get_dec) => `(tactic| with_reducible refine i_subB ?_)
local macro_rules | `(tactic| array_get_dec) => `(tactic| with_reducible refine i_notB ?_)
local macro_rules | `(tactic| array_get_dec) => `(tactic| with_reducible refine i_minT2 ?_)
local macro_rules | `(tactic| array_get_dec) => `(tactic| with_reducible refine i_maxT2 ?_)
local macro_rules | `(tactic| array_get_dec) => `(tactic| with_reducible refine i_listT ?_)
local macro_rules | `(tactic| array_get_dec) => `(tactic| with_reducible refine i_tupL ?_)
local macro_rules | `(tactic| array_get_dec) => `(tactic| with_reducible refine rvL ?_)
local macro_rules | `(tactic| array_get_dec) => `(tactic| with_reducible refine i_rev ?_)
local macro_rules | `(tactic| array_get_dec) => `(tactic| with_reducible refine slL ?_)
local macro_rules | `(tactic| array_get_dec) => `(tactic| with_reducible refine slT ?_)
local macro_rules | `(tactic| array_get_dec) => `(tactic| with_reducible refine i_oS ?_)
local macro_rules | `(tactic| array_get_dec) => `(tactic| with_reducible refine i_oN ?_)
local macro_rules | `(tactic| array_get_dec) => `(tactic| with_reducible refine i_slG ?_)
local macro_rules | `(tactic| array_get_dec) => `(tactic| with_reducible refine i_fnotG ?_)
local macro_rules | `(tactic| array_get_dec) => `(tactic| with_reducible refine i_forG ?_)
local macro_rules | `(tactic| array_get_dec) => `(tactic| with_reducible refine i_fand ?_)
local macro_rules | `(tactic| array_get_dec) => `(tactic| with_reducible refine i_fif ?_)
local macro_rules | `(tactic| array_get_dec) => `(tactic| with_reducible refine i_not2 ?_)
local macro_rules | `(tactic| array_get_dec) => `(tactic| with_reducible refine i_or2 ?_)
local macro_rules | `(tactic| array_get_dec) => `(tactic| with_reducible refine i_and2 ?_)
local macro_rules | `(tactic| array_get_dec) => `(tactic| with_reducible refine i_isr ?_)
local macro_rules | `(tactic| array_get_dec) => `(tactic| with_reducible refine i_isi ?_)
local macro_rules | `(tactic| array_get_dec) => `(tactic| with_reducible refine i_isb ?_)
local macro_rules | `(tactic| array_get_dec) => `(tactic| with_reducible refine i_val ?_)
local macro_rules | `(tactic| array_get_dec) => `(tactic| with_reducible refine i_un ?_)
local macro_rules | `(tactic| array_get_dec) => `(tactic| with_reducible refine i_nes ?_)
local macro_rules | `(tactic| array_get_dec) => `(tactic| with_reducible refine i_nesr ?_)
local macro_rules | `(tactic| array_get_dec) => `(tactic| with_reducible refine i_eqs ?_)
local macro_rules | `(tactic| array_get_dec) => `(tactic| with_reducible refine i_eqsr ?_)
local macro_rules | `(tactic| array_get_dec) => `(tactic| with_reducible refine i_nei ?_)
local macro_rules | `(tactic| array_get_dec) => `(tactic| with_reducible refine i_eqi ?_)
local macro_rules | `(tactic| array_get_dec) => `(tactic| with_reducible refine i_add ?_)
local macro_rules | `(tactic| array_get_dec) => `(tactic| with_reducible refine i_ints ?_ ?_)
local macro_rules | `(tactic| array_get_dec) => `(tactic| with_reducible refine i_ints0 ?_)
local macro_rules | `(tactic| array_get_dec) => `(tactic| with_reducible refine i_bin ?_)
local macro_rules | `(tactic| array_get_dec) => `(tactic| with_reducible refine i_nil ?_)
local macro_rules | `(tactic| array_get_dec) => `(tactic| with_reducible refine i_cons ?_)
local macro_rules | `(tactic| array_get_dec) => `(tactic| with_reducible refine i_c ?_)
local macro_rules | `(tactic| array_get_dec) => `(tactic| with_reducible refine i_var (by repeat constructor) ?_)
local macro_rules | `(tactic| array_get_dec) => `(tactic| with_reducible refine i_if ?_)
local macro_rules | `(tactic| array_get_dec) => `(tactic| with_reducible refine i_ret ?_)
local macro_rules | `(tactic| array_get_dec) => `(tactic| with_reducible refine i_trip (by repeat constructor) (by repeat constructor) (by repeat constructor) ?_)
local macro_rules | `(tactic| array_get_dec) => `(tactic| with_reducible refine i_par3 ?_ (by with_unfolding_all exact Nat.le_of_ble_eq_true rfl) (by with_unfolding_all exact Nat.le_of_ble_eq_true rfl) (by with_unfolding_all exact Nat.le_of_ble_eq_true rfl))
local macro_rules | `(tactic| array_get_dec) => `(tactic| with_reducible refine i_pair (by repeat constructor) (by repeat constructor) ?_)
local macro_rules | `(tactic| array_get_dec) => `(tactic| with_reducible refine i_par ?_ (by with_unfolding_all exact Nat.le_of_ble_eq_true rfl) (by with_unfolding_all exact Nat.le_of_ble_eq_true rfl))
local macro_rules | `(tactic| array_get_dec) => `(tactic| with_reducible refine i_set (by repeat constructor) ?_)
local macro_rules | `(tactic| array_get_dec) => `(tactic| with_reducible refine i_asgn ?_ (by with_unfolding_all exact Nat.le_of_ble_eq_true rfl))
local macro_rules | `(tactic| array_get_dec) => `(tactic| with_reducible refine i_asg2v (by repeat constructor) (by repeat constructor) (by repeat constructor) ?_)
local macro_rules | `(tactic| array_get_dec) => `(tactic| with_reducible refine i_seqg (fun _ _ => ?_))

local macro_rules
  | `(tactic| decreasing_trivial_pre_omega) => `(tactic| (apply cmB; (repeat' (first | assumption | apply Bd.add | apply Bd.sub | apply Bd.mul | apply Bd.neg)); decide))

open RG (Zp cor)
/-! middles put in -/
theorem mids_one {a b : Zp} {r q : List Zp} (h : RG.Mids a r q) : RG.Mids a (r ++ [b]) (q ++ [b]) := by
  induction h with
  | nil => exact .one .nil
  | one _ ih => exact .one ih
  | two hm _ ih => exact .two hm ih
theorem mids_two {a b m : Zp} {r q : List Zp} (h : RG.Mids a r q) (hm : RG.Mid ((a :: r).getLast (by simp)) b m) : RG.Mids a (r ++ [b]) (q ++ [m, b]) := by
  induction h with
  | nil => exact .two hm .nil
  | one _ ih => exact .one (ih (by simpa using hm))
  | two hm' _ ih => exact .two hm' (ih (by simpa using hm))
theorem mids_len {a : Zp} {r q : List Zp} (h : RG.Mids a r q) : q.length ≤ 2 * r.length := by
  induction h with
  | nil => simp
  | one _ ih => simp only [List.length_cons]; omega
  | two _ _ ih => simp only [List.length_cons]; omega
theorem mids_pos {a : Zp} {r q : List Zp} (h : RG.Mids a r q) (hr : 0 < r.length) : 0 < q.length := by
  cases h with
  | nil => simp at hr
  | one _ => simp
  | two _ _ => simp
theorem last_take {L : List Zp} {i : Nat} (h : i < L.length) : ((cor L (L.length - 1)) :: L.take i).getLast (by simp) = cor L (i + L.length - 1) := by
  by_cases c : i = 0
  · subst c
    simp
  · have hne : L.take i ≠ [] := by
      intro e
      have : (L.take i).length = 0 := by rw [e]; rfl
      rw [List.length_take] at this
      omega
    rw [List.getLast_cons hne, List.getLast_eq_getElem]
    have e2 : i + L.length - 1 = (i - 1) + L.length := by omega
    rw [e2, RG.cor_per, RG.cor_lt (by omega)]
    rw [List.getElem_take]
    have e3 : (L.take i).length - 1 = i - 1 := by rw [List.length_take]; omega
    simp only [e3]
section
variable {h : Ho} {Q : KD} {E : XD}
theorem wp_more {L : List Zp} (g : Rg 20 L) (dh : Dl h) (k : ∀ M h', Rg 40 M → Dl h' → Q (.d (rD M)) h') : M__law_more [.loc 1, .d (rD L)] h Q E := by
  have sz : sizeLine = 2 ^ 24 := rfl
  have h3 := g.ring.pos
  have few := g.few
  have gb : ∀ i, InR 300 (cor L i) := fun i => g.near _ (cor_mem (by omega) i)
  obtain ⟨rest, d, nr⟩ := dh
  refine i_mir rfl (by repeat constructor) (by repeat constructor) ?_
  unfold B__law_more
  repeat' array_get_dec
  refine i_loc ?_
  array_get_dec
  refine ⟨by show 0 ≤ sizeLine; omega, ?_⟩
  repeat' array_get_dec
  rw [List.length_map, List.length_map, d.len]
  refine ⟨by omega, by omega, ?_⟩
  refine for_ind (fun i ρ h2 => ∃ q : List Zp, RG.Mids (cor L (L.length - 1)) (L.take i) q ∧ (∀ p ∈ q, InR 300 p) ∧ Deal (rest ++ [.lst ((q.map zD).map D.d)]) h2 ∧ ∃ z3 z4 z5, ρ = [some (.loc 1), some (.d (rD L)), some (.loc (rest.length + 2)), z3, z4, z5]) ?_ ?_ ⟨[], .nil, by simp, d.snoc _, _, _, _, rfl⟩
  · rintro i x ρ h2 G ex ⟨q, hm, hq, d2, z3, z4, z5, rfl⟩ hG
    obtain ⟨hi, rfl⟩ := range_get ex
    rw [Int.toNat_natCast] at hi
    have ql := mids_len hm
    rw [List.length_take] at ql
    refine ⟨_, rfl, ?_⟩
    show (sSeq _ _) [some (.loc 1), some (.d (rD L)), some (.loc (rest.length + 2)), some (.d (.int (i : Nat))), z4, z5] _ _
    have v1 : L2.atI ((L.map zD).map D.d) (((i : Nat) : Int) - 1) = some (.d (zD (cor L (i + L.length - 1)))) := by
      rw [at_cor (by omega) (by omega), show (((i : Nat) : Int) - 1 + L.length).toNat = i + L.length - 1 by omega]
    have v0 : L2.atI ((L.map zD).map D.d) ((i : Nat) : Int) = some (.d (zD (cor L i))) := by
      rw [at_cor (by omega) (by omega), show (((i : Nat) : Int) + L.length).toNat = i + L.length by omega, RG.cor_per]
    have tk : L.take (i + 1) = L.take i ++ [cor L i] := by
      rw [List.take_add_one, List.getElem?_eq_getElem hi, RG.cor_lt hi]; rfl
    have lt := last_take hi
    have ga := gb (i + L.length - 1)
    have gbb := gb i
    generalize cor L (i + L.length - 1) = a at v1 lt ga
    generalize cor L i = b at v0 tk gbb
    repeat' array_get_dec
    refine i_ix rfl v1 ?_
    repeat' array_get_dec
    refine i_ix rfl v0 ?_
    array_get_dec
    array_get_dec
    array_get_dec
    refine i_cutg (fun ρ' h3 => ∃ q' : List Zp, RG.Mids (cor L (L.length - 1)) (L.take (i + 1)) (q' ++ [b]) ∧ (∀ p ∈ q', InR 300 p) ∧ q'.length ≤ 41 ∧ Deal (rest ++ [.lst ((q'.map zD).map D.d)]) h3 ∧ ρ' = [some (.loc 1), some (.d (rD L)), some (.loc (rest.length + 2)), some (.d (.int (i : Nat))), some (.d (zD a)), some (.d (zD b))]) ?tail ?work
    case work =>
      intro nx' tl
      have plain : ∀ h3, Deal (rest ++ [.lst ((q.map zD).map D.d)]) h3 → nx' [some (.loc 1), some (.d (rD L)), some (.loc (rest.length + 2)), some (.d (.int (i : Nat))), some (.d (zD a)), some (.d (zD b))] h3 := fun h3 d3 =>
        tl _ _ ⟨q, by rw [tk]; exact mids_one hm, hq, by omega, d3, rfl⟩
      repeat' array_get_dec
      · decide
      refine i_ite (fun x => ?_) (fun x => ?_)
      · have x := of_decide_eq_true x
        repeat' array_get_dec
        · decide
        refine i_ite (fun y => ?_) (fun y => ?_)
        · have y := of_decide_eq_true y
          repeat' array_get_dec
          refine wp_any (by decide) (by decide) d2 fun v h3 v0' v1' d3 => ?_
          repeat' array_get_dec
          refine i_ite (fun z => ?_) (fun z => ?_)
          · repeat' array_get_dec
            refine appK_loc (d3.at' List.getElem?_concat_length) ?_
            repeat' array_get_dec
            · exact ⟨by decide, by decide⟩
            · exact ⟨by decide, by decide⟩
            refine ⟨_, _, rfl, d3.at' List.getElem?_concat_length, ?_, ?_⟩
            · simp only [List.length_map]
              omega
            · have := d3.put rest.length (.lst ((q.map zD).map D.d ++ [.d (.tuple [.int ((a.1 + b.1).fdiv 2), .int ((a.2 + b.2).fdiv 2)])]))
              rw [List.set_append_right _ _ (Nat.le_refl _), Nat.sub_self, List.set_cons_zero] at this
              have f1 : (a.1 + b.1).fdiv 2 = (a.1 + b.1) / 2 := Int.fdiv_eq_ediv_of_nonneg _ (by decide)
              have f2 : (a.2 + b.2).fdiv 2 = (a.2 + b.2) / 2 := Int.fdiv_eq_ediv_of_nonneg _ (by decide)
              refine tl _ _ ⟨q ++ [((a.1 + b.1) / 2, (a.2 + b.2) / 2)], ?_, ?_, ?_, ?_, rfl⟩
              · rw [tk, List.append_assoc]
                refine mids_two hm ?_
                rw [lt]
                exact ⟨by dsimp only; omega, by dsimp only; omega⟩
              · intro p hp
                rw [List.mem_append, List.mem_singleton] at hp
                rcases hp with hp | rfl
                · exact hq p hp
                · have := ga.1; have := ga.2; have := gbb.1; have := gbb.2
                  exact ⟨by dsimp only; omega, by dsimp only; omega⟩
              · rw [List.length_append, List.length_singleton]
                omega
              · rw [List.map_append, List.map_append]
                rw [f1, f2] at this ⊢
                exact this
          · repeat' array_get_dec
            exact plain _ d3
        · refine i_ifF rfl ?_
          repeat' array_get_dec
          exact plain _ d2
      · refine i_ifF rfl ?_
        repeat' array_get_dec
        exact plain _ d2
    case tail =>
    rintro ρ h3 ⟨q', hm', hq', hl', d3, rfl⟩
    repeat' array_get_dec
    refine appK_loc (d3.at' List.getElem?_concat_length) ?_
    repeat' array_get_dec
    refine ⟨_, _, rfl, d3.at' List.getElem?_concat_length, ?_, ?_⟩
    · simp only [List.length_map]
      omega
    · have := d3.put rest.length (.lst ((q'.map zD).map D.d ++ [.d (zD b)]))
      rw [List.set_append_right _ _ (Nat.le_refl _), Nat.sub_self, List.set_cons_zero] at this
      refine ⟨trivial, hG _ _ ⟨q' ++ [b], hm', ?_, ?_, _, _, _, rfl⟩⟩
      · intro p hp
        rw [List.mem_append, List.mem_singleton] at hp
        rcases hp with hp | rfl
        · exact hq' p hp
        · exact gbb
      · rw [List.map_append, List.map_append]
        exact this
  · rintro ρ h2 ⟨q, hm, hq, d2, z3, z4, z5, rfl⟩
    rw [Int.toNat_natCast, range_len, List.take_length] at hm
    have ql := mids_len hm
    have qp := mids_pos hm (by omega)
    have e : V2.items h2 (.loc (rest.length + 2)) = some ((q.map zD).map D.d) := d2.items List.getElem?_concat_length
    repeat' array_get_dec
    refine i_len e ?_
    repeat' array_get_dec
    rw [List.length_map, List.length_map]
    refine wp_any (by omega) (by omega) d2 fun v h3 v0 v1 d3 => ?_
    obtain ⟨t, rfl⟩ : ∃ t : Nat, v = t := ⟨v.toNat, by omega⟩
    repeat' array_get_dec
    refine slP (d3.at' List.getElem?_concat_length) ?_
    repeat' array_get_dec
    refine slP (d3.at' List.getElem?_concat_length) ?_
    repeat' array_get_dec
    rw [cut_n0, cut_0n]
    refine i_addLLe (rs := (q.drop t ++ q.take t).map zD) (by rw [List.map_append, List.map_drop, List.map_take]) (by simp only [List.length_map, List.length_append, List.length_drop, List.length_take]; omega) ?_
    repeat' array_get_dec
    refine k _ _ ⟨(g.ring.mids hm).begun t (by omega), fun p hp => ?_, ?_⟩ ⟨_, d3, nr.app (NoR.data _)⟩
    · rw [List.mem_append] at hp
      rcases hp with hp | hp
      · exact hq p (List.mem_of_mem_drop hp)
      · exact hq p (List.mem_of_mem_take hp)
    · simp only [List.length_append, List.length_drop, List.length_take]
      omega
theorem rg_mv {L : List Zp} {a b c d r u : Int} (m : Mv a b c d r u) (g : Rs L) :
    Rg 20 (if a * d - b * c > 0 then L.map (RG.mv a b c d r u) else (L.map (RG.mv a b c d r u)).reverse) := by
  obtain ⟨h0, ha, hb, hc, hd, hr, hu⟩ := m
  have near : ∀ p ∈ L.map (RG.mv a b c d r u), InR 300 p := by
    intro p hp
    obtain ⟨q, hq, rfl⟩ := List.mem_map.1 hp
    have hq := g.near q hq
    unfold In8 at hq
    have ea : a = -2 ∨ a = -1 ∨ a = 0 ∨ a = 1 ∨ a = 2 := by omega
    have eb : b = -1 ∨ b = 0 ∨ b = 1 := by omega
    have ec : c = -1 ∨ c = 0 ∨ c = 1 := by omega
    have ed : d = -1 ∨ d = 0 ∨ d = 1 := by omega
    unfold RG.mv
    constructor
    · dsimp only
      rcases ea with rfl | rfl | rfl | rfl | rfl <;> rcases eb with rfl | rfl | rfl <;> omega
    · dsimp only
      rcases ec with rfl | rfl | rfl <;> rcases ed with rfl | rfl | rfl <;> omega
  have few := g.few
  have mvd := g.ring.moved (r := r) (t := u) h0
  split
  · exact ⟨mvd, near, by rw [List.length_map]; exact few⟩
  · exact ⟨mvd.turned, fun p hp => near p (List.mem_reverse.1 hp), by rw [List.length_reverse, List.length_map]; exact few⟩
theorem wp_ring (dh : Dl h) (k : ∀ M h', Rg 40 M → Dl h' → Q (.d (rD M)) h') : M__law_ring [.loc 1] h Q E := by
  refine i_mir rfl (by repeat constructor) (by repeat constructor) ?_
  unfold B__law_ring
  refine i_cutg (fun ρ' h' => Dl h' ∧ ∃ L, Rs L ∧ ρ' = [some (.loc 1), some (.d (rD L))]) ?tail ?work
  case work =>
    intro nx' tl
    repeat' array_get_dec
    refine dl_any (by decide) (by decide) dh fun v h1 v0 v1 dh => ?_
    repeat' array_get_dec
    refine i_ite (fun x => ?_) (fun x => ?_)
    · repeat' array_get_dec
      refine wp_star dh fun L h2 g dh => ?_
      repeat' array_get_dec
      exact tl _ _ ⟨dh, L, g, rfl⟩
    · repeat' array_get_dec
      refine dl_any (by decide) (by decide) dh fun v h1 v0 v1 dh => ?_
      obtain ⟨t, rfl⟩ : ∃ t : Nat, v = t := ⟨v.toNat, by omega⟩
      repeat' array_get_dec
      rw [show (2 : Int) + (t : Nat) = ((2 + t : Nat) : Int) by omega]
      refine wp_wave (by omega) (by omega) dh fun L h2 g dh => ?_
      repeat' array_get_dec
      exact tl _ _ ⟨dh, L, g, rfl⟩
  case tail =>
  rintro ρ h' ⟨dh, L, g, rfl⟩
  repeat' array_get_dec
  refine wp_map dh fun a b c d r u h2 m dh => ?_
  repeat' array_get_dec
  refine wp_put m (fun p hp => ?_) (Nat.le_trans g.few (by decide)) ?_
  · have := g.near p hp
    unfold In8 at this
    unfold InR
    omega
  repeat' array_get_dec
  exact wp_more (rg_mv m g) dh k
end
end LW
set_option Elab.async false
set_option linter.all false
set_option maxRecDepth 100000
set_option maxHeartbeats 40000000
namespace LW
open PySem PySem.Spec PyProof.Rows L2 V2
local macro_rules | `(tactic| array_get_dec) => `(tactic| with_reducible refine i_go (by assumption) ?_)
local macro_rules | `(tactic| array_get_dec) => `(tactic| with_reducible refine i_next ?_)
local macro_rules | `(tactic| array_get_dec) => `(tactic| with_reducible refine i_isr2 ?_)
local macro_rules | `(tactic| array_get_dec) => `(tactic| with_reducible refine i_range2 ?_)
local macro_rules | `(tactic| array_get_dec) => `(tactic| with_reducible refine i_range1 ?_)
local macro_rules | `(tactic| array_get_dec) => `(tactic| with_reducible refine i_for ?_)
local macro_rules | `(tactic| array_get_dec) => `(tactic| with_reducible refine i_brk ?_)
local macro_rules | `(tactic| array_get_dec) => `(tactic| with_reducible refine i_zip2 ?_)
local macro_rules | `(tactic| array_get_dec) => `(tactic| with_reducible refine i_enum1 ?_)
local macro_rules | `(tactic| array_get_dec) => `(tactic| with_reducible refine i_one ?_)
local macro_rules | `(tactic| array_get_dec) => `(tactic| with_reducible refine i_raise ?_)
local macro_rules | `(tactic| array_get_dec) => `(tactic| with_reducible refine i_sub ?_)
local macro_rules | `(tactic| array_get_dec) => `(tactic| with_reducible refine i_append ?_)
local macro_rules | `(tactic| array_get_dec) => `(tactic| with_reducible refine i_pop ?_)
local macro_rules | `(tactic| array_get_dec) => `(tactic| with_reducible refine i_drop ?_)
local macro_rules | `(tactic| array_get_dec) => `(tactic| with_reducible refine i_len (by with_unfolding_all exact rfl) ?_)
local macro_rules | `(tactic| array_get_dec) => `(tactic| with_reducible refine i_notN ?_)
local macro_rules | `(tactic| array_get_dec) => `(tactic| with_reducible refine i_isN ?_)
local macro_rules | `(tactic| array_get_dec) => `(tactic| with_reducible refine i_min2 ?_)
local macro_rules | `(tactic| array_get_dec) => `(tactic| with_reducible refine i_max2 ?_)
local macro_rules | `(tactic| array_get_dec) => `(tactic| with_reducible refine i_chain ?_)
local macro_rules | `(tactic| array_get_dec) => `(tactic| with_reducible refine i_lcm3 ?_ ?_)
local macro_rules | `(tactic| array_get_dec) => `(tactic| with_reducible refine i_gcd ?_)
local macro_rules | `(tactic| array_get_dec) => `(tactic| with_reducible refine i_toint ?_)
local macro_rules | `(tactic| array_get_dec) => `(tactic| with_reducible refine i_abs ?_)
local macro_rules | `(tactic| array_get_dec) => `(tactic| with_reducible refine i_pk4 ?_)
local macro_rules | `(tactic| array_get_dec) => `(tactic| with_reducible refine i_pk3 ?_)
local macro_rules | `(tactic| array_get_dec) => `(tactic| with_reducible refine i_pk2 ?_)
local macro_rules | `(tactic| array_get_dec) => `(tactic| with_reducible refine i_pk1 ?_)
local macro_rules | `(tactic| array_get_dec) => `(tactic| with_reducible refine i_fnk ?_)
local macro_rules | `(tactic| array_get_dec) => `(tactic| with_reducible refine i_fn ?_)
local macro_rules | `(tactic| array_get_dec) => `(tactic| with_reducible refine i_call ?_)
local macro_rules | `(tactic| array_get_dec) => `(tactic| with_reducible refine i_ix (by with_unfolding_all exact rfl) (by with_unfolding_all exact rfl) ?_)
local macro_rules | `(tactic| array_get_dec) => `(tactic| with_reducible refine i_ix (by assumption) (by with_unfolding_all exact rfl) ?_)
local macro_rules | `(tactic| array_get_dec) => `(tactic| with_reducible refine i_all (by repeat constructor) (by with_unfolding_all exact Nat.le_of_ble_eq_true rfl) ?_)
local macro_rules | `(tactic| array_get_dec) => `(tactic| with_reducible refine i_lst ?_)
local macro_rules | `(tactic| array_get_dec) => `(tactic| with_reducible refine i_tup ?_)
local macro_rules | `(tactic| array_get_dec) => `(tactic| with_reducible refine i_zipL ?_)
local macro_rules | `(tactic| array_get_dec) => `(tactic| with_reducible refine i_slP ?_)
local macro_rules | `(tactic| array_get_dec) => `(tactic| with_reducible refine i_subB ?_)
local macro_rules | `(tactic| array_get_dec) => `(tactic| with_reducible refine i_notB ?_)
local macro_rules | `(tactic| array_get_dec) => `(tactic| with_reducible refine i_minT2 ?_)
local macro_rules | `(tactic| array_get_dec) => `(tactic| with_reducible refine i_maxT2 ?_)
local macro_rules | `(tactic| array_get_dec) => `(tactic| with_reducible refine i_listT ?_)
local macro_rules | `(tactic| array_get_dec) => `(tactic| with_reducible refine i_tupL ?_)
local macro_rules | `(tactic| array_get_dec) => `(tactic| with_reducible refine rvL ?_)
local macro_rules | `(tactic| array_get_dec) => `(tactic| with_reducible refine i_rev ?_)
local macro_rules | `(tactic| array_get_dec) => `(tactic| with_reducible refine i_oS ?_)
local macro_rules | `(tactic| array_get_dec) => `(tactic| with_reducible refine i_oN ?_)
local macro_rules | `(tactic| array_get_dec) => `(tactic| with_reducible refine i_slG ?_)
local macro_rules | `(tactic| array_get_dec) => `(tactic| with_reducible refine i_fnotG ?_)
local macro_rules | `(tactic| array_get_dec) => `(tactic| with_reducible refine i_forG ?_)
local macro_rules | `(tactic| array_get_dec) => `(tactic| with_reducible refine i_fand ?_)
local macro_rules | `(tactic| array_get_dec) => `(tactic| with_reducible refine i_fif ?_)
local macro_rules | `(tactic| array_get_dec) => `(tactic| with_reducible refine i_not2 ?_)
local macro_rules | `(tactic| array_get_dec) => `(tactic| with_reducible refine i_or2 ?_)
local macro_rules | `(tactic| array_get_dec) => `(tactic| with_reducible refine i_and2 ?_)
local macro_rules | `(tactic| array_get_dec) => `(tactic| with_reducible refine i_isr ?_)
local macro_rules | `(tactic| array_get_dec) => `(tactic| with_reducible refine i_isi ?_)
local macro_rules | `(tactic| array_get_dec) => `(tactic| with_reducible refine i_isb ?_)
local macro_rules | `(tactic| array_get_dec) => `(tactic| with_reducible refine i_val ?_)
local macro_rules | `(tactic| array_get_dec) => `(tactic| with_reducible refine i_un ?_)
local macro_rules | `(tactic| array_get_dec) => `(tactic| with_reducible refine i_nes ?_)
local macro_rules | `(tactic| array_get_dec) => `(tactic| with_reducible refine i_nesr ?_)
local macro_rules | `(tactic| array_get_dec) => `(tactic| with_reducible refine i_eqs ?_)
local macro_rules | `(tactic| array_get_dec) => `(tactic| with_reducible refine i_eqsr ?_)
local macro_rules | `(tactic| array_get_dec) => `(tactic| with_reducible refine i_nei ?_)
local macro_rules | `(tactic| array_get_dec) => `(tactic| with_reducible refine i_eqi ?_)
local macro_rules | `(tactic| array_get_dec) => `(tactic| with_reducible refine i_add ?_)
local macro_rules | `(tactic| array_get_dec) => `(tactic| with_reducible refine i_ints ?_ ?_)
local macro_rules | `(tactic| array_get_dec) => `(tactic| with_reducible refine i_ints0 ?_)
local macro_rules | `(tactic| array_get_dec) => `(tactic| with_reducible refine i_bin ?_)
local macro_rules | `(tactic| array_get_dec) => `(tactic| with_reducible refine i_nil ?_)
local macro_rules | `(tactic| array_get_dec) => `(tactic| with_reducible refine i_cons ?_)
local macro_rules | `(tactic| array_get_dec) => `(tactic| with_reducible refine i_c ?_)
local macro_rules | `(tactic| array_get_dec) => `(tactic| with_reducible refine i_var (by repeat constructor) ?_)
local macro_rules | `(tactic| array_get_dec) => `(tactic| with_reducible refine i_if ?_)
local macro_rules | `(tactic| array_get_dec) => `(tactic| with_reducible refine i_ret ?_)
local macro_rules | `(tactic| array_get_dec) => `(tactic| with_reducible refine i_trip (by repeat constructor) (by repeat constructor) (by repeat constructor) ?_)
local macro_rules | `(tactic| array_get_dec) => `(tactic| with_reducible refine i_par3 ?_ (by with_unfolding_all exact Nat.le_of_ble_eq_true rfl) (by with_unfolding_all exact Nat.le_of_ble_eq_true rfl) (by with_unfolding_all exact Nat.le_of_ble_eq_true rfl))
local macro_rules | `(tactic| array_get_dec) => `(tactic| with_reducible refine i_pair (by repeat constructor) (by repeat constructor) ?_)
local macro_rules | `(tactic| array_get_dec) => `(tactic| with_reducible refine i_par ?_ (by with_unfolding_all exact Nat.le_of_ble_eq_true rfl) (by with_unfolding_all exact Nat.le_of_ble_eq_true rfl))
local macro_rules | `(tactic| array_get_dec) => `(tactic| with_reducible refine i_set (by repeat constructor) ?_)
local macro_rules | `(tactic| array_get_dec) => `(tactic| with_reducible refine i_asgn ?_ (by with_unfolding_all exact Nat.le_of_ble_eq_true rfl))
local macro_rules | `(tactic| array_get_dec) => `(tactic| with_reducible refine i_asg2v (by repeat constructor) (by repeat constructor) (by repeat constructor) ?_)
local macro_rules | `(tactic| array_get_dec) => `(tactic| with_reducible refine i_seqg (fun _ _ => ?_))

local macro_rules
  | `(tactic| decreasing_trivial_pre_omega) => `(tactic| (apply cmB; (repeat' (first | assumption | apply Bd.add | apply Bd.sub | apply Bd.mul | apply Bd.neg)); decide))

open RG (Zp cor)
theorem pick_take {α : Type} (ys : List α) : ∀ n, n ≤ ys.length → (List.range n).filterMap (fun k => ys[k]?) = ys.take n
  | 0, _ => by simp
  | n + 1, h => by
    rw [List.range_succ, List.filterMap_append, pick_take ys n (by omega), List.take_add_one, List.getElem?_eq_getElem (by omega)]
    simp [List.getElem?_eq_getElem (show n < ys.length by omega)]
theorem fm_congr {α β : Type} {f g : α → Option β} : ∀ l : List α, (∀ x ∈ l, f x = g x) → l.filterMap f = l.filterMap g
  | [], _ => rfl
  | x :: l, h => by
    rw [List.filterMap_cons, List.filterMap_cons, h x (by simp), fm_congr l fun y hy => h y (by simp [hy])]
theorem stepL_rev {α : Type} (xs : List α) : stepL xs none none (-1) = xs.reverse := by
  have e1 : (Builtin.Slice.sliceAdjust none none (-1) xs.length) = ((xs.length : Int) - 1, -1) := rfl
  have e2 : Builtin.Slice.slicePlaces ((xs.length : Int) - 1) (-1) (-1) = xs.length := by
    unfold Builtin.Slice.slicePlaces
    rw [if_neg (by decide)]
    by_cases c : (xs.length : Int) - 1 > -1
    · rw [if_pos c]
      have : ((xs.length : Int) - 1 - -1 - 1) / - -1 + 1 = xs.length := by
        rw [show (- -1 : Int) = 1 by decide, Int.ediv_one]
        omega
      rw [this]
      omega
    · rw [if_neg c]
      omega
  unfold stepL
  rw [e1]
  dsimp only
  rw [e2]
  have e3 : (List.range xs.length).filterMap (fun (k : Nat) => xs[((xs.length : Int) - 1 + (k : Int) * -1).toNat]?) = (List.range xs.reverse.length).filterMap (fun k => xs.reverse[k]?) := by
    rw [List.length_reverse]
    refine fm_congr _ fun k hk => ?_
    rw [List.mem_range] at hk
    rw [List.getElem?_reverse hk]
    congr 1
    omega
  rw [e3, pick_take _ _ (Nat.le_refl _), List.take_length]
def Vl (p : PyData) : Prop := ∀ ds, p = .tuple ds → ds.length ≤ 1000
theorem Vl.tup {ds : List PyData} (h : ds.length ≤ 1000) : Vl (.tuple ds) := fun es e => by
  cases e
  exact h
theorem cut_le {α : Type} (ps : List α) (l u : Option Int) : (cut ps l u).length ≤ ps.length := by
  unfold cut
  rw [List.length_take, List.length_drop]
  omega
theorem cut_mem {α : Type} {ps : List α} {l u : Option Int} {x : α} (h : x ∈ cut ps l u) : x ∈ ps := List.mem_of_mem_drop (List.mem_of_mem_take h)
section
variable {ρ : En} {h : Ho} {Q : KD} {E : XD} {fa fb : WE}
theorem slTf {ps : List PyData} {l u : Option Int} {m : Nat} (hm : ps.length ≤ m) (k : ∀ es : List PyData, es.length ≤ m → Q (.d (.tuple es)) h) : slK Q (.d (.tuple ps)) l u h := slT (k _ (Nat.le_trans (cut_le _ _ _) hm))
theorem addTf {ps qs : List PyData} {m : Nat} (hm : ps.length + qs.length ≤ m) (h2 : m ≤ 1000) (k : ∀ es : List PyData, es.length ≤ m → Q (.d (.tuple es)) h) : rAdd2 (.d (.tuple ps)) (.d (.tuple qs)) h Q :=
  i_addTT (Nat.le_trans hm (Nat.le_trans h2 (by decide))) (k _ (by rw [List.length_append]; exact hm))
theorem wp_bent {L : List Zp} (g : Rg 40 L) (dh : Dl h) (k : ∀ p h', Vl p → Dl h' → Q (.d p) h') : M__law_bent [.loc 1, .d (rD L)] h Q E := by
  have sz : sizeLine = 2 ^ 24 := rfl
  have h3 := g.ring.pos
  have few := g.few
  have tl : (L.map zD).length ≤ 40 := by rw [List.length_map]; exact few
  refine i_mir rfl (by repeat constructor) (by repeat constructor) ?_
  unfold B__law_bent
  repeat' array_get_dec
  rw [List.length_map, List.length_map]
  refine dl_any (by omega) (by omega) dh fun v1 h1 a0 a1 dh => ?_
  repeat' array_get_dec
  rw [List.length_map, List.length_map]
  refine dl_any (by omega) (by omega) dh fun v2 h2 b0 b1 dh => ?_
  have w1 : L2.atI ((L.map zD).map D.d) (v2 - 1) = some (.d (zD (cor L (v2 - 1 + L.length).toNat))) := at_cor (by omega) (by omega)
  have w0 : L2.atI ((L.map zD).map D.d) v2 = some (.d (zD (cor L (v2 + L.length).toNat))) := at_cor (by omega) (by omega)
  have y0 : L2.atI ((L.map zD).map D.d) v1 = some (.d (zD (cor L (v1 + L.length).toNat))) := at_cor (by omega) (by omega)
  have ga := g.near _ (cor_mem (by omega : 0 < L.length) (v2 - 1 + L.length).toNat)
  have gb := g.near _ (cor_mem (by omega : 0 < L.length) (v2 + L.length).toNat)
  generalize cor L (v2 - 1 + L.length).toNat = a at w1 ga
  generalize cor L (v2 + L.length).toNat = b at w0 gb
  generalize cor L (v1 + L.length).toNat = c at y0
  obtain ⟨⟨ga1, ga2⟩, ga3, ga4⟩ := ga
  obtain ⟨⟨gb1, gb2⟩, gb3, gb4⟩ := gb
  repeat' array_get_dec
  refine i_ix rfl w1 ?_
  repeat' array_get_dec
  refine i_ix rfl w0 ?_
  repeat' array_get_dec
  · exact ⟨by decide, by decide⟩
  · exact ⟨by decide, by decide⟩
  · exact cmulw (n := 10) (by decide) (by decide) (by omega) (by decide)
  · exact cmulw (n := 10) (by decide) (by decide) (by omega) (by decide)
  refine dl_of (by simp) (by simp) dh fun spot h3 hx dh => ?_
  clear hx
  repeat' array_get_dec
  refine dl_of (by simp) (by simp) dh fun strange h4 hx dh => ?_
  clear hx
  repeat' array_get_dec
  refine slTf (m := 40) tl fun p1 l1 => ?_
  repeat' array_get_dec
  refine addTf (m := 41) (by simp; omega) (by decide) fun p2 l2 => ?_
  repeat' array_get_dec
  refine slTf (m := 40) tl fun p3 l3 => ?_
  repeat' array_get_dec
  refine addTf (m := 81) (by omega) (by decide) fun p4 l4 => ?_
  repeat' array_get_dec
  refine slTf (m := 40) tl fun p5 l5 => ?_
  repeat' array_get_dec
  refine addTf (m := 41) (by simp; omega) (by decide) fun p6 l6 => ?_
  repeat' array_get_dec
  refine slTf (m := 40) tl fun p7 l7 => ?_
  repeat' array_get_dec
  refine addTf (m := 81) (by omega) (by decide) fun p8 l8 => ?_
  repeat' array_get_dec
  refine slTf (m := 40) tl fun p9 l9 => ?_
  repeat' array_get_dec
  refine slTf (m := 40) tl fun q1 m1 => ?_
  repeat' array_get_dec
  refine addTf (m := 80) (by omega) (by decide) fun q2 m2 => ?_
  array_get_dec
  array_get_dec
  array_get_dec
  array_get_dec
  refine i_cutg (fun ρ' h' => h' = h4 ∧ ∃ menu : List PyData, menu.length = 4 ∧ (∀ x ∈ menu, Vl x) ∧ ρ' = [some (.loc 1), some (.d (rD L)), some (.d (.int v1)), some (.d (.int v2)), some (.d (zD a)), some (.d (zD b)), some (.d spot), some (.d strange), some (.d (.list menu))]) ?tail ?work
  case work =>
    intro nx' go
    have fin : ∀ es : List PyData, es.length ≤ 1000 → ∃ menu : List PyData, menu.length = 4 ∧ (∀ x ∈ menu, Vl x) ∧ [PyData.tuple p4, .tuple p8, .tuple q2] ++ [PyData.tuple es] = menu := fun es he => by
      refine ⟨_, rfl, ?_, rfl⟩
      intro x hx
      simp only [List.mem_append, List.mem_cons, List.not_mem_nil, or_false] at hx
      rcases hx with (rfl | rfl | rfl) | rfl
      · exact Vl.tup (by omega)
      · exact Vl.tup (by omega)
      · exact Vl.tup (by omega)
      · exact Vl.tup he
    repeat' array_get_dec
    refine i_ite (fun x => ?_) (fun x => ?_)
    · repeat' array_get_dec
      refine slTf (m := 40) tl fun r1 n1 => ?_
      repeat' array_get_dec
      refine i_ix rfl w0 ?_
      repeat' array_get_dec
      refine addTf (m := 41) (by simp; omega) (by decide) fun r2 n2 => ?_
      repeat' array_get_dec
      refine slTf (m := 40) tl fun r3 n3 => ?_
      repeat' array_get_dec
      refine addTf (m := 81) (by omega) (by decide) fun r4 n4 => ?_
      repeat' array_get_dec
      refine i_ix rfl y0 ?_
      repeat' array_get_dec
      refine addTf (m := 82) (by simp; omega) (by decide) fun r5 n5 => ?_
      repeat' array_get_dec
      refine slTf (m := 40) tl fun r6 n6 => ?_
      repeat' array_get_dec
      refine addTf (m := 122) (by omega) (by decide) fun r7 n7 => ?_
      repeat' array_get_dec
      obtain ⟨menu, f1, f2, f3⟩ := fin r7 (by omega)
      refine i_addLLe f3 (by rw [f1]; decide) ?_
      repeat' array_get_dec
      exact go _ _ ⟨rfl, menu, f1, f2, rfl⟩
    · repeat' array_get_dec
      refine i_slT (by repeat constructor) (by rw [stepL_rev, List.length_reverse]; omega) ?_
      repeat' array_get_dec
      obtain ⟨menu, f1, f2, f3⟩ := fin (stepL (L.map zD) none none (-1)) (by rw [stepL_rev, List.length_reverse]; omega)
      refine i_addLLe f3 (by rw [f1]; decide) ?_
      repeat' array_get_dec
      exact go _ _ ⟨rfl, menu, f1, f2, rfl⟩
  case tail =>
  rintro ρ h5 ⟨rfl, menu, f1, f2, rfl⟩
  repeat' array_get_dec
  refine slTf (m := 40) tl fun r1 n1 => ?_
  repeat' array_get_dec
  refine addTf (m := 41) (by simp; omega) (by decide) fun r2 n2 => ?_
  repeat' array_get_dec
  refine slTf (m := 40) tl fun r3 n3 => ?_
  repeat' array_get_dec
  refine addTf (m := 81) (by omega) (by decide) fun r4 n4 => ?_
  repeat' array_get_dec
  refine slTf (m := 40) tl fun r5 n5 => ?_
  repeat' array_get_dec
  have big : ∃ all : List PyData, all.length = 11 ∧ (∀ x ∈ all, Vl x) ∧ menu ++ [PyData.tuple r4, .list (L.map zD), .tuple r5, .tuple [], .none, .str "ring", .tuple [rD L]] = all := by
    refine ⟨_, by rw [List.length_append, f1]; rfl, ?_, rfl⟩
    intro x hx
    simp only [List.mem_append, List.mem_cons, List.not_mem_nil, or_false] at hx
    rcases hx with hx | rfl | rfl | rfl | rfl | rfl | rfl | rfl
    · exact f2 x hx
    · exact Vl.tup (by omega)
    · exact fun ds e => by cases e
    · exact Vl.tup (by omega)
    · exact Vl.tup (by simp)
    · exact fun ds e => by cases e
    · exact fun ds e => by cases e
    · exact Vl.tup (by simp)
  obtain ⟨all, g1, g2, g3⟩ := big
  refine i_addLLe g3 (by rw [g1]; decide) ?_
  repeat' array_get_dec
  refine slL ?_
  repeat' array_get_dec
  refine slL ?_
  have c5 := cut_le all none (some 5)
  have c4 := cut_le all none (some 4)
  refine i_addLL (by omega) ?_
  repeat' array_get_dec
  refine i_addLL (by rw [List.length_append]; omega) ?_
  repeat' array_get_dec
  refine dl_of ?_ ?_ dh fun x h6 hx dh => ?_
  · intro e
    have := congrArg List.length e
    rw [List.length_append, List.length_append, g1] at this
    simp at this
  · rw [List.length_append, List.length_append]
    have : (2 : Nat) ^ 100 > 100 := by decide
    omega
  · refine k _ _ (g2 x ?_) dh
    rw [List.mem_append, List.mem_append] at hx
    rcases hx with (hx | hx) | hx
    · exact cut_mem hx
    · exact cut_mem hx
    · exact hx
end
end LW
set_option Elab.async false
set_option linter.all false
set_option maxRecDepth 100000
set_option maxHeartbeats 40000000
namespace LW
open PySem PySem.Spec PyProof.Rows L2 V2
local macro_rules | `(tactic| array_get_dec) => `(tactic| with_reducible refine i_go (by assumption) ?_)
local macro_rules | `(tactic| array_get_dec) => `(tactic| with_reducible refine i_next ?_)
local macro_rules | `(tactic| array_get_dec) => `(tactic| with_reducible refine i_isr2 ?_)
local macro_rules | `(tactic| array_get_dec) => `(tactic| with_reducible refine i_range2 ?_)
local macro_rules | `(tactic| array_get_dec) => `(tactic| with_reducible refine i_range1 ?_)
local macro_rules | `(tactic| array_get_dec) => `(tactic| with_reducible refine i_for ?_)
local macro_rules | `(tactic| array_get_dec) => `(tactic| with_reducible refine i_brk ?_)
local macro_rules | `(tactic| array_get_dec) => `(tactic| with_reducible refine i_zip2 ?_)
local macro_rules | `(tactic| array_get_dec) => `(tactic| with_reducible refine i_enum1 ?_)
local macro_rules | `(tactic| array_get_dec) => `(tactic| with_reducible refine i_one ?_)
local macro_rules | `(tactic| array_get_dec) => `(tactic| with_reducible refine i_raise ?_)
local macro_rules | `(tactic| array_get_dec) => `(tactic| with_reducible refine i_sub ?_)
local macro_rules | `(tactic| array_get_dec) => `(tactic| with_reducible refine i_append ?_)
local macro_rules | `(tactic| array_get_dec) => `(tactic| with_reducible refine i_pop ?_)
local macro_rules | `(tactic| array_get_dec) => `(tactic| with_reducible refine i_drop ?_)
local macro_rules | `(tactic| array_get_dec) => `(tactic| with_reducible refine i_len (by with_unfolding_all exact rfl) ?_)
local macro_rules | `(tactic| array_get_dec) => `(tactic| with_reducible refine i_notN ?_)
local macro_rules | `(tactic| array_get_dec) => `(tactic| with_reducible refine i_isN ?_)
local macro_rules | `(tactic| array_get_dec) => `(tactic| with_reducible refine i_min2 ?_)
local macro_rules | `(tactic| array_get_dec) => `(tactic| with_reducible refine i_max2 ?_)
local macro_rules | `(tactic| array_get_dec) => `(tactic| with_reducible refine i_chain ?_)
local macro_rules | `(tactic| array_get_dec) => `(tactic| with_reducible refine i_lcm3 ?_ ?_)
local macro_rules | `(tactic| array_get_dec) => `(tactic| with_reducible refine i_gcd ?_)
local macro_rules | `(tactic| array_get_dec) => `(tactic| with_reducible refine i_toint ?_)
local macro_rules | `(tactic| array_get_dec) => `(tactic| with_reducible refine i_abs ?_)
local macro_rules | `(tactic| array_get_dec) => `(tactic| with_reducible refine i_pk4 ?_)
local macro_rules | `(tactic| array_get_dec) => `(tactic| with_reducible refine i_pk3 ?_)
local macro_rules | `(tactic| array_get_dec) => `(tactic| with_reducible refine i_pk2 ?_)
local macro_rules | `(tactic| array_get_dec) => `(tactic| with_reducible refine i_pk1 ?_)
local macro_rules | `(tactic| array_get_dec) => `(tactic| with_reducible refine i_fnk ?_)
local macro_rules | `(tactic| array_get_dec) => `(tactic| with_reducible refine i_fn ?_)
local macro_rules | `(tactic| array_get_dec) => `(tactic| with_reducible refine i_call ?_)
local macro_rules | `(tactic| array_get_dec) => `(tactic| with_reducible refine i_ix (by with_unfolding_all exact rfl) (by with_unfolding_all exact rfl) ?_)
local macro_rules | `(tactic| array_get_dec) => `(tactic| with_reducible refine i_ix (by assumption) (by with_unfolding_all exact rfl) ?_)
local macro_rules | `(tactic| array_get_dec) => `(tactic| with_reducible refine i_all (by repeat constructor) (by with_unfolding_all exact Nat.le_of_ble_eq_true rfl) ?_)
local macro_rules | `(tactic| array_get_dec) => `(tactic| with_reducible refine i_lst ?_)
local macro_rules | `(tactic| array_get_dec) => `(tactic| with_reducible refine i_tup ?_)
local macro_rules | `(tactic| array_get_dec) => `(tactic| with_reducible refine i_zipL ?_)
local macro_rules | `(tactic| array_get_dec) => `(tactic| with_reducible refine i_slP ?_)
local macro_rules | `(tactic| array_get_dec) => `(tactic| with_reducible refine i_subB ?_)
local macro_rules | `(tactic| array_get_dec) => `(tactic| with_reducible refine i_notB ?_)
local macro_rules | `(tactic| array_get_dec) => `(tactic| with_reducible refine i_minT2 ?_)
local macro_rules | `(tactic| array_get_dec) => `(tactic| with_reducible refine i_maxT2 ?_)
local macro_rules | `(tactic| array_get_dec) => `(tactic| with_reducible refine i_listT ?_)
local macro_rules | `(tactic| array_get_dec) => `(tactic| with_reducible refine i_tupL ?_)
local macro_rules | `(tactic| array_get_dec) => `(tactic| with_reducible refine rvL ?_)
local macro_rules | `(tactic| array_get_dec) => `(tactic| with_reducible refine i_rev ?_)
local macro_rules | `(tactic| array_get_dec) => `(tactic| with_reducible refine slL ?_)
local macro_rules | `(tactic| array_get_dec) => `(tactic| with_reducible refine slT ?_)
local macro_rules | `(tactic| array_get_dec) => `(tactic| with_reducible refine i_oS ?_)
local macro_rules | `(tactic| array_get_dec) => `(tactic| with_reducible refine i_oN ?_)
local macro_rules | `(tactic| array_get_dec) => `(tactic| with_reducible refine i_slG ?_)
local macro_rules | `(tactic| array_get_dec) => `(tactic| with_reducible refine i_fnotG ?_)
local macro_rules | `(tactic| array_get_dec) => `(tactic| with_reducible refine i_forG ?_)
local macro_rules | `(tactic| array_get_dec) => `(tactic| with_reducible refine i_fand ?_)
local macro_rules | `(tactic| array_get_dec) => `(tactic| with_reducible refine i_fif ?_)
local macro_rules | `(tactic| array_get_dec) => `(tactic| with_reducible refine i_not2 ?_)
local macro_rules | `(tactic| array_get_dec) => `(tactic| with_reducible refine i_or2 ?_)
local macro_rules | `(tactic| array_get_dec) => `(tactic| with_reducible refine i_and2 ?_)
local macro_rules | `(tactic| array_get_dec) => `(tactic| with_reducible refine i_isr ?_)
local macro_rules | `(tactic| array_get_dec) => `(tactic| with_reducible refine i_isi ?_)
local macro_rules | `(tactic| array_get_dec) => `(tactic| with_reducible refine i_isb ?_)
local macro_rules | `(tactic| array_get_dec) => `(tactic| with_reducible refine i_val ?_)
local macro_rules | `(tactic| array_get_dec) => `(tactic| with_reducible refine i_un ?_)
local macro_rules | `(tactic| array_get_dec) => `(tactic| with_reducible refine i_nes ?_)
local macro_rules | `(tactic| array_get_dec) => `(tactic| with_reducible refine i_nesr ?_)
local macro_rules | `(tactic| array_get_dec) => `(tactic| with_reducible refine i_eqs ?_)
local macro_rules | `(tactic| array_get_dec) => `(tactic| with_reducible refine i_eqsr ?_)
local macro_rules | `(tactic| array_get_dec) => `(tactic| with_reducible refine i_nei ?_)
local macro_rules | `(tactic| array_get_dec) => `(tactic| with_reducible refine i_eqi ?_)
local macro_rules | `(tactic| array_get_dec) => `(tactic| with_reducible refine i_add ?_)
local macro_rules | `(tactic| array_get_dec) => `(tactic| with_reducible refine i_ints ?_ ?_)
local macro_rules | `(tactic| array_get_dec) => `(tactic| with_reducible refine i_ints0 ?_)
local macro_rules | `(tactic| array_get_dec) => `(tactic| with_reducible refine i_bin ?_)
local macro_rules | `(tactic| array_get_dec) => `(tactic| with_reducible refine i_nil ?_)
local macro_rules | `(tactic| array_get_dec) => `(tactic| with_reducible refine i_cons ?_)
local macro_rules | `(tactic| array_get_dec) => `(tactic| with_reducible refine i_c ?_)
local macro_rules | `(tactic| array_get_dec) => `(tactic| with_reducible refine i_var (by repeat constructor) ?_)
local macro_rules | `(tactic| array_get_dec) => `(tactic| with_reducible refine i_if ?_)
local macro_rules | `(tactic| array_get_dec) => `(tactic| with_reducible refine i_ret ?_)
local macro_rules | `(tactic| array_get_dec) => `(tactic| with_reducible refine i_trip (by repeat constructor) (by repeat constructor) (by repeat constructor) ?_)
local macro_rules | `(tactic| array_get_dec) => `(tactic| with_reducible refine i_par3 ?_ (by with_unfolding_all exact Nat.le_of_ble_eq_true rfl) (by with_unfolding_all exact Nat.le_of_ble_eq_true rfl) (by with_unfolding_all exact Nat.le_of_ble_eq_true rfl))
local macro_rules | `(tactic| array_get_dec) => `(tactic| with_reducible refine i_pair (by repeat constructor) (by repeat constructor) ?_)
local macro_rules | `(tactic| array_get_dec) => `(tactic| with_reducible refine i_par ?_ (by with_unfolding_all exact Nat.le_of_ble_eq_true rfl) (by with_unfolding_all exact Nat.le_of_ble_eq_true rfl))
local macro_rules | `(tactic| array_get_dec) => `(tactic| with_reducible refine i_set (by repeat constructor) ?_)
local macro_rules | `(tactic| array_get_dec) => `(tactic| with_reducible refine i_asgn ?_ (by with_unfolding_all exact Nat.le_of_ble_eq_true rfl))
local macro_rules | `(tactic| array_get_dec) => `(tactic| with_reducible refine i_asg2v (by repeat constructor) (by repeat constructor) (by repeat constructor) ?_)
local macro_rules | `(tactic| array_get_dec) => `(tactic| with_reducible refine i_seqg (fun _ _ => ?_))

local macro_rules
  | `(tactic| decreasing_trivial_pre_omega) => `(tactic| (apply cmB; (repeat' (first | assumption | apply Bd.add | apply Bd.sub | apply Bd.mul | apply Bd.neg)); decide))

open RG (Zp cor)
theorem zD_sh {a : Zp} (h : B3 a) : Sh 2 (zD a) := by
  have h1 : Sh 1 (.int a.1) := int_sh (Nat.lt_of_lt_of_le h.bd.1 (by decide))
  have h2 : Sh 1 (.int a.2) := int_sh (Nat.lt_of_lt_of_le h.bd.2 (by decide))
  refine ⟨?_, by simp only [PyData.depth, PyData.depthAll]; decide, ?_, by simp only [PyData.bulk, PyData.bulkAll]; decide⟩
  · simp only [PyData.showable, PyData.showableAll, Bool.and_true] at *
    exact Bool.and_eq_true_iff.2 ⟨h1.1, h2.1⟩
  · simp only [PyData.leavesShort, PyData.leavesShortAll, Bool.and_true] at *
    exact Bool.and_eq_true_iff.2 ⟨h1.2.2.1, h2.2.2.1⟩
theorem sD_sh {a b : Zp} (ha : B3 a) (hb : B3 b) : Sh 3 (sD a b) := by
  have h1 := zD_sh ha
  have h2 := zD_sh hb
  refine ⟨?_, by simp only [PyData.depth, PyData.depthAll]; decide, ?_, by simp only [PyData.bulk, PyData.bulkAll]; decide⟩
  · show (PyData.showable (zD a) && (PyData.showable (zD b) && true)) = true
    rw [h1.1, h2.1]; rfl
  · show (PyData.leavesShort 1001 (zD a) && (PyData.leavesShort 1001 (zD b) && true)) = true
    rw [h1.2.2.1, h2.2.2.1]; rfl
theorem all_sh {k : Nat} : ∀ {ps : List PyData}, (∀ p ∈ ps, Sh k p) → PyData.showableAll ps = true ∧ PyData.depthAll ps ≤ k ∧ PyData.leavesShortAll 1001 ps = true ∧ PyData.bulkAll ps ≤ ps.length * (4 ^ k + 1)
  | [], _ => ⟨rfl, Nat.zero_le _, rfl, Nat.zero_le _⟩
  | p :: ps, h => by
    obtain ⟨i1, i2, i3, i4⟩ := all_sh (fun q hq => h q (List.mem_cons_of_mem _ hq))
    obtain ⟨a1, a2, a3, a4⟩ := h p (List.mem_cons_self ..)
    refine ⟨?_, ?_, ?_, ?_⟩
    · simp only [PyData.showableAll, a1, i1, Bool.and_self]
    · simp only [PyData.depthAll]; omega
    · simp only [PyData.leavesShortAll, a3, i3, Bool.and_self]
    · simp only [PyData.bulkAll, List.length_cons]
      rw [Nat.add_mul]
      omega
theorem long_repr {ps : List PyData} {k : Nat} (hk : k ≤ 3) (hl : ps.length ≤ 50) (h : ∀ p ∈ ps, Sh k p) {H : Ho} {Q : KD} (q : Q (.d (.str (PyData.tuple ps).shown)) H) : rRepr [.d (.tuple ps)] H Q := by
  obtain ⟨h1, h2, h3, h4⟩ := all_sh h
  refine i_repr (by simp only [PyData.showable]; exact h1) (by simp only [PyData.depth]; omega) ?_ q
  have b := PyData.shown_le_bulk 1001 (by decide) (.tuple ps) (by simp only [PyData.leavesShort]; exact h3)
  have e : (PyData.tuple ps).bulk = PyData.bulkAll ps := by simp only [PyData.bulk]
  rw [e] at b
  have sz : sizeLine = 2 ^ 24 := rfl
  have h5 : 4 ^ k ≤ 4 ^ 3 := Nat.pow_le_pow_right (by decide) hk
  have h6 : ps.length * (4 ^ k + 1) ≤ 50 * (4 ^ 3 + 1) := Nat.mul_le_mul hl (by omega)
  have h8 : (4 : Nat) ^ 3 = 64 := by decide
  omega
theorem shaped_sides (L : List Zp) : SeqAt.shaped (.tuple (sides L)) = true := by
  have key : ∀ ps : List PyData, (∀ p ∈ ps, ∃ a b, p = sD a b) → PyData.canLayAll0 ps = true ∧ PyData.depthAll ps ≤ 3 := by
    intro ps
    induction ps with
    | nil => intro _; exact ⟨rfl, Nat.zero_le _⟩
    | cons p ps ih =>
      intro h
      obtain ⟨a, b, rfl⟩ := h p (by simp)
      obtain ⟨i1, i2⟩ := ih fun q hq => h q (by simp [hq])
      refine ⟨?_, ?_⟩
      · simp only [PyData.canLayAll0, PyData.canLay0, i1, Bool.and_self]
      · simp only [PyData.depthAll, PyData.depth] at *; omega
  obtain ⟨h1, h2⟩ := key (sides L) fun p hp => by
    unfold sides at hp
    obtain ⟨i, _, rfl⟩ := List.mem_map.1 hp
    exact ⟨_, _, rfl⟩
  unfold SeqAt.shaped
  simp only [PyData.canLay0, PyData.depth, Bool.and_eq_true]
  exact ⟨h1, decide_eq_true (by omega)⟩
theorem InR.b3 {p : Zp} (h : InR 300 p) : B3 p := by
  unfold InR at h
  unfold B3
  omega
open Classical in
theorem rf_ring {L : List Zp} (g : RG.IsRing L) (hb : ∀ a ∈ L, B3 a) : rf (rD L) = none := by
  have h3 := g.pos
  show (if (L.map zD).length < 3 then _ else _) = _
  rw [if_neg (by rw [List.length_map]; omega), scan_ring g.nodup hb]
  dsimp only
  have nb : bad L = false := by
    unfold bad
    exact decide_eq_false (RG.Good.not_bad g)
  rw [if_neg (by rw [nb]; decide)]
theorem scan_len : ∀ {ps : List PyData} {s : List Zp} {k : Nat}, scan s ps = .inl k → k ≤ s.length + ps.length
  | [], s, k, e => by cases e
  | p :: ps, s, k, e => by
    unfold scan at e
    split at e
    · cases e; omega
    · split at e
      · cases e; omega
      · have := scan_len e
        rw [List.length_append, List.length_singleton] at this
        rw [List.length_cons]
        omega
theorem rf_bd {p : PyData} (v : Vl p) {i : Int} (e : rf p = some i) : i.natAbs < 2 ^ 1000 := by
  have big : ∀ j : Nat, j ≤ 1000 → ((j : Nat) : Int).natAbs < 2 ^ 1000 := fun j hj => by
    rw [Int.natAbs_natCast]
    exact Nat.lt_of_le_of_lt hj (Nat.lt_of_lt_of_le (by decide : 1000 < 2 ^ 10) (Nat.pow_le_pow_right (by decide) (by decide)))
  unfold rf at e
  split at e
  · rename_i ds
    have hl := v ds rfl
    split at e
    · cases e; decide
    · split at e
      · rename_i k sc
        cases e
        have := scan_len sc
        exact big _ (by simp at this; omega)
      · split at e
        · cases e
          exact big _ hl
        · cases e
  · cases e; decide
theorem heard_repr {p : PyData} (v : Vl p) {H : Ho} {Q : KD} (q : Q (.d (.str (heardD p).shown)) H) : rRepr [.d (heardD p)] H Q := by
  unfold heardD at q ⊢
  cases e : rf p with
  | none =>
    rw [e] at q
    exact i_repr (by decide) (by decide) (by decide +kernel) q
  | some i =>
    rw [e] at q
    show rRepr [.d (.list [.int i])] H Q
    have s := int_sh (rf_bd v e)
    obtain ⟨h1, h2, h3, h4⟩ := all_sh (k := 1) (ps := [.int i]) fun p hp => by
      rw [List.mem_singleton] at hp
      rw [hp]; exact s
    refine i_repr (by simp only [PyData.showable]; exact h1) (by simp only [PyData.depth]; omega) ?_ q
    have b := PyData.shown_le_bulk 1001 (by decide) (.list [.int i]) (by simp only [PyData.leavesShort]; exact h3)
    have e2 : (PyData.list [.int i]).bulk = PyData.bulkAll [.int i] := by simp only [PyData.bulk]
    rw [e2] at b
    have sz : sizeLine = 2 ^ 24 := rfl
    simp only [List.length_singleton] at h4
    omega
theorem bool_repr {b : Bool} {h : Ho} {Q : KD} (k : Q (.d (.str (PyData.bool b).shown)) h) : rRepr [.d (.bool b)] h Q := by
  cases b
  all_goals exact i_repr (by decide +kernel) (by decide) (by decide +kernel) k
theorem non_rfD (p : PyData) : isNon (.d (rfD p)) = (rf p).isNone := by
  unfold rfD
  cases rf p <;> rfl
theorem non_cf (p : PyData) : isNon (.d (cf [p])) = isC p := by
  unfold cf scan isC
  cases e : cornerOf p with
  | none => rfl
  | some c =>
    dsimp only
    rw [if_neg (by simp)]
    rfl
end LW
set_option Elab.async false
set_option linter.all false
set_option maxRecDepth 100000
set_option maxHeartbeats 40000000
namespace LW
open PySem PySem.Spec PyProof.Rows L2 V2
local macro_rules | `(tactic| array_get_dec) => `(tactic| with_reducible refine i_go (by assumption) ?_)
local macro_rules | `(tactic| array_get_dec) => `(tactic| with_reducible refine i_next ?_)
local macro_rules | `(tactic| array_get_dec) => `(tactic| with_reducible refine i_isr2 ?_)
local macro_rules | `(tactic| array_get_dec) => `(tactic| with_reducible refine i_range2 ?_)
local macro_rules | `(tactic| array_get_dec) => `(tactic| with_reducible refine i_range1 ?_)
local macro_rules | `(tactic| array_get_dec) => `(tactic| with_reducible refine i_for ?_)
local macro_rules | `(tactic| array_get_dec) => `(tactic| with_reducible refine i_brk ?_)
local macro_rules | `(tactic| array_get_dec) => `(tactic| with_reducible refine i_zip2 ?_)
local macro_rules | `(tactic| array_get_dec) => `(tactic| with_reducible refine i_enum1 ?_)
local macro_rules | `(tactic| array_get_dec) => `(tactic| with_reducible refine i_one ?_)
local macro_rules | `(tactic| array_get_dec) => `(tactic| with_reducible refine i_raise ?_)
local macro_rules | `(tactic| array_get_dec) => `(tactic| with_reducible refine i_sub ?_)
local macro_rules | `(tactic| array_get_dec) => `(tactic| with_reducible refine i_append ?_)
local macro_rules | `(tactic| array_get_dec) => `(tactic| with_reducible refine i_pop ?_)
local macro_rules | `(tactic| array_get_dec) => `(tactic| with_reducible refine i_drop ?_)
local macro_rules | `(tactic| array_get_dec) => `(tactic| with_reducible refine i_len (by with_unfolding_all exact rfl) ?_)
local macro_rules | `(tactic| array_get_dec) => `(tactic| with_reducible refine i_notN ?_)
local macro_rules | `(tactic| array_get_dec) => `(tactic| with_reducible refine i_isN ?_)
local macro_rules | `(tactic| array_get_dec) => `(tactic| with_reducible refine i_min2 ?_)
local macro_rules | `(tactic| array_get_dec) => `(tactic| with_reducible refine i_max2 ?_)
local macro_rules | `(tactic| array_get_dec) => `(tactic| with_reducible refine i_chain ?_)
local macro_rules | `(tactic| array_get_dec) => `(tactic| with_reducible refine i_lcm3 ?_ ?_)
local macro_rules | `(tactic| array_get_dec) => `(tactic| with_reducible refine i_gcd ?_)
local macro_rules | `(tactic| array_get_dec) => `(tactic| with_reducible refine i_toint ?_)
local macro_rules | `(tactic| array_get_dec) => `(tactic| with_reducible refine i_abs ?_)
local macro_rules | `(tactic| array_get_dec) => `(tactic| with_reducible refine i_pk4 ?_)
local macro_rules | `(tactic| array_get_dec) => `(tactic| with_reducible refine i_pk3 ?_)
local macro_rules | `(tactic| array_get_dec) => `(tactic| with_reducible refine i_pk2 ?_)
local macro_rules | `(tactic| array_get_dec) => `(tactic| with_reducible refine i_pk1 ?_)
local macro_rules | `(tactic| array_get_dec) => `(tactic| with_reducible refine i_fnk ?_)
local macro_rules | `(tactic| array_get_dec) => `(tactic| with_reducible refine i_fn ?_)
local macro_rules | `(tactic| array_get_dec) => `(tactic| with_reducible refine i_call ?_)
local macro_rules | `(tactic| array_get_dec) => `(tactic| with_reducible refine i_ix (by with_unfolding_all exact rfl) (by with_unfolding_all exact rfl) ?_)
local macro_rules | `(tactic| array_get_dec) => `(tactic| with_reducible refine i_ix (by assumption) (by with_unfolding_all exact rfl) ?_)
local macro_rules | `(tactic| array_get_dec) => `(tactic| with_reducible refine i_all (by repeat constructor) (by with_unfolding_all exact Nat.le_of_ble_eq_true rfl) ?_)
local macro_rules | `(tactic| array_get_dec) => `(tactic| with_reducible refine i_lst ?_)
local macro_rules | `(tactic| array_get_dec) => `(tactic| with_reducible refine i_tup ?_)
local macro_rules | `(tactic| array_get_dec) => `(tactic| with_reducible refine i_zipL ?_)
local macro_rules | `(tactic| array_get_dec) => `(tactic| with_reducible refine i_slP ?_)
local macro_rules | `(tactic| array_get_dec) => `(tactic| with_reducible refine i_subB ?_)
local macro_rules | `(tactic| array_get_dec) => `(tactic| with_reducible refine i_notB ?_)
local macro_rules | `(tactic| array_get_dec) => `(tactic| with_reducible refine i_minT2 ?_)
local macro_rules | `(tactic| array_get_dec) => `(tactic| with_reducible refine i_maxT2 ?_)
local macro_rules | `(tactic| array_get_dec) => `(tactic| with_reducible refine i_listT ?_)
local macro_rules | `(tactic| array_get_dec) => `(tactic| with_reducible refine i_tupL ?_)
local macro_rules | `(tactic| array_get_dec) => `(tactic| with_reducible refine rvL ?_)
local macro_rules | `(tactic| array_get_dec) => `(tactic| with_reducible refine i_rev ?_)
local macro_rules | `(tactic| array_get_dec) => `(tactic| with_reducible refine slL ?_)
local macro_rules | `(tactic| array_get_dec) => `(tactic| with_reducible refine slT ?_)
local macro_rules | `(tactic| array_get_dec) => `(tactic| with_reducible refine i_oS ?_)
local macro_rules | `(tactic| array_get_dec) => `(tactic| with_reducible refine i_oN ?_)
local macro_rules | `(tactic| array_get_dec) => `(tactic| with_reducible refine i_slG ?_)
local macro_rules | `(tactic| array_get_dec) => `(tactic| with_reducible refine i_fnotG ?_)
local macro_rules | `(tactic| array_get_dec) => `(tactic| with_reducible refine i_forG ?_)
local macro_rules | `(tactic| array_get_dec) => `(tactic| with_reducible refine i_fand ?_)
local macro_rules | `(tactic| array_get_dec) => `(tactic| with_reducible refine i_fif ?_)
local macro_rules | `(tactic| array_get_dec) => `(tactic| with_reducible refine i_not2 ?_)
local macro_rules | `(tactic| array_get_dec) => `(tactic| with_reducible refine i_or2 ?_)
local macro_rules | `(tactic| array_get_dec) => `(tactic| with_reducible refine i_and2 ?_)
local macro_rules | `(tactic| array_get_dec) => `(tactic| with_reducible refine i_isr ?_)
local macro_rules | `(tactic| array_get_dec) => `(tactic| with_reducible refine i_isi ?_)
local macro_rules | `(tactic| array_get_dec) => `(tactic| with_reducible refine i_isb ?_)
local macro_rules | `(tactic| array_get_dec) => `(tactic| with_reducible refine i_val ?_)
local macro_rules | `(tactic| array_get_dec) => `(tactic| with_reducible refine i_un ?_)
local macro_rules | `(tactic| array_get_dec) => `(tactic| with_reducible refine i_nes ?_)
local macro_rules | `(tactic| array_get_dec) => `(tactic| with_reducible refine i_nesr ?_)
local macro_rules | `(tactic| array_get_dec) => `(tactic| with_reducible refine i_eqs ?_)
local macro_rules | `(tactic| array_get_dec) => `(tactic| with_reducible refine i_eqsr ?_)
local macro_rules | `(tactic| array_get_dec) => `(tactic| with_reducible refine i_nei ?_)
local macro_rules | `(tactic| array_get_dec) => `(tactic| with_reducible refine i_eqi ?_)
local macro_rules | `(tactic| array_get_dec) => `(tactic| with_reducible refine i_add ?_)
local macro_rules | `(tactic| array_get_dec) => `(tactic| with_reducible refine i_ints ?_ ?_)
local macro_rules | `(tactic| array_get_dec) => `(tactic| with_reducible refine i_ints0 ?_)
local macro_rules | `(tactic| array_get_dec) => `(tactic| with_reducible refine i_bin ?_)
local macro_rules | `(tactic| array_get_dec) => `(tactic| with_reducible refine i_nil ?_)
local macro_rules | `(tactic| array_get_dec) => `(tactic| with_reducible refine i_cons ?_)
local macro_rules | `(tactic| array_get_dec) => `(tactic| with_reducible refine i_c ?_)
local macro_rules | `(tactic| array_get_dec) => `(tactic| with_reducible refine i_var (by repeat constructor) ?_)
local macro_rules | `(tactic| array_get_dec) => `(tactic| with_reducible refine i_if ?_)
local macro_rules | `(tactic| array_get_dec) => `(tactic| with_reducible refine i_ret ?_)
local macro_rules | `(tactic| array_get_dec) => `(tactic| with_reducible refine i_trip (by repeat constructor) (by repeat constructor) (by repeat constructor) ?_)
local macro_rules | `(tactic| array_get_dec) => `(tactic| with_reducible refine i_par3 ?_ (by with_unfolding_all exact Nat.le_of_ble_eq_true rfl) (by with_unfolding_all exact Nat.le_of_ble_eq_true rfl) (by with_unfolding_all exact Nat.le_of_ble_eq_true rfl))
local macro_rules | `(tactic| array_get_dec) => `(tactic| with_reducible refine i_pair (by repeat constructor) (by repeat constructor) ?_)
local macro_rules | `(tactic| array_get_dec) => `(tactic| with_reducible refine i_par ?_ (by with_unfolding_all exact Nat.le_of_ble_eq_true rfl) (by with_unfolding_all exact Nat.le_of_ble_eq_true rfl))
local macro_rules | `(tactic| array_get_dec) => `(tactic| with_reducible refine i_set (by repeat constructor) ?_)
local macro_rules | `(tactic| array_get_dec) => `(tactic| with_reducible refine i_asgn ?_ (by with_unfolding_all exact Nat.le_of_ble_eq_true rfl))
local macro_rules | `(tactic| array_get_dec) => `(tactic| with_reducible refine i_asg2v (by repeat constructor) (by repeat constructor) (by repeat constructor) ?_)
local macro_rules | `(tactic| array_get_dec) => `(tactic| with_reducible refine i_seqg (fun _ _ => ?_))

local macro_rules
  | `(tactic| decreasing_trivial_pre_omega) => `(tactic| (apply cmB; (repeat' (first | assumption | apply Bd.add | apply Bd.sub | apply Bd.mul | apply Bd.neg)); decide))

open RG (Zp cor)
theorem isiN {b : Bool} {ρ : En} {h : Ho} {Q : KD} {E : XD} {fa : WE} (k : fa ρ h (fun x h1 => rIsN2 x (.d .none) h1 Q) E) : fBin rIsN2 fa (fC .none) ρ h Q E := k
theorem says (ns : List Int) (hl : ns.length ≤ 63) {P : Prop} (hb : P) : V2.Says M_law ns := by
  have sz : sizeLine = 2 ^ 24 := rfl
  unfold Says scriptD
  refine i_mir rfl (by repeat constructor) (by repeat constructor) ?_
  unfold B_law
  repeat' array_get_dec
  refine wp_deal (by decide) (by decide) hl fun h0 dh => ?_
  have dh : Dl h0 := ⟨[], dh, NoR.nil⟩
  repeat' array_get_dec
  refine ⟨by decide, by decide, ?_⟩
  refine for_ind (fun i ρ h' => Dl h' ∧ ∃ (z2 z3 z4 z5 z6 z7 z8 z9 : Option D), ρ = [some (.d (.list (ns.map PyData.int))), some (.loc 1), z2, z3, z4, z5, z6, z7, z8, z9]) ?_ ?_ ⟨dh, _, _, _, _, _, _, _, _, rfl⟩
  · rintro i x ρ h' G - ⟨dh, z2, z3, z4, z5, z6, z7, z8, z9, rfl⟩ hG
    refine ⟨_, rfl, ?_⟩
    show (sSeq _ _) [some (.d (.list (ns.map PyData.int))), some (.loc 1), some x, z3, z4, z5, z6, z7, z8, z9] _ _
    repeat' array_get_dec
    refine wp_ring dh fun L h1 g dh => ?_
    have gb : ∀ a ∈ L, B3 a := fun a ha => (g.near a ha).b3
    have bc : ∀ i, B3 (cor L i) := fun i => gb _ (cor_mem (by have := g.ring.pos; omega) i)
    have vl : Vl (rD L) := Vl.tup (by rw [List.length_map]; have := g.few; omega)
    have n3 := g.ring.pos
    have few := g.few
    repeat' array_get_dec
    refine wp_is_ring vl fun j hj => ?_
    have dh := dh.junk hj
    rw [rf_ring g.ring gb]
    repeat' array_get_dec
    refine i_ifF rfl ?_
    repeat' array_get_dec
    refine wp_heard vl fun j2 hj2 => ?_
    have dh := dh.junk hj2
    have eh : heardD (rD L) = .list [] := by unfold heardD; rw [rf_ring g.ring gb]
    rw [eh]
    repeat' array_get_dec
    refine i_neG rfl (by decide) ?_
    repeat' array_get_dec
    refine i_ifF rfl ?_
    repeat' array_get_dec
    refine i_slT (by repeat constructor) (by rw [stepL_rev, List.length_reverse, List.length_map]; omega) ?_
    rw [stepL_rev, ← List.map_reverse]
    repeat' array_get_dec
    refine wp_is_ring (p := rD L.reverse) (Vl.tup (by rw [List.length_map, List.length_reverse]; omega)) fun j3 hj3 => ?_
    have dh := dh.junk hj3
    rw [rf_ring g.ring.turned (fun a ha => gb a (List.mem_reverse.1 ha))]
    repeat' array_get_dec
    refine i_ifF rfl ?_
    repeat' array_get_dec
    generalize h1 ++ j ++ j2 ++ j3 = hh at dh
    refine i_lcv ?_
    repeat' array_get_dec
    rw [List.length_map, List.length_map]
    refine ⟨by omega, by omega, ?_⟩
    refine lcv_ind (hb := hh) (fun k acc => acc = ((sides L).take k).map D.d) (fun _ => trivial) ?_ ?_ rfl
    · rintro k z acc ez rfl
      obtain ⟨hk, rfl⟩ := range_get ez
      rw [Int.toNat_natCast] at hk
      have u0 : L2.atI ((L.map zD).map D.d) ((k : Nat) : Int) = some (.d (zD (cor L k))) := by
        rw [at_cor (by omega) (by omega), show (((k : Nat) : Int) + L.length).toNat = k + L.length by omega, RG.cor_per]
      have ej : (((k : Nat) : Int) + 1) % ((L.length : Nat) : Int) = (((k + 1) % L.length : Nat) : Int) := by rw [Int.natCast_emod, Int.natCast_add]; rfl
      have u1 : L2.atI ((L.map zD).map D.d) ((((k + 1) % L.length : Nat)) : Int) = some (.d (zD (cor L (k + 1)))) := by
        have : (k + 1) % L.length < L.length := Nat.mod_lt _ (by omega)
        rw [at_cor (by omega) (by omega), show ((((k + 1) % L.length : Nat) : Int) + L.length).toNat = (k + 1) % L.length + L.length by omega, RG.cor_per, RG.cor_mod]
      refine ⟨_, true, rfl, fun P q => q, fun _ => ⟨.d (sD (cor L k) (cor L (k + 1))), fun P q => ?_, ?_, ?_⟩, fun e => by cases e⟩
      · show fTup _ [some (.d (.list (ns.map PyData.int))), some (.loc 1), some x, some (.d (rD L)), z4, some (.d (.int (k : Nat))), z6, z7, z8, z9] _ _ _
        repeat' array_get_dec
        refine i_ix rfl u0 ?_
        repeat' array_get_dec
        · rw [List.length_map, List.length_map]; omega
        rw [List.length_map, List.length_map, ej]
        refine i_ix rfl u1 ?_
        repeat' array_get_dec
        exact q
      · rw [List.length_map, List.length_take, sides_len]
        omega
      · rw [List.take_succ, sides_get hk]
        simp
    · rintro acc rfl
      rw [Int.toNat_natCast, range_len]
      have et : (sides L).take L.length = sides L := List.take_of_length_le (by rw [sides_len]; exact Nat.le_refl _)
      rw [et]
      refine ⟨sides L, allD_of _, ?_⟩
      have sh : ∀ p ∈ sides L, Sh 3 p := fun p hp => by
        unfold sides at hp
        obtain ⟨i, _, rfl⟩ := List.mem_map.1 hp
        exact sD_sh (bc _) (bc _)
      repeat' array_get_dec
      refine wp_ring_sides (by omega) (by omega) ?_
      repeat' array_get_dec
      refine long_repr (k := 3) (by decide) (by rw [sides_len]; omega) sh ?_
      repeat' array_get_dec
      refine long_repr (k := 3) (by decide) (by rw [sides_len]; omega) sh ?_
      repeat' array_get_dec
      refine i_ifF rfl ?_
      repeat' array_get_dec
      refine wp_ring_sides (by omega) (by omega) ?_
      repeat' array_get_dec
      refine i_neG rfl (shaped_sides L) ?_
      repeat' array_get_dec
      refine i_ifF rfl ?_
      repeat' array_get_dec
      refine i_lcv ?_
      repeat' array_get_dec
      refine dl_any (by decide) (by decide) dh fun v h2 v0 v1 dh => ?_
      obtain ⟨rest, d, nr⟩ := dh
      repeat' array_get_dec
      refine ⟨by omega, by omega, ?_⟩
      refine lcd_ind d (nr _) (fun k acc => acc.length = k) (fun _ => trivial) ?_ ?_ rfl
      · rintro k z acc h3 G2 ez hk d2 hG2
        obtain ⟨hk2, rfl⟩ := range_get ez
        refine ⟨_, rfl, by omega, ?_⟩
        show fTup _ [some (.d (.list (ns.map PyData.int))), some (.loc 1), some x, some (.d (rD L)), some (.d (.tuple (sides L))), z5, z6, some (.d (.int (k : Nat))), z8, z9] _ _ _
        repeat' array_get_dec
        refine wp_any (by decide) (by decide) d2 fun w1 h4 _ _ d3 => ?_
        repeat' array_get_dec
        refine wp_any (by decide) (by decide) d3 fun w2 h5 _ _ d4 => ?_
        repeat' array_get_dec
        exact hG2 _ _ (by simp [hk]) d4
      · rintro acc h3 hk d2
        have hk : acc.length ≤ 10 := by
          rw [hk]
          unfold rangeD
          rw [List.length_map, List.length_range]
          omega
        have dh : Dl h3 := ⟨rest, d2, nr⟩
        repeat' array_get_dec
        refine i_iseqG ?_
        repeat' array_get_dec
        refine wp_bent g dh fun p1 h4 vp1 dh => ?_
        repeat' array_get_dec
        refine wp_bent g dh fun p2 h5 vp2 dh => ?_
        repeat' array_get_dec
        refine ⟨_, rfl, ?_⟩
        have vals : ∀ z ∈ [p1, p2, PyData.tuple acc], Vl z := by
          intro z hz
          simp only [List.mem_cons, List.not_mem_nil, or_false] at hz
          rcases hz with rfl | rfl | rfl
          · exact vp1
          · exact vp2
          · exact Vl.tup (by omega)
        refine for_ind (fun k ρ h6 => Dl h6 ∧ ∃ (z2 z3 z4 z5 z6 z7 z8 z9 : Option D), ρ = [some (.d (.list (ns.map PyData.int))), some (.loc 1), z2, z3, z4, z5, z6, z7, z8, z9]) ?_ ?_ ⟨dh, _, _, _, _, _, _, _, _, rfl⟩
        · rintro k z ρ h6 G2 ez ⟨dh, z2, z3, z4, z5, z6, z7, z8, z9, rfl⟩ hG2
          rw [List.getElem?_map, Option.map_eq_some_iff] at ez
          obtain ⟨p, e1, rfl⟩ := ez
          have vp := vals p (List.mem_of_getElem? e1)
          refine ⟨_, rfl, ?_⟩
          show (sSeq _ _) [some (.d (.list (ns.map PyData.int))), some (.loc 1), z2, z3, z4, z5, z6, z7, some (.d p), z9] _ _
          repeat' array_get_dec
          refine wp_ring_fault vp ?_
          repeat' array_get_dec
          refine wp_heard vp fun j4 hj4 => ?_
          have dh := dh.junk hj4
          repeat' array_get_dec
          refine heard_repr vp ?_
          repeat' array_get_dec
          have two : ∀ K : KD, K (.d (heardD p)) (h6 ++ j4) → (if isNon (.d (rfD p)) = true then fLst aNil [some (.d (.list (ns.map PyData.int))), some (.loc 1), z2, z3, z4, some (.d (rfD p)), z6, z7, some (.d p), z9] (h6 ++ j4) K noX else fLst (aCons (fVar 5) aNil) [some (.d (.list (ns.map PyData.int))), some (.loc 1), z2, z3, z4, some (.d (rfD p)), z6, z7, some (.d p), z9] (h6 ++ j4) K noX) := by
            intro K q
            unfold heardD at q
            unfold rfD
            cases e : rf p with
            | none =>
              rw [e] at q
              refine i_ifT rfl ?_
              repeat' array_get_dec
              exact q
            | some i =>
              rw [e] at q
              refine i_ifF rfl ?_
              repeat' array_get_dec
              exact q
          refine two _ ?_
          repeat' array_get_dec
          refine heard_repr vp ?_
          repeat' array_get_dec
          refine i_ifF rfl ?_
          repeat' array_get_dec
          refine wp_is_ring vp fun j5 hj5 => ?_
          have dh := dh.junk hj5
          repeat' array_get_dec
          refine bool_repr ?_
          repeat' array_get_dec
          rw [non_rfD]
          refine bool_repr ?_
          repeat' array_get_dec
          refine i_ifF rfl ?_
          repeat' array_get_dec
          exact ⟨trivial, hG2 _ _ ⟨dh, _, _, _, _, _, _, _, _, rfl⟩⟩
        · rintro ρ h6 ⟨dh, z2, z3, z4, z5, z6, z7, z8, z9, rfl⟩
          exact ⟨trivial, hG _ _ ⟨dh, _, _, _, _, _, _, _, _, rfl⟩⟩
  · rintro ρ h' ⟨dh, z2, z3, z4, z5, z6, z7, z8, z9, rfl⟩
    repeat' array_get_dec
    refine i_iseqG ?_
    repeat' array_get_dec
    refine dl_of (by simp) (by simp) dh fun p1 h1 hp1 dh => ?_
    repeat' array_get_dec
    refine dl_of (by simp) (by simp) dh fun p2 h2 hp2 dh => ?_
    repeat' array_get_dec
    refine ⟨_, rfl, ?_⟩
    refine for_ind (fun k ρ h6 => ∃ (z2 z3 z4 z5 z6 z7 z8 z9 : Option D), ρ = [some (.d (.list (ns.map PyData.int))), some (.loc 1), z2, z3, z4, z5, z6, z7, z8, z9]) ?_ ?_ ⟨_, _, _, _, _, _, _, _, rfl⟩
    · rintro k z ρ h6 G2 ez ⟨z2, z3, z4, z5, z6, z7, z8, z9, rfl⟩ hG2
      rw [List.getElem?_map, Option.map_eq_some_iff] at ez
      obtain ⟨p, e1, rfl⟩ := ez
      refine ⟨_, rfl, ?_⟩
      show (sIf _ _ _) [some (.d (.list (ns.map PyData.int))), some (.loc 1), z2, z3, z4, z5, z6, z7, some (.d p), z9] _ _
      repeat' array_get_dec
      refine wp_is_corner ?_
      repeat' array_get_dec
      refine bool_repr ?_
      repeat' array_get_dec
      refine wp_corner_fault (by simp) ?_
      repeat' array_get_dec
      rw [non_cf]
      refine bool_repr ?_
      repeat' array_get_dec
      refine i_ifF rfl ?_
      repeat' array_get_dec
      exact ⟨trivial, hG2 _ _ ⟨_, _, _, _, _, _, _, _, rfl⟩⟩
    · rintro ρ h6 ⟨z2, z3, z4, z5, z6, z7, z8, z9, rfl⟩
      have e : rf (.tuple [.tuple [.int 0, .int 0], .tuple [.int 2, .int 0]]) = some (-1) := by
        unfold rf
        exact if_pos (by decide)
      repeat' array_get_dec
      refine i_try ?_
      repeat' array_get_dec
      refine wp_need_ring (fun ds e => by cases e; decide) (fun e2 => by rw [e] at e2; cases e2) (fun i e2 j hj => ?_)
      rw [e] at e2
      cases e2
      refine ⟨by show 9 < 10; decide, ?_⟩
      repeat' array_get_dec
      refine ⟨rfl, _, rfl, ?_⟩
      repeat' array_get_dec
      rfl
end LW
set_option Elab.async false
set_option linter.all false
set_option maxRecDepth 100000
set_option maxHeartbeats 8000000
namespace LW
open PySem PySem.Spec PyProof.Rows L2 V2
open PySem.W (Frag)
theorem all_mk {l : PySem.W.OpenLaw} {w : World} {K : Frag} {h : Heap} {mg : Str → Option Value} {fa : Addr} (X : K.In h) (G : h.Ns mainGlobals mg) (hfa : mg "law" = some (.ref fa))
    {f0 : Addr} {od0 an0 : Option Addr} {sl0 : Array (Option Value)} {oc0 kV0 dc0 pm0 cd0 ct0 : Value}
    {f1 : Addr} {od1 an1 : Option Addr} {sl1 : Array (Option Value)} {oc1 kV1 dc1 pm1 cd1 ct1 : Value}
    {f2 : Addr} {od2 an2 : Option Addr} {sl2 : Array (Option Value)} {oc2 kV2 dc2 pm2 cd2 ct2 : Value}
    {f3 : Addr} {od3 an3 : Option Addr} {sl3 : Array (Option Value)} {oc3 kV3 dc3 pm3 cd3 ct3 : Value}
    {f4 : Addr} {od4 an4 : Option Addr} {sl4 : Array (Option Value)} {oc4 kV4 dc4 pm4 cd4 ct4 : Value}
    {f5 : Addr} {od5 an5 : Option Addr} {sl5 : Array (Option Value)} {oc5 kV5 dc5 pm5 cd5 ct5 : Value}
    {f6 : Addr} {od6 an6 : Option Addr} {sl6 : Array (Option Value)} {oc6 kV6 dc6 pm6 cd6 ct6 : Value}
    {f7 : Addr} {od7 an7 : Option Addr} {sl7 : Array (Option Value)} {oc7 kV7 dc7 pm7 cd7 ct7 : Value}
    {f8 : Addr} {od8 an8 : Option Addr} {sl8 : Array (Option Value)} {oc8 kV8 dc8 pm8 cd8 ct8 : Value}
    {f9 : Addr} {od9 an9 : Option Addr} {sl9 : Array (Option Value)} {oc9 kV9 dc9 pm9 cd9 ct9 : Value}
    {f10 : Addr} {od10 an10 : Option Addr} {sl10 : Array (Option Value)} {oc10 kV10 dc10 pm10 cd10 ct10 : Value}
    {f11 : Addr} {od11 an11 : Option Addr} {sl11 : Array (Option Value)} {oc11 kV11 dc11 pm11 cd11 ct11 : Value}
    {f12 : Addr} {od12 an12 : Option Addr} {sl12 : Array (Option Value)} {oc12 kV12 dc12 pm12 cd12 ct12 : Value}
    {f13 : Addr} {od13 an13 : Option Addr} {sl13 : Array (Option Value)} {oc13 kV13 dc13 pm13 cd13 ct13 : Value}
    {f14 : Addr} {od14 an14 : Option Addr} {sl14 : Array (Option Value)} {oc14 kV14 dc14 pm14 cd14 ct14 : Value}
    {f15 : Addr} {od15 an15 : Option Addr} {sl15 : Array (Option Value)} {oc15 kV15 dc15 pm15 cd15 ct15 : Value}
    {f16 : Addr} {od16 an16 : Option Addr} {sl16 : Array (Option Value)} {oc16 kV16 dc16 pm16 cd16 ct16 : Value}
    {f17 : Addr} {od17 an17 : Option Addr} {sl17 : Array (Option Value)} {oc17 kV17 dc17 pm17 cd17 ct17 : Value}
    {f18 : Addr} {od18 an18 : Option Addr} {sl18 : Array (Option Value)} {oc18 kV18 dc18 pm18 cd18 ct18 : Value}
    {f19 : Addr} {od19 an19 : Option Addr} {sl19 : Array (Option Value)} {oc19 kV19 dc19 pm19 cd19 ct19 : Value}
    {f20 : Addr} {od20 an20 : Option Addr} {sl20 : Array (Option Value)} {oc20 kV20 dc20 pm20 cd20 ct20 : Value}
    {f21 : Addr} {od21 an21 : Option Addr} {sl21 : Array (Option Value)} {oc21 kV21 dc21 pm21 cd21 ct21 : Value}
    {f22 : Addr} {od22 an22 : Option Addr} {sl22 : Array (Option Value)} {oc22 kV22 dc22 pm22 cd22 ct22 : Value}
    {f23 : Addr} {od23 an23 : Option Addr} {sl23 : Array (Option Value)} {oc23 kV23 dc23 pm23 cd23 ct23 : Value}
    {f24 : Addr} {od24 an24 : Option Addr} {sl24 : Array (Option Value)} {oc24 kV24 dc24 pm24 cd24 ct24 : Value}
    {f25 : Addr} {od25 an25 : Option Addr} {sl25 : Array (Option Value)} {oc25 kV25 dc25 pm25 cd25 ct25 : Value}
    {f26 : Addr} {od26 an26 : Option Addr} {sl26 : Array (Option Value)} {oc26 kV26 dc26 pm26 cd26 ct26 : Value}
    {f27 : Addr} {od27 an27 : Option Addr} {sl27 : Array (Option Value)} {oc27 kV27 dc27 pm27 cd27 ct27 : Value}
    {f28 : Addr} {od28 an28 : Option Addr} {sl28 : Array (Option Value)} {oc28 kV28 dc28 pm28 cd28 ct28 : Value}
    {f29 : Addr} {od29 an29 : Option Addr} {sl29 : Array (Option Value)} {oc29 kV29 dc29 pm29 cd29 ct29 : Value}
    {f30 : Addr} {od30 an30 : Option Addr} {sl30 : Array (Option Value)} {oc30 kV30 dc30 pm30 cd30 ct30 : Value}
    {f31 : Addr} {od31 an31 : Option Addr} {sl31 : Array (Option Value)} {oc31 kV31 dc31 pm31 cd31 ct31 : Value}
    {f32 : Addr} {od32 an32 : Option Addr} {sl32 : Array (Option Value)} {oc32 kV32 dc32 pm32 cd32 ct32 : Value}
    {f33 : Addr} {od33 an33 : Option Addr} {sl33 : Array (Option Value)} {oc33 kV33 dc33 pm33 cd33 ct33 : Value}
    {f34 : Addr} {od34 an34 : Option Addr} {sl34 : Array (Option Value)} {oc34 kV34 dc34 pm34 cd34 ct34 : Value}
    {f35 : Addr} {od35 an35 : Option Addr} {sl35 : Array (Option Value)} {oc35 kV35 dc35 pm35 cd35 ct35 : Value}
    {C_FieldError : Addr}
    {C_InvalidRing : Addr}
    {I_InvalidRing N_InvalidRing : Addr} {nm_InvalidRing qn_InvalidRing : Str} {bs_InvalidRing bm_InvalidRing sub_InvalidRing : List Value} {sn_InvalidRing : List Str} {ab_InvalidRing : Bool} {co_InvalidRing : Option Bool} {dd_InvalidRing od_InvalidRing an_InvalidRing : Option Addr} {m0_InvalidRing m1_InvalidRing m2_InvalidRing m3_InvalidRing m5_InvalidRing : Option Value} {oc_InvalidRing dc_InvalidRing pm_InvalidRing cd_InvalidRing ct_InvalidRing : Value} {sl_InvalidRing : Array (Option Value)}
    {qt__FARTHEST : Tok}
    (a0 : PySem.W.nsIn K mainGlobals "is_int" = some (some (.ref f0)))
    (l0 : K.lookup f0 = some ⟨oc0, od0, .func (PySem.W.fnOf "is_int" "is_int" (defArgs s_is_int) (defBody s_is_int) (defScope s_is_int) .none kV0 dc0 pm0 an0 cd0 ct0), sl0⟩)
    (c0 : PySem.W.codeIn K cd0 "is_int" = true)
    (k0 : PySem.W.keepIn K (.ref f0) = true)
    (a1 : PySem.W.nsIn K mainGlobals "is_tuple_of" = some (some (.ref f1)))
    (l1 : K.lookup f1 = some ⟨oc1, od1, .func (PySem.W.fnOf "is_tuple_of" "is_tuple_of" (defArgs s_is_tuple_of) (defBody s_is_tuple_of) (defScope s_is_tuple_of) .none kV1 dc1 pm1 an1 cd1 ct1), sl1⟩)
    (c1 : PySem.W.codeIn K cd1 "is_tuple_of" = true)
    (k1 : PySem.W.keepIn K (.ref f1) = true)
    (a2 : PySem.W.nsIn K mainGlobals "are_ints" = some (some (.ref f2)))
    (l2 : K.lookup f2 = some ⟨oc2, od2, .func (PySem.W.fnOf "are_ints" "are_ints" (defArgs s_are_ints) (defBody s_are_ints) (defScope s_are_ints) .none kV2 dc2 pm2 an2 cd2 ct2), sl2⟩)
    (c2 : PySem.W.codeIn K cd2 "are_ints" = true)
    (k2 : PySem.W.keepIn K (.ref f2) = true)
    (a3 : PySem.W.nsIn K mainGlobals "whole" = some (some (.ref f3)))
    (l3 : K.lookup f3 = some ⟨oc3, od3, .func (PySem.W.fnOf "whole" "whole" (defArgs s_whole) (defBody s_whole) (defScope s_whole) .none kV3 dc3 pm3 an3 cd3 ct3), sl3⟩)
    (c3 : PySem.W.codeIn K cd3 "whole" = true)
    (k3 : PySem.W.keepIn K (.ref f3) = true)
    (a4 : PySem.W.nsIn K mainGlobals "sign_of" = some (some (.ref f4)))
    (l4 : K.lookup f4 = some ⟨oc4, od4, .func (PySem.W.fnOf "sign_of" "sign_of" (defArgs s_sign_of) (defBody s_sign_of) (defScope s_sign_of) .none kV4 dc4 pm4 an4 cd4 ct4), sl4⟩)
    (c4 : PySem.W.codeIn K cd4 "sign_of" = true)
    (k4 : PySem.W.keepIn K (.ref f4) = true)
    (a5 : PySem.W.nsIn K mainGlobals "whole_area" = some (some (.ref f5)))
    (l5 : K.lookup f5 = some ⟨oc5, od5, .func (PySem.W.fnOf "whole_area" "whole_area" (defArgs s_whole_area) (defBody s_whole_area) (defScope s_whole_area) .none kV5 dc5 pm5 an5 cd5 ct5), sl5⟩)
    (c5 : PySem.W.codeIn K cd5 "whole_area" = true)
    (k5 : PySem.W.keepIn K (.ref f5) = true)
    (a6 : PySem.W.nsIn K mainGlobals "whole_turn" = some (some (.ref f6)))
    (l6 : K.lookup f6 = some ⟨oc6, od6, .func (PySem.W.fnOf "whole_turn" "whole_turn" (defArgs s_whole_turn) (defBody s_whole_turn) (defScope s_whole_turn) .none kV6 dc6 pm6 an6 cd6 ct6), sl6⟩)
    (c6 : PySem.W.codeIn K cd6 "whole_turn" = true)
    (k6 : PySem.W.keepIn K (.ref f6) = true)
    (a7 : PySem.W.nsIn K mainGlobals "whole_on" = some (some (.ref f7)))
    (l7 : K.lookup f7 = some ⟨oc7, od7, .func (PySem.W.fnOf "whole_on" "whole_on" (defArgs s_whole_on) (defBody s_whole_on) (defScope s_whole_on) .none kV7 dc7 pm7 an7 cd7 ct7), sl7⟩)
    (c7 : PySem.W.codeIn K cd7 "whole_on" = true)
    (k7 : PySem.W.keepIn K (.ref f7) = true)
    (a8 : PySem.W.nsIn K mainGlobals "whole_crosses" = some (some (.ref f8)))
    (l8 : K.lookup f8 = some ⟨oc8, od8, .func (PySem.W.fnOf "whole_crosses" "whole_crosses" (defArgs s_whole_crosses) (defBody s_whole_crosses) (defScope s_whole_crosses) .none kV8 dc8 pm8 an8 cd8 ct8), sl8⟩)
    (c8 : PySem.W.codeIn K cd8 "whole_crosses" = true)
    (k8 : PySem.W.keepIn K (.ref f8) = true)
    (a9 : PySem.W.nsIn K mainGlobals "sides_along" = some (some (.ref f9)))
    (l9 : K.lookup f9 = some ⟨oc9, od9, .func (PySem.W.fnOf "sides_along" "sides_along" (defArgs s_sides_along) (defBody s_sides_along) (defScope s_sides_along) .none kV9 dc9 pm9 an9 cd9 ct9), sl9⟩)
    (c9 : PySem.W.codeIn K cd9 "sides_along" = true)
    (k9 : PySem.W.keepIn K (.ref f9) = true)
    (a10 : PySem.W.nsIn K mainGlobals "_apart" = some (some (.ref f10)))
    (l10 : K.lookup f10 = some ⟨oc10, od10, .func (PySem.W.fnOf "_apart" "_apart" (defArgs s__apart) (defBody s__apart) (defScope s__apart) .none kV10 dc10 pm10 an10 cd10 ct10), sl10⟩)
    (c10 : PySem.W.codeIn K cd10 "_apart" = true)
    (k10 : PySem.W.keepIn K (.ref f10) = true)
    (a11 : PySem.W.nsIn K mainGlobals "_meet" = some (some (.ref f11)))
    (l11 : K.lookup f11 = some ⟨oc11, od11, .func (PySem.W.fnOf "_meet" "_meet" (defArgs s__meet) (defBody s__meet) (defScope s__meet) .none kV11 dc11 pm11 an11 cd11 ct11), sl11⟩)
    (c11 : PySem.W.codeIn K cd11 "_meet" = true)
    (k11 : PySem.W.keepIn K (.ref f11) = true)
    (a12 : PySem.W.nsIn K mainGlobals "turns_back" = some (some (.ref f12)))
    (l12 : K.lookup f12 = some ⟨oc12, od12, .func (PySem.W.fnOf "turns_back" "turns_back" (defArgs s_turns_back) (defBody s_turns_back) (defScope s_turns_back) .none kV12 dc12 pm12 an12 cd12 ct12), sl12⟩)
    (c12 : PySem.W.codeIn K cd12 "turns_back" = true)
    (k12 : PySem.W.keepIn K (.ref f12) = true)
    (a13 : PySem.W.nsIn K mainGlobals "meets_itself" = some (some (.ref f13)))
    (l13 : K.lookup f13 = some ⟨oc13, od13, .func (PySem.W.fnOf "meets_itself" "meets_itself" (defArgs s_meets_itself) (defBody s_meets_itself) (defScope s_meets_itself) .none kV13 dc13 pm13 an13 cd13 ct13), sl13⟩)
    (c13 : PySem.W.codeIn K cd13 "meets_itself" = true)
    (k13 : PySem.W.keepIn K (.ref f13) = true)
    (a14 : PySem.W.nsIn K mainGlobals "is_corner" = some (some (.ref f14)))
    (l14 : K.lookup f14 = some ⟨oc14, od14, .func (PySem.W.fnOf "is_corner" "is_corner" (defArgs s_is_corner) (defBody s_is_corner) (defScope s_is_corner) .none kV14 dc14 pm14 an14 cd14 ct14), sl14⟩)
    (c14 : PySem.W.codeIn K cd14 "is_corner" = true)
    (k14 : PySem.W.keepIn K (.ref f14) = true)
    (a15 : PySem.W.nsIn K mainGlobals "ring_sides" = some (some (.ref f15)))
    (l15 : K.lookup f15 = some ⟨oc15, od15, .func (PySem.W.fnOf "ring_sides" "ring_sides" (defArgs s_ring_sides) (defBody s_ring_sides) (defScope s_ring_sides) .none kV15 dc15 pm15 an15 cd15 ct15), sl15⟩)
    (c15 : PySem.W.codeIn K cd15 "ring_sides" = true)
    (k15 : PySem.W.keepIn K (.ref f15) = true)
    (a16 : PySem.W.nsIn K mainGlobals "need_ring" = some (some (.ref f16)))
    (l16 : K.lookup f16 = some ⟨oc16, od16, .func (PySem.W.fnOf "need_ring" "need_ring" (defArgs s_need_ring) (defBody s_need_ring) (defScope s_need_ring) .none kV16 dc16 pm16 an16 cd16 ct16), sl16⟩)
    (c16 : PySem.W.codeIn K cd16 "need_ring" = true)
    (k16 : PySem.W.keepIn K (.ref f16) = true)
    (a17 : PySem.W.nsIn K mainGlobals "is_ring" = some (some (.ref f17)))
    (l17 : K.lookup f17 = some ⟨oc17, od17, .func (PySem.W.fnOf "is_ring" "is_ring" (defArgs s_is_ring) (defBody s_is_ring) (defScope s_is_ring) .none kV17 dc17 pm17 an17 cd17 ct17), sl17⟩)
    (c17 : PySem.W.codeIn K cd17 "is_ring" = true)
    (k17 : PySem.W.keepIn K (.ref f17) = true)
    (a18 : PySem.W.nsIn K mainGlobals "_law_deal" = some (some (.ref f18)))
    (l18 : K.lookup f18 = some ⟨oc18, od18, .func (PySem.W.fnOf "_law_deal" "_law_deal" (defArgs s__law_deal) (defBody s__law_deal) (defScope s__law_deal) .none kV18 dc18 pm18 an18 cd18 ct18), sl18⟩)
    (c18 : PySem.W.codeIn K cd18 "_law_deal" = true)
    (k18 : PySem.W.keepIn K (.ref f18) = true)
    (a19 : PySem.W.nsIn K mainGlobals "_law_any" = some (some (.ref f19)))
    (l19 : K.lookup f19 = some ⟨oc19, od19, .func (PySem.W.fnOf "_law_any" "_law_any" (defArgs s__law_any) (defBody s__law_any) (defScope s__law_any) .none kV19 dc19 pm19 an19 cd19 ct19), sl19⟩)
    (c19 : PySem.W.codeIn K cd19 "_law_any" = true)
    (k19 : PySem.W.keepIn K (.ref f19) = true)
    (a20 : PySem.W.nsIn K mainGlobals "_law_of" = some (some (.ref f20)))
    (l20 : K.lookup f20 = some ⟨oc20, od20, .func (PySem.W.fnOf "_law_of" "_law_of" (defArgs s__law_of) (defBody s__law_of) (defScope s__law_of) .none kV20 dc20 pm20 an20 cd20 ct20), sl20⟩)
    (c20 : PySem.W.codeIn K cd20 "_law_of" = true)
    (k20 : PySem.W.keepIn K (.ref f20) = true)
    (a21 : PySem.W.nsIn K mainGlobals "_law_star" = some (some (.ref f21)))
    (l21 : K.lookup f21 = some ⟨oc21, od21, .func (PySem.W.fnOf "_law_star" "_law_star" (defArgs s__law_star) (defBody s__law_star) (defScope s__law_star) .none kV21 dc21 pm21 an21 cd21 ct21), sl21⟩)
    (c21 : PySem.W.codeIn K cd21 "_law_star" = true)
    (k21 : PySem.W.keepIn K (.ref f21) = true)
    (a22 : PySem.W.nsIn K mainGlobals "_law_wave" = some (some (.ref f22)))
    (l22 : K.lookup f22 = some ⟨oc22, od22, .func (PySem.W.fnOf "_law_wave" "_law_wave" (defArgs s__law_wave) (defBody s__law_wave) (defScope s__law_wave) .none kV22 dc22 pm22 an22 cd22 ct22), sl22⟩)
    (c22 : PySem.W.codeIn K cd22 "_law_wave" = true)
    (k22 : PySem.W.keepIn K (.ref f22) = true)
    (a23 : PySem.W.nsIn K mainGlobals "_law_more" = some (some (.ref f23)))
    (l23 : K.lookup f23 = some ⟨oc23, od23, .func (PySem.W.fnOf "_law_more" "_law_more" (defArgs s__law_more) (defBody s__law_more) (defScope s__law_more) .none kV23 dc23 pm23 an23 cd23 ct23), sl23⟩)
    (c23 : PySem.W.codeIn K cd23 "_law_more" = true)
    (k23 : PySem.W.keepIn K (.ref f23) = true)
    (a24 : PySem.W.nsIn K mainGlobals "_law_map" = some (some (.ref f24)))
    (l24 : K.lookup f24 = some ⟨oc24, od24, .func (PySem.W.fnOf "_law_map" "_law_map" (defArgs s__law_map) (defBody s__law_map) (defScope s__law_map) .none kV24 dc24 pm24 an24 cd24 ct24), sl24⟩)
    (c24 : PySem.W.codeIn K cd24 "_law_map" = true)
    (k24 : PySem.W.keepIn K (.ref f24) = true)
    (a25 : PySem.W.nsIn K mainGlobals "_law_put" = some (some (.ref f25)))
    (l25 : K.lookup f25 = some ⟨oc25, od25, .func (PySem.W.fnOf "_law_put" "_law_put" (defArgs s__law_put) (defBody s__law_put) (defScope s__law_put) .none kV25 dc25 pm25 an25 cd25 ct25), sl25⟩)
    (c25 : PySem.W.codeIn K cd25 "_law_put" = true)
    (k25 : PySem.W.keepIn K (.ref f25) = true)
    (a26 : PySem.W.nsIn K mainGlobals "_law_ring" = some (some (.ref f26)))
    (l26 : K.lookup f26 = some ⟨oc26, od26, .func (PySem.W.fnOf "_law_ring" "_law_ring" (defArgs s__law_ring) (defBody s__law_ring) (defScope s__law_ring) .none kV26 dc26 pm26 an26 cd26 ct26), sl26⟩)
    (c26 : PySem.W.codeIn K cd26 "_law_ring" = true)
    (k26 : PySem.W.keepIn K (.ref f26) = true)
    (a27 : PySem.W.nsIn K mainGlobals "_law_is_int" = some (some (.ref f27)))
    (l27 : K.lookup f27 = some ⟨oc27, od27, .func (PySem.W.fnOf "_law_is_int" "_law_is_int" (defArgs s__law_is_int) (defBody s__law_is_int) (defScope s__law_is_int) .none kV27 dc27 pm27 an27 cd27 ct27), sl27⟩)
    (c27 : PySem.W.codeIn K cd27 "_law_is_int" = true)
    (k27 : PySem.W.keepIn K (.ref f27) = true)
    (a28 : PySem.W.nsIn K mainGlobals "_law_cross" = some (some (.ref f28)))
    (l28 : K.lookup f28 = some ⟨oc28, od28, .func (PySem.W.fnOf "_law_cross" "_law_cross" (defArgs s__law_cross) (defBody s__law_cross) (defScope s__law_cross) .none kV28 dc28 pm28 an28 cd28 ct28), sl28⟩)
    (c28 : PySem.W.codeIn K cd28 "_law_cross" = true)
    (k28 : PySem.W.keepIn K (.ref f28) = true)
    (a29 : PySem.W.nsIn K mainGlobals "_law_is_within" = some (some (.ref f29)))
    (l29 : K.lookup f29 = some ⟨oc29, od29, .func (PySem.W.fnOf "_law_is_within" "_law_is_within" (defArgs s__law_is_within) (defBody s__law_is_within) (defScope s__law_is_within) .none kV29 dc29 pm29 an29 cd29 ct29), sl29⟩)
    (c29 : PySem.W.codeIn K cd29 "_law_is_within" = true)
    (k29 : PySem.W.keepIn K (.ref f29) = true)
    (a30 : PySem.W.nsIn K mainGlobals "_law_meet" = some (some (.ref f30)))
    (l30 : K.lookup f30 = some ⟨oc30, od30, .func (PySem.W.fnOf "_law_meet" "_law_meet" (defArgs s__law_meet) (defBody s__law_meet) (defScope s__law_meet) .none kV30 dc30 pm30 an30 cd30 ct30), sl30⟩)
    (c30 : PySem.W.codeIn K cd30 "_law_meet" = true)
    (k30 : PySem.W.keepIn K (.ref f30) = true)
    (a31 : PySem.W.nsIn K mainGlobals "_law_corner_fault" = some (some (.ref f31)))
    (l31 : K.lookup f31 = some ⟨oc31, od31, .func (PySem.W.fnOf "_law_corner_fault" "_law_corner_fault" (defArgs s__law_corner_fault) (defBody s__law_corner_fault) (defScope s__law_corner_fault) .none kV31 dc31 pm31 an31 cd31 ct31), sl31⟩)
    (c31 : PySem.W.codeIn K cd31 "_law_corner_fault" = true)
    (k31 : PySem.W.keepIn K (.ref f31) = true)
    (a32 : PySem.W.nsIn K mainGlobals "_law_ring_fault" = some (some (.ref f32)))
    (l32 : K.lookup f32 = some ⟨oc32, od32, .func (PySem.W.fnOf "_law_ring_fault" "_law_ring_fault" (defArgs s__law_ring_fault) (defBody s__law_ring_fault) (defScope s__law_ring_fault) .none kV32 dc32 pm32 an32 cd32 ct32), sl32⟩)
    (c32 : PySem.W.codeIn K cd32 "_law_ring_fault" = true)
    (k32 : PySem.W.keepIn K (.ref f32) = true)
    (a33 : PySem.W.nsIn K mainGlobals "_law_heard" = some (some (.ref f33)))
    (l33 : K.lookup f33 = some ⟨oc33, od33, .func (PySem.W.fnOf "_law_heard" "_law_heard" (defArgs s__law_heard) (defBody s__law_heard) (defScope s__law_heard) .none kV33 dc33 pm33 an33 cd33 ct33), sl33⟩)
    (c33 : PySem.W.codeIn K cd33 "_law_heard" = true)
    (k33 : PySem.W.keepIn K (.ref f33) = true)
    (a34 : PySem.W.nsIn K mainGlobals "_law_bent" = some (some (.ref f34)))
    (l34 : K.lookup f34 = some ⟨oc34, od34, .func (PySem.W.fnOf "_law_bent" "_law_bent" (defArgs s__law_bent) (defBody s__law_bent) (defScope s__law_bent) .none kV34 dc34 pm34 an34 cd34 ct34), sl34⟩)
    (c34 : PySem.W.codeIn K cd34 "_law_bent" = true)
    (k34 : PySem.W.keepIn K (.ref f34) = true)
    (a35 : PySem.W.nsIn K mainGlobals "law" = some (some (.ref f35)))
    (l35 : K.lookup f35 = some ⟨oc35, od35, .func (PySem.W.fnOf "law" "law" (defArgs s_law) (defBody s_law) (defScope s_law) .none kV35 dc35 pm35 an35 cd35 ct35), sl35⟩)
    (c35 : PySem.W.codeIn K cd35 "law" = true)
    (k35 : PySem.W.keepIn K (.ref f35) = true)
    (z_abs : PySem.W.nsIn K mainGlobals "abs" = some none)
    (z_all : PySem.W.nsIn K mainGlobals "all" = some none)
    (z_bool : PySem.W.nsIn K mainGlobals "bool" = some none)
    (z_enumerate : PySem.W.nsIn K mainGlobals "enumerate" = some none)
    (z_int : PySem.W.nsIn K mainGlobals "int" = some none)
    (z_isinstance : PySem.W.nsIn K mainGlobals "isinstance" = some none)
    (z_len : PySem.W.nsIn K mainGlobals "len" = some none)
    (z_list : PySem.W.nsIn K mainGlobals "list" = some none)
    (z_max : PySem.W.nsIn K mainGlobals "max" = some none)
    (z_min : PySem.W.nsIn K mainGlobals "min" = some none)
    (z_range : PySem.W.nsIn K mainGlobals "range" = some none)
    (z_repr : PySem.W.nsIn K mainGlobals "repr" = some none)
    (z_tuple : PySem.W.nsIn K mainGlobals "tuple" = some none)
    (z_zip : PySem.W.nsIn K mainGlobals "zip" = some none)
    (g_FieldError : PySem.W.nsIn K mainGlobals "FieldError" = some (some (.ref C_FieldError)))
    (g_InvalidRing : PySem.W.nsIn K mainGlobals "InvalidRing" = some (some (.ref C_InvalidRing)))
    (xl_InvalidRing : K.lookup C_InvalidRing = some (excClassObj nm_InvalidRing qn_InvalidRing C_InvalidRing N_InvalidRing bs_InvalidRing bm_InvalidRing true sn_InvalidRing sub_InvalidRing ab_InvalidRing co_InvalidRing dd_InvalidRing m0_InvalidRing m1_InvalidRing m2_InvalidRing m3_InvalidRing m5_InvalidRing "Exception.__new__"))
    (xr_InvalidRing : Refs bm_InvalidRing)
    (xk_InvalidRing : PySem.W.keepIn K (.ref C_InvalidRing) = true)
    (xe_InvalidRing : PySem.W.subIn K (.ref C_InvalidRing) (.type "BaseException") = some true)
    (xt_InvalidRing : PySem.W.typeIn K (.ref C_InvalidRing) = some (.type "type"))
    (xh_InvalidRing : PySem.W.hasDictIn K C_InvalidRing = true)
    (xs_InvalidRing : PySem.W.findIn K (.ref C_InvalidRing) "__setattr__" = some (some (.builtin "object.__setattr__")))
    (xn_InvalidRing : PySem.W.findIn K (.ref C_InvalidRing) "at" = some none)
    (xi_InvalidRing : PySem.W.findIn K (.ref C_InvalidRing) "__init__" = some (some (.ref I_InvalidRing)))
    (xu_InvalidRing : PySem.W.typeIn K (.ref I_InvalidRing) = some (.type "function"))
    (xf_InvalidRing : K.lookup I_InvalidRing = some ⟨oc_InvalidRing, od_InvalidRing, .func (PySem.W.fnOf "__init__" "InvalidRing.__init__" (XI.iA "at" ⟨6, 17, 6, 21⟩ ⟨6, 23, 6, 25⟩) (XI.iB "at" ⟨7, 8, 7, 12⟩ ⟨7, 8, 7, 15⟩ ⟨7, 18, 7, 20⟩ ⟨7, 8, 7, 20⟩) (XI.iS "at") .none .none dc_InvalidRing pm_InvalidRing an_InvalidRing cd_InvalidRing ct_InvalidRing), sl_InvalidRing⟩)
    (xc_InvalidRing : PySem.W.codeIn K cd_InvalidRing "InvalidRing.__init__" = true)
    (ga_InvalidRing : PySem.W.findIn K (.ref C_InvalidRing) "__getattribute__" = some (some (.builtin "BaseException.__getattribute__")))
    (gg_InvalidRing : PySem.W.findIn K (.ref C_InvalidRing) "__getattr__" = some none)
    (ge_InvalidRing : PySem.W.subIn K (.ref C_InvalidRing) (.type "BaseException") = some true)
    (gh_InvalidRing : PySem.W.hasDictIn K C_InvalidRing = true)
    (nf_InvalidRing_at : PySem.W.findIn K (.ref C_InvalidRing) "at" = some none)
    (oc_get : PySem.W.specialIn K (.builtin "object.__class__") "__get__" = some (some (.builtin "getset_descriptor.__get__")))
    (oc_tak : PySem.W.takesIn K (.builtin "object.__class__") = some true)
    (ja_InvalidRing : PySem.W.findIn K (.ref C_InvalidRing) "__class__" = some (some (.builtin "object.__class__")))
    (jm_InvalidRing : PySem.W.mroIn K C_InvalidRing (.type "object") = some true)
    (js_InvalidRing_FieldError : PySem.W.kitOne K (.ref C_InvalidRing) (.ref C_FieldError) = some true)
    (te_InvalidRing : PySem.W.exmOne K (.ref C_InvalidRing) (.ref C_InvalidRing) = some true)
    (q__FARTHEST : PySem.W.nsIn K mainGlobals "_FARTHEST" = some (some (.int 1000 qt__FARTHEST))) :
    ∃ fd : FuncData, (∀ (s : Shared) (v : Value), BindsTo s fd ⟨[v], []⟩ [("script", v)]) ∧ ∀ base : Heap, K.In base → base.Ns mainGlobals mg → FnG l.prog w K mg base 8 fa fd ["script"] M_law := by
  have e := hfa.symm.trans (PySem.W.mg_of X G a35)
  cases e
  have F0 := fun_mk (st := s_is_int) l0 c0 k0
  have F1 := fun_mk (st := s_is_tuple_of) l1 c1 k1
  have F2 := fun_mk (st := s_are_ints) l2 c2 k2
  have F3 := fun_mk (st := s_whole) l3 c3 k3
  have F4 := fun_mk (st := s_sign_of) l4 c4 k4
  have F5 := fun_mk (st := s_whole_area) l5 c5 k5
  have F6 := fun_mk (st := s_whole_turn) l6 c6 k6
  have F7 := fun_mk (st := s_whole_on) l7 c7 k7
  have F8 := fun_mk (st := s_whole_crosses) l8 c8 k8
  have F9 := fun_mk (st := s_sides_along) l9 c9 k9
  have F10 := fun_mk (st := s__apart) l10 c10 k10
  have F11 := fun_mk (st := s__meet) l11 c11 k11
  have F12 := fun_mk (st := s_turns_back) l12 c12 k12
  have F13 := fun_mk (st := s_meets_itself) l13 c13 k13
  have F14 := fun_mk (st := s_is_corner) l14 c14 k14
  have F15 := fun_mk (st := s_ring_sides) l15 c15 k15
  have F16 := fun_mk (st := s_need_ring) l16 c16 k16
  have F17 := fun_mk (st := s_is_ring) l17 c17 k17
  have F18 := fun_mk (st := s__law_deal) l18 c18 k18
  have F19 := fun_mk (st := s__law_any) l19 c19 k19
  have F20 := fun_mk (st := s__law_of) l20 c20 k20
  have F21 := fun_mk (st := s__law_star) l21 c21 k21
  have F22 := fun_mk (st := s__law_wave) l22 c22 k22
  have F23 := fun_mk (st := s__law_more) l23 c23 k23
  have F24 := fun_mk (st := s__law_map) l24 c24 k24
  have F25 := fun_mk (st := s__law_put) l25 c25 k25
  have F26 := fun_mk (st := s__law_ring) l26 c26 k26
  have F27 := fun_mk (st := s__law_is_int) l27 c27 k27
  have F28 := fun_mk (st := s__law_cross) l28 c28 k28
  have F29 := fun_mk (st := s__law_is_within) l29 c29 k29
  have F30 := fun_mk (st := s__law_meet) l30 c30 k30
  have F31 := fun_mk (st := s__law_corner_fault) l31 c31 k31
  have F32 := fun_mk (st := s__law_ring_fault) l32 c32 k32
  have F33 := fun_mk (st := s__law_heard) l33 c33 k33
  have F34 := fun_mk (st := s__law_bent) l34 c34 k34
  have F35 := fun_mk (st := s_law) l35 c35 k35
  have X_InvalidRing : XCls K mg "InvalidRing" C_InvalidRing := ⟨PySem.W.mg_of X G g_InvalidRing, ⟨nm_InvalidRing, qn_InvalidRing, N_InvalidRing, bs_InvalidRing, _, sn_InvalidRing, sub_InvalidRing, ab_InvalidRing, co_InvalidRing, dd_InvalidRing, m0_InvalidRing, m1_InvalidRing, m2_InvalidRing, m3_InvalidRing, m5_InvalidRing, xl_InvalidRing, xr_InvalidRing⟩, xk_InvalidRing, xe_InvalidRing, xt_InvalidRing, xh_InvalidRing⟩
  have T : Txt K mg { a_is_int := f0, fd_is_int := _, a_is_tuple_of := f1, fd_is_tuple_of := _, a_are_ints := f2, fd_are_ints := _, a_whole := f3, fd_whole := _, a_sign_of := f4, fd_sign_of := _, a_whole_area := f5, fd_whole_area := _, a_whole_turn := f6, fd_whole_turn := _, a_whole_on := f7, fd_whole_on := _, a_whole_crosses := f8, fd_whole_crosses := _, a_sides_along := f9, fd_sides_along := _, a__apart := f10, fd__apart := _, a__meet := f11, fd__meet := _, a_turns_back := f12, fd_turns_back := _, a_meets_itself := f13, fd_meets_itself := _, a_is_corner := f14, fd_is_corner := _, a_ring_sides := f15, fd_ring_sides := _, a_need_ring := f16, fd_need_ring := _, a_is_ring := f17, fd_is_ring := _, a__law_deal := f18, fd__law_deal := _, a__law_any := f19, fd__law_any := _, a__law_of := f20, fd__law_of := _, a__law_star := f21, fd__law_star := _, a__law_wave := f22, fd__law_wave := _, a__law_more := f23, fd__law_more := _, a__law_map := f24, fd__law_map := _, a__law_put := f25, fd__law_put := _, a__law_ring := f26, fd__law_ring := _, a__law_is_int := f27, fd__law_is_int := _, a__law_cross := f28, fd__law_cross := _, a__law_is_within := f29, fd__law_is_within := _, a__law_meet := f30, fd__law_meet := _, a__law_corner_fault := f31, fd__law_corner_fault := _, a__law_ring_fault := f32, fd__law_ring_fault := _, a__law_heard := f33, fd__law_heard := _, a__law_bent := f34, fd__law_bent := _, a_law := fa, fd_law := _, c_FieldError := C_FieldError, c_InvalidRing := C_InvalidRing, i_InvalidRing := I_InvalidRing } := {
    d_is_int := ⟨F0, PySem.W.mg_of X G a0, k0⟩
    b_is_int := F0.binds fun _ _ _ _ _ _  us hl => match us, hl with | [_], _ => rfl
    d_is_tuple_of := ⟨F1, PySem.W.mg_of X G a1, k1⟩
    b_is_tuple_of := F1.binds fun _ _ _ _ _ _  us hl => match us, hl with | [_, _], _ => rfl
    d_are_ints := ⟨F2, PySem.W.mg_of X G a2, k2⟩
    b_are_ints := F2.binds fun _ _ _ _ _ _  us hl => match us, hl with | [_, _], _ => rfl
    d_whole := ⟨F3, PySem.W.mg_of X G a3, k3⟩
    b_whole := F3.binds fun _ _ _ _ _ _  us hl => match us, hl with | [_], _ => rfl
    d_sign_of := ⟨F4, PySem.W.mg_of X G a4, k4⟩
    b_sign_of := F4.binds fun _ _ _ _ _ _  us hl => match us, hl with | [_], _ => rfl
    d_whole_area := ⟨F5, PySem.W.mg_of X G a5, k5⟩
    b_whole_area := F5.binds fun _ _ _ _ _ _  us hl => match us, hl with | [_, _, _], _ => rfl
    d_whole_turn := ⟨F6, PySem.W.mg_of X G a6, k6⟩
    b_whole_turn := F6.binds fun _ _ _ _ _ _  us hl => match us, hl with | [_, _, _], _ => rfl
    d_whole_on := ⟨F7, PySem.W.mg_of X G a7, k7⟩
    b_whole_on := F7.binds fun _ _ _ _ _ _  us hl => match us, hl with | [_, _, _], _ => rfl
    d_whole_crosses := ⟨F8, PySem.W.mg_of X G a8, k8⟩
    b_whole_crosses := F8.binds fun _ _ _ _ _ _  us hl => match us, hl with | [_, _, _, _], _ => rfl
    d_sides_along := ⟨F9, PySem.W.mg_of X G a9, k9⟩
    b_sides_along := F9.binds fun _ _ _ _ _ _  us hl => match us, hl with | [_], _ => rfl
    d__apart := ⟨F10, PySem.W.mg_of X G a10, k10⟩
    b__apart := F10.binds fun _ _ _ _ _ _  us hl => match us, hl with | [_, _], _ => rfl
    d__meet := ⟨F11, PySem.W.mg_of X G a11, k11⟩
    b__meet := F11.binds fun _ _ _ _ _ _  us hl => match us, hl with | [_, _], _ => rfl
    d_turns_back := ⟨F12, PySem.W.mg_of X G a12, k12⟩
    b_turns_back := F12.binds fun _ _ _ _ _ _  us hl => match us, hl with | [_, _, _], _ => rfl
    d_meets_itself := ⟨F13, PySem.W.mg_of X G a13, k13⟩
    b_meets_itself := F13.binds fun _ _ _ _ _ _  us hl => match us, hl with | [_], _ => rfl
    d_is_corner := ⟨F14, PySem.W.mg_of X G a14, k14⟩
    b_is_corner := F14.binds fun _ _ _ _ _ _  us hl => match us, hl with | [_], _ => rfl
    k_is_corner_value := fun s us _ hl => match us, hl with | [_], _ => .of_eq rfl
    d_ring_sides := ⟨F15, PySem.W.mg_of X G a15, k15⟩
    b_ring_sides := F15.binds fun _ _ _ _ _ _  us hl => match us, hl with | [_], _ => rfl
    k_ring_sides_ring := fun s us _ hl => match us, hl with | [_], _ => .of_eq rfl
    d_need_ring := ⟨F16, PySem.W.mg_of X G a16, k16⟩
    b_need_ring := F16.binds fun _ _ _ _ _ _  us hl => match us, hl with | [_], _ => rfl
    k_need_ring_value := fun s us _ hl => match us, hl with | [_], _ => .of_eq rfl
    d_is_ring := ⟨F17, PySem.W.mg_of X G a17, k17⟩
    b_is_ring := F17.binds fun _ _ _ _ _ _  us hl => match us, hl with | [_], _ => rfl
    k_is_ring_value := fun s us _ hl => match us, hl with | [_], _ => .of_eq rfl
    d__law_deal := ⟨F18, PySem.W.mg_of X G a18, k18⟩
    b__law_deal := F18.binds fun _ _ _ _ _ _  us hl => match us, hl with | [_, _], _ => rfl
    d__law_any := ⟨F19, PySem.W.mg_of X G a19, k19⟩
    b__law_any := F19.binds fun _ _ _ _ _ _  us hl => match us, hl with | [_, _], _ => rfl
    d__law_of := ⟨F20, PySem.W.mg_of X G a20, k20⟩
    b__law_of := F20.binds fun _ _ _ _ _ _  us hl => match us, hl with | [_, _], _ => rfl
    d__law_star := ⟨F21, PySem.W.mg_of X G a21, k21⟩
    b__law_star := F21.binds fun _ _ _ _ _ _  us hl => match us, hl with | [_, _, _, _], _ => rfl
    d__law_wave := ⟨F22, PySem.W.mg_of X G a22, k22⟩
    b__law_wave := F22.binds fun _ _ _ _ _ _  us hl => match us, hl with | [_, _], _ => rfl
    d__law_more := ⟨F23, PySem.W.mg_of X G a23, k23⟩
    b__law_more := F23.binds fun _ _ _ _ _ _  us hl => match us, hl with | [_, _], _ => rfl
    d__law_map := ⟨F24, PySem.W.mg_of X G a24, k24⟩
    b__law_map := F24.binds fun _ _ _ _ _ _  us hl => match us, hl with | [_], _ => rfl
    d__law_put := ⟨F25, PySem.W.mg_of X G a25, k25⟩
    b__law_put := F25.binds fun _ _ _ _ _ _  us hl => match us, hl with | [_, _], _ => rfl
    d__law_ring := ⟨F26, PySem.W.mg_of X G a26, k26⟩
    b__law_ring := F26.binds fun _ _ _ _ _ _  us hl => match us, hl with | [_], _ => rfl
    d__law_is_int := ⟨F27, PySem.W.mg_of X G a27, k27⟩
    b__law_is_int := F27.binds fun _ _ _ _ _ _  us hl => match us, hl with | [_], _ => rfl
    d__law_cross := ⟨F28, PySem.W.mg_of X G a28, k28⟩
    b__law_cross := F28.binds fun _ _ _ _ _ _  us hl => match us, hl with | [_, _, _], _ => rfl
    d__law_is_within := ⟨F29, PySem.W.mg_of X G a29, k29⟩
    b__law_is_within := F29.binds fun _ _ _ _ _ _  us hl => match us, hl with | [_, _], _ => rfl
    d__law_meet := ⟨F30, PySem.W.mg_of X G a30, k30⟩
    b__law_meet := F30.binds fun _ _ _ _ _ _  us hl => match us, hl with | [_, _, _, _], _ => rfl
    d__law_corner_fault := ⟨F31, PySem.W.mg_of X G a31, k31⟩
    b__law_corner_fault := F31.binds fun _ _ _ _ _ _  us hl => match us, hl with | [_], _ => rfl
    d__law_ring_fault := ⟨F32, PySem.W.mg_of X G a32, k32⟩
    b__law_ring_fault := F32.binds fun _ _ _ _ _ _  us hl => match us, hl with | [_], _ => rfl
    d__law_heard := ⟨F33, PySem.W.mg_of X G a33, k33⟩
    b__law_heard := F33.binds fun _ _ _ _ _ _  us hl => match us, hl with | [_], _ => rfl
    d__law_bent := ⟨F34, PySem.W.mg_of X G a34, k34⟩
    b__law_bent := F34.binds fun _ _ _ _ _ _  us hl => match us, hl with | [_, _], _ => rfl
    d_law := ⟨F35, PySem.W.mg_of X G a35, k35⟩
    b_law := F35.binds fun _ _ _ _ _ _  us hl => match us, hl with | [_], _ => rfl
    n_abs := PySem.W.mg_none_of X G z_abs
    n_all := PySem.W.mg_none_of X G z_all
    n_bool := PySem.W.mg_none_of X G z_bool
    n_enumerate := PySem.W.mg_none_of X G z_enumerate
    n_int := PySem.W.mg_none_of X G z_int
    n_isinstance := PySem.W.mg_none_of X G z_isinstance
    n_len := PySem.W.mg_none_of X G z_len
    n_list := PySem.W.mg_none_of X G z_list
    n_max := PySem.W.mg_none_of X G z_max
    n_min := PySem.W.mg_none_of X G z_min
    n_range := PySem.W.mg_none_of X G z_range
    n_repr := PySem.W.mg_none_of X G z_repr
    n_tuple := PySem.W.mg_none_of X G z_tuple
    n_zip := PySem.W.mg_none_of X G z_zip
    g_FieldError := PySem.W.mg_of X G g_FieldError
    g_InvalidRing := PySem.W.mg_of X G g_InvalidRing
    x_InvalidRing := XOwn.mk' X_InvalidRing xs_InvalidRing xn_InvalidRing xi_InvalidRing xu_InvalidRing ⟨_, _, _, _, _, _, _, _, _, _, _, _, _, _, xf_InvalidRing, xc_InvalidRing⟩ xbind_at (by decide) (by decide)
    f_InvalidRing := ⟨ga_InvalidRing, gg_InvalidRing, ge_InvalidRing, gh_InvalidRing⟩
    nf_InvalidRing_at := nf_InvalidRing_at
    is_InvalidRing := ⟨ga_InvalidRing, gg_InvalidRing, ge_InvalidRing, gh_InvalidRing, ja_InvalidRing, oc_get, oc_tak, jm_InvalidRing⟩
    is_InvalidRing_FieldError := js_InvalidRing_FieldError
    t_InvalidRing := only_exm (PySem.W.mg_of X G g_InvalidRing) te_InvalidRing
    m__FARTHEST := ⟨_, PySem.W.mg_of X G q__FARTHEST⟩ }
  exact ⟨PySem.W.fnOf "law" "law" (defArgs s_law) (defBody s_law) (defScope s_law) .none kV35 dc35 pm35 an35 cd35 ct35, fun s v => .of_eq rfl, fun base _ _ => g_law T⟩
end LW

open PySem PySem.W PyProof.Rows
set_option maxRecDepth 100000 in
set_option maxHeartbeats 0 in
theorem PySem.Challenge.cw_leastfield_k09_any_values_as_rings_holds : PySem.Challenge.rw_leastfield_k09_any_values_as_rings.Holds := by
  w_on; o_law; k_head; (case hw => w_witness2)
  k_fill
  refine V2.walkG (l := PySem.Challenge.rw_leastfield_k09_any_values_as_rings) (k := 8) (n := 63) (x := "script") (F := LW.M_law) rfl (by decide) rfl ⟨rfl, by decide, by decide⟩ (fun w h Y => PySem.W.kIn_of Y) ?F (fun ns hl hb => LW.says ns hl hb)
  case F =>
    intro w mg fa h KX G hmg
    refine' LW.all_mk KX G hmg ?a0 ?l0 ?c0 ?k0 ?a1 ?l1 ?c1 ?k1 ?a2 ?l2 ?c2 ?k2 ?a3 ?l3 ?c3 ?k3 ?a4 ?l4 ?c4 ?k4 ?a5 ?l5 ?c5 ?k5 ?a6 ?l6 ?c6 ?k6 ?a7 ?l7 ?c7 ?k7 ?a8 ?l8 ?c8 ?k8 ?a9 ?l9 ?c9 ?k9 ?a10 ?l10 ?c10 ?k10 ?a11 ?l11 ?c11 ?k11 ?a12 ?l12 ?c12 ?k12 ?a13 ?l13 ?c13 ?k13 ?a14 ?l14 ?c14 ?k14 ?a15 ?l15 ?c15 ?k15 ?a16 ?l16 ?c16 ?k16 ?a17 ?l17 ?c17 ?k17 ?a18 ?l18 ?c18 ?k18 ?a19 ?l19 ?c19 ?k19 ?a20 ?l20 ?c20 ?k20 ?a21 ?l21 ?c21 ?k21 ?a22 ?l22 ?c22 ?k22 ?a23 ?l23 ?c23 ?k23 ?a24 ?l24 ?c24 ?k24 ?a25 ?l25 ?c25 ?k25 ?a26 ?l26 ?c26 ?k26 ?a27 ?l27 ?c27 ?k27 ?a28 ?l28 ?c28 ?k28 ?a29 ?l29 ?c29 ?k29 ?a30 ?l30 ?c30 ?k30 ?a31 ?l31 ?c31 ?k31 ?a32 ?l32 ?c32 ?k32 ?a33 ?l33 ?c33 ?k33 ?a34 ?l34 ?c34 ?k34 ?a35 ?l35 ?c35 ?k35 ?z_abs ?z_all ?z_bool ?z_enumerate ?z_int ?z_isinstance ?z_len ?z_list ?z_max ?z_min ?z_range ?z_repr ?z_tuple ?z_zip ?g_FieldError ?g_InvalidRing ?xl_InvalidRing ?xr_InvalidRing ?xk_InvalidRing ?xe_InvalidRing ?xt_InvalidRing ?xh_InvalidRing ?xs_InvalidRing ?xn_InvalidRing ?xi_InvalidRing ?xu_InvalidRing ?xf_InvalidRing ?xc_InvalidRing ?ga_InvalidRing ?gg_InvalidRing ?ge_InvalidRing ?gh_InvalidRing ?nf_InvalidRing_at ?oc_get ?oc_tak ?ja_InvalidRing ?jm_InvalidRing ?js_InvalidRing_FieldError ?te_InvalidRing ?q__FARTHEST
    (case a0 => first | k_is | rfl)
    (case l0 => first | k_is | rfl)
    (case c0 => first | k_is | rfl)
    (case k0 => first | k_is | rfl)
    (case a1 => first | k_is | rfl)
    (case l1 => first | k_is | rfl)
    (case c1 => first | k_is | rfl)
    (case k1 => first | k_is | rfl)
    (case a2 => first | k_is | rfl)
    (case l2 => first | k_is | rfl)
    (case c2 => first | k_is | rfl)
    (case k2 => first | k_is | rfl)
    (case a3 => first | k_is | rfl)
    (case l3 => first | k_is | rfl)
    (case c3 => first | k_is | rfl)
    (case k3 => first | k_is | rfl)
    (case a4 => first | k_is | rfl)
    (case l4 => first | k_is | rfl)
    (case c4 => first | k_is | rfl)
    (case k4 => first | k_is | rfl)
    (case a5 => first | k_is | rfl)
    (case l5 => first | k_is | rfl)
    (case c5 => first | k_is | rfl)
    (case k5 => first | k_is | rfl)
    (case a6 => first | k_is | rfl)
    (case l6 => first | k_is | rfl)
    (case c6 => first | k_is | rfl)
    (case k6 => first | k_is | rfl)
    (case a7 => first | k_is | rfl)
    (case l7 => first | k_is | rfl)
    (case c7 => first | k_is | rfl)
    (case k7 => first | k_is | rfl)
    (case a8 => first | k_is | rfl)
    (case l8 => first | k_is | rfl)
    (case c8 => first | k_is | rfl)
    (case k8 => first | k_is | rfl)
    (case a9 => first | k_is | rfl)
    (case l9 => first | k_is | rfl)
    (case c9 => first | k_is | rfl)
    (case k9 => first | k_is | rfl)
    (case a10 => first | k_is | rfl)
    (case l10 => first | k_is | rfl)
    (case c10 => first | k_is | rfl)
    (case k10 => first | k_is | rfl)
    (case a11 => first | k_is | rfl)
    (case l11 => first | k_is | rfl)
    (case c11 => first | k_is | rfl)
    (case k11 => first | k_is | rfl)
    (case a12 => first | k_is | rfl)
    (case l12 => first | k_is | rfl)
    (case c12 => first | k_is | rfl)
    (case k12 => first | k_is | rfl)
    (case a13 => first | k_is | rfl)
    (case l13 => first | k_is | rfl)
    (case c13 => first | k_is | rfl)
    (case k13 => first | k_is | rfl)
    (case a14 => first | k_is | rfl)
    (case l14 => first | k_is | rfl)
    (case c14 => first | k_is | rfl)
    (case k14 => first | k_is | rfl)
    (case a15 => first | k_is | rfl)
    (case l15 => first | k_is | rfl)
    (case c15 => first | k_is | rfl)
    (case k15 => first | k_is | rfl)
    (case a16 => first | k_is | rfl)
    (case l16 => first | k_is | rfl)
    (case c16 => first | k_is | rfl)
    (case k16 => first | k_is | rfl)
    (case a17 => first | k_is | rfl)
    (case l17 => first | k_is | rfl)
    (case c17 => first | k_is | rfl)
    (case k17 => first | k_is | rfl)
    (case a18 => first | k_is | rfl)
    (case l18 => first | k_is | rfl)
    (case c18 => first | k_is | rfl)
    (case k18 => first | k_is | rfl)
    (case a19 => first | k_is | rfl)
    (case l19 => first | k_is | rfl)
    (case c19 => first | k_is | rfl)
    (case k19 => first | k_is | rfl)
    (case a20 => first | k_is | rfl)
    (case l20 => first | k_is | rfl)
    (case c20 => first | k_is | rfl)
    (case k20 => first | k_is | rfl)
    (case a21 => first | k_is | rfl)
    (case l21 => first | k_is | rfl)
    (case c21 => first | k_is | rfl)
    (case k21 => first | k_is | rfl)
    (case a22 => first | k_is | rfl)
    (case l22 => first | k_is | rfl)
    (case c22 => first | k_is | rfl)
    (case k22 => first | k_is | rfl)
    (case a23 => first | k_is | rfl)
    (case l23 => first | k_is | rfl)
    (case c23 => first | k_is | rfl)
    (case k23 => first | k_is | rfl)
    (case a24 => first | k_is | rfl)
    (case l24 => first | k_is | rfl)
    (case c24 => first | k_is | rfl)
    (case k24 => first | k_is | rfl)
    (case a25 => first | k_is | rfl)
    (case l25 => first | k_is | rfl)
    (case c25 => first | k_is | rfl)
    (case k25 => first | k_is | rfl)
    (case a26 => first | k_is | rfl)
    (case l26 => first | k_is | rfl)
    (case c26 => first | k_is | rfl)
    (case k26 => first | k_is | rfl)
    (case a27 => first | k_is | rfl)
    (case l27 => first | k_is | rfl)
    (case c27 => first | k_is | rfl)
    (case k27 => first | k_is | rfl)
    (case a28 => first | k_is | rfl)
    (case l28 => first | k_is | rfl)
    (case c28 => first | k_is | rfl)
    (case k28 => first | k_is | rfl)
    (case a29 => first | k_is | rfl)
    (case l29 => first | k_is | rfl)
    (case c29 => first | k_is | rfl)
    (case k29 => first | k_is | rfl)
    (case a30 => first | k_is | rfl)
    (case l30 => first | k_is | rfl)
    (case c30 => first | k_is | rfl)
    (case k30 => first | k_is | rfl)
    (case a31 => first | k_is | rfl)
    (case l31 => first | k_is | rfl)
    (case c31 => first | k_is | rfl)
    (case k31 => first | k_is | rfl)
    (case a32 => first | k_is | rfl)
    (case l32 => first | k_is | rfl)
    (case c32 => first | k_is | rfl)
    (case k32 => first | k_is | rfl)
    (case a33 => first | k_is | rfl)
    (case l33 => first | k_is | rfl)
    (case c33 => first | k_is | rfl)
    (case k33 => first | k_is | rfl)
    (case a34 => first | k_is | rfl)
    (case l34 => first | k_is | rfl)
    (case c34 => first | k_is | rfl)
    (case k34 => first | k_is | rfl)
    (case a35 => first | k_is | rfl)
    (case l35 => first | k_is | rfl)
    (case c35 => first | k_is | rfl)
    (case k35 => first | k_is | rfl)
    (case z_abs => first | k_is | rfl)
    (case z_all => first | k_is | rfl)
    (case z_bool => first | k_is | rfl)
    (case z_enumerate => first | k_is | rfl)
    (case z_int => first | k_is | rfl)
    (case z_isinstance => first | k_is | rfl)
    (case z_len => first | k_is | rfl)
    (case z_list => first | k_is | rfl)
    (case z_max => first | k_is | rfl)
    (case z_min => first | k_is | rfl)
    (case z_range => first | k_is | rfl)
    (case z_repr => first | k_is | rfl)
    (case z_tuple => first | k_is | rfl)
    (case z_zip => first | k_is | rfl)
    (case g_FieldError => first | k_is | rfl)
    (case g_InvalidRing => first | k_is | rfl)
    (case xl_InvalidRing => first | k_is | rfl)
    (case xr_InvalidRing => repeat constructor)
    (case xk_InvalidRing => first | k_is | rfl)
    (case xe_InvalidRing => first | k_is | rfl)
    (case xt_InvalidRing => first | k_is | rfl)
    (case xh_InvalidRing => first | k_is | rfl)
    (case xs_InvalidRing => first | k_is | rfl)
    (case xn_InvalidRing => first | k_is | rfl)
    (case xi_InvalidRing => first | k_is | rfl)
    (case xu_InvalidRing => first | k_is | rfl)
    (case xf_InvalidRing => first | k_is | rfl)
    (case xc_InvalidRing => first | k_is | rfl)
    (case ga_InvalidRing => first | k_is | rfl)
    (case gg_InvalidRing => first | k_is | rfl)
    (case ge_InvalidRing => first | k_is | rfl)
    (case gh_InvalidRing => first | k_is | rfl)
    (case nf_InvalidRing_at => first | k_is | rfl)
    (case oc_get => first | k_is | rfl)
    (case oc_tak => first | k_is | rfl)
    (case ja_InvalidRing => first | k_is | rfl)
    (case jm_InvalidRing => first | k_is | rfl)
    (case js_InvalidRing_FieldError => first | k_is | rfl)
    (case te_InvalidRing => first | k_is | rfl)
    (case q__FARTHEST => first | k_is | rfl)
#print axioms PySem.Challenge.cw_leastfield_k09_any_values_as_rings_holds
