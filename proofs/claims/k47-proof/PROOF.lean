import PyProof.Rows.All
import Wide.All
import OpenK.AllK
import Wide.FinOn
import KE.KDictZip
import KE.KItemsList
import HandS.Zip0
import HandS.DictTup
import HandS.ForMost
import HandS.ForExc
import HandS.Wide
import HandS.WideMore
import HandS.Small
import HandS.Gcd
import HandS.Style
import HandS.CallSlots
import HandS.IsInst
import HandS.Flow
import HandS.ExcField
import HandS.Defaults
import HandS.RaiseMore
import HandS.TupAny
import HandS.Zip
import HandS.Rev
import HandS.RevRange
import HandS.NoneIn
import HandS.TryOnly
import HandS.ExcIs
import KE.KExcIs
import HandS.EndBits
import PyProof.ReprBulk
import PyProof.P3Eq
import KE.GoesEnum
import HandS.StrMore
import HandS.FStr
import HandS.Deep
import PyProof.P3In
import PyProof.WalksMore
import PyProof.WalkInts
import HandS.List
import PyProof.Rows.IntBool
import KE.DatumOrd
import HandS.Strs
import HandS.Words
import KE.SortData
import HandS.SortInts
import HandS.OwnEq
import HandS.Dict
import HandS.More
import KE.KDictSum
import KE.KDictCopyH
import HandS.DictComp
import HandS.SetFor
import KE.KDictPairs
import KE.KDictWalk
import HandS.TupSets
import HandS.Exc
import PyProof.DictMoreH
import PyProof.Rows.StrOr
import HandS.TupLe
import PySem.Challenge.RW_leastfield_k47_networks
set_option Elab.async false
set_option linter.all false
set_option maxRecDepth 100000
set_option maxHeartbeats 4000000
/-! list(zip(a, b)) of two tuples, over the machine -/
namespace VZ
open PySem PySem.Spec PyProof.Rows RZ PySem.W
section
variable {P : Program} {W : World} {Ar : Around} {Ex : Value → Shared → Prop} {st : Shared}
variable {Z I O T J K S la lb : Addr} {fl : Bool} {oT : Obj} {m n : Nat} {us vs : Array Value}
/-- a zip of two tuples, n pairs out; the last one that is out lies behind S -/
structure ZAt (h : Heap) (Z I O J K la lb S : Addr) (n : Nat) : Prop where
  pair : IsPair h I (.ref J) (.ref K)
  one : h.IsTupleIter J la n
  two : h.IsTupleIter K lb n
  self : (IsZip h Z I O .none ∧ ∃ x y, IsPair h O x y) ∨ ∃ T fl o, IsZipHeld h Z I O T fl ∧ h.get? T = some o ∧ S < T
theorem ZAt.keep {h g : Heap} (a : ZAt h Z I O J K la lb S n) (hz : Z < S) (hi : I < S) (ho : O < S) (hj : J < S) (hk : K < S) (k : ∀ c o, c ≠ S → h.get? c = some o → g.get? c = some o) : ZAt g Z I O J K la lb S n := by
  refine ⟨k _ _ (Nat.ne_of_lt hi) a.pair, a.one.at fun o e => k _ o (Nat.ne_of_lt hj) e, a.two.at fun o e => k _ o (Nat.ne_of_lt hk) e, ?_⟩
  rcases a.self with ⟨h1, x, y, h2⟩ | ⟨T, fl, o, h1, h2, h3⟩
  · exact .inl ⟨k _ _ (Nat.ne_of_lt hz) h1, x, y, k _ _ (Nat.ne_of_lt ho) h2⟩
  · exact .inr ⟨T, fl, o, k _ _ (Nat.ne_of_lt hz) h1, k _ _ (Nat.ne_of_gt h3) h2, h3⟩
/-- the pairs that were laid -/
structure Laid (us vs : Array Value) (S : Addr) (h : Heap) (as : List Addr) : Prop where
  rise : as.Pairwise (· < ·)
  above : ∀ a ∈ as, S < a
  pairs : ∀ (j : Nat) (a : Addr), as[j]? = some a → ∃ u v, us[j]? = some u ∧ vs[j]? = some v ∧ IsPair h a u v
theorem Laid.there {h : Heap} {as : List Addr} (g : Laid us vs S h as) {a : Addr} (ha : a ∈ as) : a < h.objs.size := by
  obtain ⟨j, hj⟩ := List.mem_iff_getElem?.mp ha
  obtain ⟨_, _, _, _, e⟩ := g.pairs j a hj
  exact Heap.lt_size e
theorem Laid.more {h g g2 : Heap} {as : List Addr} {u v : Value} (l : Laid us vs S h as) (hS : S < h.objs.size) (eu : us[as.length]? = some u) (ev : vs[as.length]? = some v) (k : ∀ c o, S < c → h.get? c = some o → g2.get? c = some o) (p : IsPair g2 h.objs.size u v) : Laid us vs S g2 (as ++ [h.objs.size]) := by
  refine ⟨List.pairwise_append.mpr ⟨l.rise, List.pairwise_singleton _ _, fun a ha b hb => ?_⟩, fun a ha => ?_, fun j b hj => ?_⟩
  · rw [List.mem_singleton.mp hb]; exact l.there ha
  · rcases List.mem_append.mp ha with ha | ha
    · exact l.above a ha
    · rw [List.mem_singleton.mp ha]; exact hS
  · by_cases h1 : j < as.length
    · rw [List.getElem?_append_left h1] at hj
      obtain ⟨u', v', e1, e2, e3⟩ := l.pairs j b hj
      exact ⟨u', v', e1, e2, k b _ (l.above b (List.mem_of_getElem? hj)) e3⟩
    · have hlt := (List.getElem?_eq_some_iff.mp hj).1
      have e : j = as.length := by simp at hlt; omega
      subst e
      rw [List.getElem?_concat_length] at hj
      cases hj
      exact ⟨u, v, eu, ev, p⟩
end
end VZ
set_option Elab.async false
set_option linter.all false
set_option maxRecDepth 100000
set_option maxHeartbeats 4000000
set_option Elab.async false
set_option linter.all false
set_option maxRecDepth 100000
set_option maxHeartbeats 4000000
set_option Elab.async false
set_option linter.all false
set_option maxRecDepth 100000
set_option maxHeartbeats 4000000
/-! ## A dict as a set of tuples of ints, tracked or known: what it is to the hand layer -/
namespace V2
open PySem PySem.Spec PyProof.Rows L2
open PySem.W (Frag)
def ikent (x : List Int × Addr × Value) : DictEntry := ⟨reduceHash (Builtin.Tuple.tupleHashOf (x.1.map hashInt)), .ref x.2.1, x.2.2⟩
theorem ikent_eq (P : Program) (w : World) : ikent = entryOfKey (tupleKind (intKind P w)) := by funext x; rfl
/-- the dict at a: its keys, where they stand, its values -/
def KdAt (a : Addr) (xs : List (List Int × Addr × Value)) (h : Heap) : Prop :=
  ∃ o es ep, h.get? a = some o ∧ o.ExactDict ∧ o.data = .dict es ep ∧ es.toList = xs.map ikent ∧ (xs.map (·.1)).Nodup
def kdO (a : Addr) (xs : List (List Int × Addr × Value)) : HO := .ext (KdAt a xs)
theorem kd_ok {P : Program} {w : World} {H : Hp} {h : Heap} {a : Addr} {xs : List (List Int × Addr × Value)} (k : KdAt a xs h) : ObjOk P w H h a (kdO a xs) := by
  obtain ⟨o, es, ep, e, r⟩ := k
  refine ⟨⟨o, es, ep, e, r⟩, ⟨o, e⟩, ?_⟩
  rintro h1 h2 ⟨o1, es1, ep1, e1, r1⟩ k
  exact ⟨o1, es1, ep1, k _ e1, r1⟩
/-- a tuple of ints -/
def IsKey (K : Frag) (H : Hp) (b : Addr) (ks : List Int) : Prop := SqT K H b (ks.map V.int)
section
variable {X : Cx} {pins : List (Addr × Obj)} {σ : L2.St} {H : Hp} {s : Shared}
theorem ints_are {P : Program} {w : World} : ∀ {ks : List Int} {us : List Value}, Vals (ks.map V.int) us → ItemsAre (intKind P w) ks us
  | [], _, r => by cases r; exact .nil
  | k :: ks, _, r => by
    cases r with
    | cons h t =>
      obtain ⟨t1, rfl⟩ := h
      exact .cons (by simp [PySem.intKind, Value.isInt]) (ints_are t)
theorem key_at (I : Inv X pins σ H s) {b : Addr} {ks : List Int} (h : IsKey X.K H b ks) : (tupleKind (intKind X.prog X.w)).is s.heap ks b := by
  rcases h with h | ⟨o, its, n, hk, hc, hd, hz, r⟩
  · obtain ⟨_, its, r, o, h1, h2, n, h3⟩ := (show ObjOk X.prog X.w H s.heap b (.tup (ks.map V.int)) from h.ok I.hok)
    exact ⟨o, its.toArray, n, h1, h2, h3, by simpa using ints_are r⟩
  · exact ⟨o, its, n, I.kIn b o hk, hc, hd, ints_are r⟩
theorem kd_of (I : Inv X pins σ H s) {a : Addr} {xs : List (List Int × Addr × Value)} (e : H a = some (kdO a xs)) (hk : ∀ z ∈ xs, IsKey X.K H z.2.1 z.1) : s.heap.DictOfH (tupleKind (intKind X.prog X.w)) a xs := by
  obtain ⟨⟨o, es, ep, h1, h2, h3, h4, h5⟩, _⟩ := (show ObjOk X.prog X.w H s.heap a (kdO a xs) from I.hok a _ e)
  exact ⟨o, es, ep, h1, h2, h3, by rw [h4, ikent_eq X.prog X.w], fun x hx => key_at I (hk x hx), h5⟩
/-- whether a key is there -/
theorem atKey_some {xs : List (List Int × Addr × Value)} {k : List Int} : (atKey xs k).isSome = xs.any fun z => decide (z.1 = k) := by
  induction xs with
  | nil => rfl
  | cons x xs ih =>
    unfold atKey at ih ⊢
    simp only [List.find?_cons, List.any_cons]
    by_cases c : x.1 = k
    · simp [c]
    · simp [c] at ih ⊢
      exact ih
/-- d[k] = v -/
def rSetKd (K : Frag) : TSet := fun o i v H Q => ∃ d xs b ks, o = .ref d ∧ (d == sysModules) = false ∧ H d = some (kdO d xs) ∧ i = .ref b ∧ IsKey K H b ks ∧ (∀ z ∈ xs, IsKey K H z.2.1 z.1) ∧ xs.length < sizeLine ∧
  ∀ r, Q (upd H d (kdO d (storedH xs ks b r)))
theorem set_kd (hu : X.A.units + 1 < cLine) : PSet X (rSetKd X.K) := by
  intro pins s σ H o i v ov iv u Q I ro ri rv h
  obtain ⟨d, xs, b, ks, rfl, hd, e, rfl, hb, hx, hl, q⟩ := h
  cases (show ov = Value.ref d from ro)
  cases (show iv = Value.ref b from ri)
  refine wpAny_setItem_heap (hsz := Nat.le_of_lt hl) (tupleKind_room_in1 hu) (key_at I hb) (kd_of I e hx) fun h' dd' hs => ?_
  obtain ⟨q1, es, ep, hq, h2, h3, h4, _, h5⟩ := dd'
  refine ⟨_, ?_, q u⟩
  refine I.write (x := d) (e := d) (by rw [e]; exact True.intro) (.inl rfl) (fun b q hb z => (hs.2 b hb).trans z) ⟨q1, hq⟩ (kd_ok ⟨q1, es, ep, hq, h2, h3, ?_, h5⟩)
  rw [h4, ikent_eq X.prog X.w]
/-- {} -/
def tDNewKd : TE := fun _ H Q => ∀ p, H p = none → (p == sysModules) = false → Q (.ref p) (upd H p (kdO p []))
theorem pe_dnewKd {pos : Pos} : PE X (.Dict [] [] pos) tDNewKd := ⟨fun pins s σ H Q I h =>
  wpAny_Dict_empty ⟨.ref s.heap.objs.size, _, I.laid (a := s.heap.objs.size) (o := kdO s.heap.objs.size []) (t' := s.toks) (fun _ _ q => Heap.get?_push_of_some _ q) (Nat.le_refl _)
    (kd_ok ⟨_, #[], 0, Heap.get?_push_size _ rfl, ⟨rfl, rfl, rfl⟩, rfl, rfl, List.nodup_nil⟩), rfl, h _ (I.hok.fresh (Nat.le_refl _)) (beq_eq_false_iff_ne.mpr (Ne.symm (Nat.ne_of_lt I.big)))⟩⟩
end
end V2
set_option Elab.async false
set_option linter.all false
set_option maxRecDepth 100000
set_option maxHeartbeats 4000000
/-! ## Data without addresses over the hand layer -/
namespace V2
open PySem PySem.Spec PyProof.Rows L2
open PySem.W (Frag)
/-- a value: data (never changed), or a place of the store -/
inductive D where
  | d (p : PyData)
  | loc (n : Nat)
  /-- a tuple that is known to have no dict -/
  | tp (ps : List PyData)
  /-- an object of a class of the program, its attributes data -/
  | ob (C : Str) (fs : List (Str × PyData))
  /-- a tuple of a place and data -/
  | pr (n : Nat) (q : PyData)
/-- the store: lists that may be changed -/
inductive O where
  | lst (xs : List D)
  | keys (ks : List (List Int))
  /-- a dict by ints, in the order of insertion -/
  | di (kvs : List (Int × D))
  /-- a dict by tuples of ints -/
  | dt (kvs : List (List Int × D))
  /-- a thing that stands as it is (a dict while a loop walks it) -/
  | lk (u : HO)
abbrev Ho := List O
abbrev En := List (Option D)
/-- an exception: its class by name, its one field (if its class has an __init__) -/
structure Ex where
  cls : Str
  fld : Option (Str × D)
/-! ### what they stand for -/
def TupR (K : Frag) (as : List Addr) (H : Hp) (a : Addr) (xs : List V) : Prop :=
  (Rd H a (.tup xs) ∧ a ∉ as) ∨
    ∃ (o : Obj) (its : Array Value) (n : Nat), K.lookup a = some o ∧ o.cls = .type "tuple" ∧ o.data = .seq its n ∧ its.size ≤ sizeLine ∧ Vals xs its.toList
def LstR (K : Frag) (as : List Addr) (H : Hp) (a : Addr) (xs : List V) : Prop :=
  (Rd H a (.lst xs) ∧ a ∉ as) ∨
    ∃ (o : Obj) (its : Array Value) (n : Nat), K.lookup a = some o ∧ o.cls = .type "list" ∧ o.dict = none ∧ o.data = .seq its n ∧ its.size ≤ sizeLine ∧ Vals xs its.toList
theorem TupR.sq {K : Frag} {as : List Addr} {H : Hp} {a : Addr} {xs : List V} (h : TupR K as H a xs) : SqT K H a xs := h.elim (fun z => .inl z.1) .inr
theorem LstR.sq {K : Frag} {as : List Addr} {H : Hp} {a : Addr} {xs : List V} (h : LstR K as H a xs) : SqL K H a xs := h.elim (fun z => .inl z.1) .inr
mutual
inductive Dv (K : Frag) (as : List Addr) (H : Hp) : V → PyData → Prop
  | non : Dv K as H .non .none
  | bl (b : Bool) : Dv K as H (.bl b) (.bool b)
  | int (i : Int) : Dv K as H (.int i) (.int i)
  | str (x : Str) : Dv K as H (.str x) (.str x)
  | lst {a : Addr} {xs : List V} {ds : List PyData} : LstR K as H a xs → DvAll K as H xs ds → Dv K as H (.ref a) (.list ds)
  | tup {a : Addr} {xs : List V} {ds : List PyData} : TupR K as H a xs → DvAll K as H xs ds → Dv K as H (.ref a) (.tuple ds)
inductive DvAll (K : Frag) (as : List Addr) (H : Hp) : List V → List PyData → Prop
  | nil : DvAll K as H [] []
  | cons {v : V} {vs : List V} {d : PyData} {ds : List PyData} : Dv K as H v d → DvAll K as H vs ds → DvAll K as H (v :: vs) (d :: ds)
end
/-- behind: more places; what is no place stands as it stood -/
structure Later (as : List Addr) (H : Hp) (as' : List Addr) (H' : Hp) : Prop where
  more : ∃ l, as' = as ++ l
  keep : ∀ p o, H p = some o → p ∉ as → H' p = some o ∧ p ∉ as'
theorem Later.refl (as : List Addr) (H : Hp) : Later as H as H := ⟨⟨[], by simp⟩, fun p o h n => ⟨h, n⟩⟩
theorem Later.trans {as as1 as2 : List Addr} {H H1 H2 : Hp} (a : Later as H as1 H1) (b : Later as1 H1 as2 H2) : Later as H as2 H2 := by
  refine ⟨?_, fun p o h n => ?_⟩
  · obtain ⟨l, rfl⟩ := a.more
    obtain ⟨m, rfl⟩ := b.more
    exact ⟨l ++ m, by simp⟩
  · obtain ⟨h1, n1⟩ := a.keep p o h n
    exact b.keep p o h1 n1
/-- a new thing that is no place -/
theorem Later.new {as : List Addr} {H : Hp} {p : Addr} (o : HO) (hp : H p = none) : Later as H as (upd H p o) :=
  ⟨⟨[], by simp⟩, fun q u h n => ⟨by rw [upd_ne (ne_of_none h hp)]; exact h, n⟩⟩
/-- a new place -/
theorem Later.place {as : List Addr} {H : Hp} {p : Addr} (o : HO) (hp : H p = none) : Later as H (as ++ [p]) (upd H p o) :=
  ⟨⟨[p], rfl⟩, fun q u h n => ⟨by rw [upd_ne (ne_of_none h hp)]; exact h, by
    have := ne_of_none h hp
    simp [n, this]⟩⟩
/-- a place is written -/
theorem Later.write {as : List Addr} {H : Hp} {p : Addr} (o : HO) (hp : p ∈ as) : Later as H as (upd H p o) :=
  ⟨⟨[], by simp⟩, fun q u h n => ⟨by rw [upd_ne (fun e => n (by rw [e]; exact hp))]; exact h, n⟩⟩
theorem Later.at {as as1 : List Addr} {H H1 : Hp} (l : Later as H as1 H1) {n : Nat} {a : Addr} (h : as[n]? = some a) : as1[n]? = some a := by
  obtain ⟨m, rfl⟩ := l.more
  rw [List.getElem?_append_left (List.getElem?_eq_some_iff.mp h).1]
  exact h
section
variable {K : Frag} {as as1 : List Addr} {H H1 : Hp}
theorem TupR.later (l : Later as H as1 H1) {a : Addr} {xs : List V} (h : TupR K as H a xs) : TupR K as1 H1 a xs := by
  rcases h with ⟨h | ⟨o, h⟩, n⟩ | h
  · obtain ⟨q, m⟩ := l.keep _ _ h n
    exact .inl ⟨.inl q, m⟩
  · obtain ⟨q, m⟩ := l.keep _ _ h n
    exact .inl ⟨.inr ⟨o, q⟩, m⟩
  · exact .inr h
theorem LstR.later (l : Later as H as1 H1) {a : Addr} {xs : List V} (h : LstR K as H a xs) : LstR K as1 H1 a xs := by
  rcases h with ⟨h | ⟨o, h⟩, n⟩ | h
  · obtain ⟨q, m⟩ := l.keep _ _ h n
    exact .inl ⟨.inl q, m⟩
  · obtain ⟨q, m⟩ := l.keep _ _ h n
    exact .inl ⟨.inr ⟨o, q⟩, m⟩
  · exact .inr h
mutual
theorem Dv.later (l : Later as H as1 H1) : ∀ {p : PyData} {v : V}, Dv K as H v p → Dv K as1 H1 v p
  | .none, _, h => by cases h; exact .non
  | .bool b, _, h => by cases h; exact .bl b
  | .int i, _, h => by cases h; exact .int i
  | .str x, _, h => by cases h; exact .str x
  | .list ds, _, h => by
    cases h with
    | lst hs ha => exact .lst (hs.later l) (DvAll.later l ha)
  | .tuple ds, _, h => by
    cases h with
    | tup hs ha => exact .tup (hs.later l) (DvAll.later l ha)
  | .dict _, _, h => by cases h
theorem DvAll.later (l : Later as H as1 H1) : ∀ {ps : List PyData} {vs : List V}, DvAll K as H vs ps → DvAll K as1 H1 vs ps
  | [], _, h => by cases h; exact .nil
  | d :: ds, _, h => by
    cases h with
    | cons h1 h2 => exact .cons (Dv.later l h1) (DvAll.later l h2)
end
mutual
theorem Dv.dp : ∀ {p : PyData} {v : V}, Dv K as H v p → Dp K H v p
  | .none, _, h => by cases h; exact .non
  | .bool b, _, h => by cases h; exact .bl b
  | .int i, _, h => by cases h; exact .int i
  | .str x, _, h => by cases h; exact .str x
  | .list ds, _, h => by
    cases h with
    | lst hs ha => exact .lst hs.sq (DvAll.dp ha)
  | .tuple ds, _, h => by
    cases h with
    | tup hs ha => exact .tup hs.sq (DvAll.dp ha)
  | .dict _, _, h => by cases h
theorem DvAll.dp : ∀ {ps : List PyData} {vs : List V}, DvAll K as H vs ps → DpAll K H vs ps
  | [], _, h => by cases h; exact .nil
  | d :: ds, _, h => by
    cases h with
    | cons h1 h2 => exact .cons (Dv.dp h1) (DvAll.dp h2)
end
theorem DvAll.length : ∀ {vs : List V} {ps : List PyData}, DvAll K as H vs ps → vs.length = ps.length
  | _, _, .nil => rfl
  | _, _, .cons _ h => by rw [List.length_cons, List.length_cons, DvAll.length h]
theorem DvAll.get : ∀ {vs : List V} {ps : List PyData} {i : Nat} {p : PyData}, DvAll K as H vs ps → ps[i]? = some p → ∃ v, vs[i]? = some v ∧ Dv K as H v p
  | _, _, _, _, .nil, e => by simp at e
  | _, _, 0, p, .cons r _, e => by simp at e; subst e; exact ⟨_, rfl, r⟩
  | _, _, i + 1, p, .cons _ t, e => by
    obtain ⟨v, h1, h2⟩ := DvAll.get (i := i) t (by simpa using e)
    exact ⟨v, by simpa using h1, h2⟩
theorem DvAll.append : ∀ {vs ws : List V} {ps qs : List PyData}, DvAll K as H vs ps → DvAll K as H ws qs → DvAll K as H (vs ++ ws) (ps ++ qs)
  | _, _, _, _, .nil, h => h
  | _, _, _, _, .cons r t, h => .cons r (DvAll.append t h)
theorem DvAll.take : ∀ {vs : List V} {ps : List PyData} (n : Nat), DvAll K as H vs ps → DvAll K as H (vs.take n) (ps.take n)
  | _, _, 0, _ => .nil
  | _, _, n + 1, .nil => .nil
  | _, _, n + 1, .cons r t => .cons r (DvAll.take n t)
theorem DvAll.drop : ∀ {vs : List V} {ps : List PyData} (n : Nat), DvAll K as H vs ps → DvAll K as H (vs.drop n) (ps.drop n)
  | _, _, 0, h => h
  | _, _, n + 1, .nil => .nil
  | _, _, n + 1, .cons r t => DvAll.drop n t
theorem DvAll.reverse : ∀ {vs : List V} {ps : List PyData}, DvAll K as H vs ps → DvAll K as H vs.reverse ps.reverse
  | _, _, .nil => .nil
  | _, _, .cons r t => by
    rw [List.reverse_cons, List.reverse_cons]
    exact (DvAll.reverse t).append (.cons r .nil)
theorem DvAll.ints : ∀ (ns : List Int), DvAll K as H (ns.map V.int) (ns.map PyData.int)
  | [] => .nil
  | n :: ns => .cons (.int n) (DvAll.ints ns)
theorem DvAll.ints_inv : ∀ {vs : List V} {ns : List Int}, DvAll K as H vs (ns.map PyData.int) → vs = ns.map V.int
  | _, [], h => by cases h; rfl
  | _, n :: ns, h => by
    cases h with
    | cons h1 h2 =>
      cases h1
      rw [List.map_cons, DvAll.ints_inv h2]
/-- the name of a class of the head -/
def nmIn (K : Frag) (a : Addr) : Option Str := match K.lookup a with
  | some ⟨_, _, .cls cd, _⟩ => some cd.name
  | _ => none
/-- a value -/
inductive Rel (K : Frag) (as : List Addr) (H : Hp) : V → D → Prop
  | d {v : V} {p : PyData} : Dv K as H v p → Rel K as H v (.d p)
  | loc {a : Addr} {n : Nat} : as[n]? = some a → Rel K as H (.ref a) (.loc n)
  | tp {a : Addr} {o : Obj} {xs : List V} {ps : List PyData} : H a = some (.frz o (.tup xs)) → o.dict = none → a ∉ as → DvAll K as H xs ps → Rel K as H (.ref a) (.tp ps)
  | ob {a Ca dx : Addr} {vs : List (Str × V)} {C : Str} {fs : List (Str × PyData)} : H a = some (.ins Ca dx vs) → nmIn K Ca = some C → a ∉ as → vs.map (·.1) = fs.map (·.1) → DvAll K as H (vs.map (·.2)) (fs.map (·.2)) → Rel K as H (.ref a) (.ob C fs)
  | pr {t a : Addr} {n : Nat} {v : V} {q : PyData} : TupR K as H t [.ref a, v] → as[n]? = some a → Dv K as H v q → Rel K as H (.ref t) (.pr n q)
theorem Rel.later (l : Later as H as1 H1) {v : V} {x : D} (h : Rel K as H v x) : Rel K as1 H1 v x := by
  cases h with
  | d h => exact .d (h.later l)
  | loc h => exact .loc (l.at h)
  | tp h1 h2 h3 h4 => exact .tp (l.keep _ _ h1 h3).1 h2 (l.keep _ _ h1 h3).2 (h4.later l)
  | ob h1 h2 h3 h4 h5 => exact .ob (l.keep _ _ h1 h3).1 h2 (l.keep _ _ h1 h3).2 h4 (h5.later l)
  | pr h1 h2 h3 => exact .pr (h1.later l) (l.at h2) (h3.later l)
inductive RelAll (K : Frag) (as : List Addr) (H : Hp) : List V → List D → Prop
  | nil : RelAll K as H [] []
  | cons {v : V} {vs : List V} {d : D} {ds : List D} : Rel K as H v d → RelAll K as H vs ds → RelAll K as H (v :: vs) (d :: ds)
theorem RelAll.later (l : Later as H as1 H1) : ∀ {vs : List V} {xs : List D}, RelAll K as H vs xs → RelAll K as1 H1 vs xs
  | _, _, .nil => .nil
  | _, _, .cons r t => .cons (r.later l) (RelAll.later l t)
theorem RelAll.length : ∀ {vs : List V} {xs : List D}, RelAll K as H vs xs → vs.length = xs.length
  | _, _, .nil => rfl
  | _, _, .cons _ h => by rw [List.length_cons, List.length_cons, RelAll.length h]
theorem RelAll.get : ∀ {vs : List V} {xs : List D} {i : Nat} {x : D}, RelAll K as H vs xs → xs[i]? = some x → ∃ v, vs[i]? = some v ∧ Rel K as H v x
  | _, _, _, _, .nil, e => by simp at e
  | _, _, 0, p, .cons r _, e => by simp at e; subst e; exact ⟨_, rfl, r⟩
  | _, _, i + 1, p, .cons _ t, e => by
    obtain ⟨v, h1, h2⟩ := RelAll.get (i := i) t (by simpa using e)
    exact ⟨v, by simpa using h1, h2⟩
theorem RelAll.append : ∀ {vs ws : List V} {ps qs : List D}, RelAll K as H vs ps → RelAll K as H ws qs → RelAll K as H (vs ++ ws) (ps ++ qs)
  | _, _, _, _, .nil, h => h
  | _, _, _, _, .cons r t, h => .cons r (RelAll.append t h)
theorem RelAll.take : ∀ {vs : List V} {ps : List D} (n : Nat), RelAll K as H vs ps → RelAll K as H (vs.take n) (ps.take n)
  | _, _, 0, _ => .nil
  | _, _, n + 1, .nil => .nil
  | _, _, n + 1, .cons r t => .cons r (RelAll.take n t)
theorem RelAll.drop : ∀ {vs : List V} {ps : List D} (n : Nat), RelAll K as H vs ps → RelAll K as H (vs.drop n) (ps.drop n)
  | _, _, 0, h => h
  | _, _, n + 1, .nil => .nil
  | _, _, n + 1, .cons r t => RelAll.drop n t
theorem RelAll.set : ∀ {vs : List V} {xs : List D} (i : Nat) {v : V} {x : D}, Rel K as H v x → RelAll K as H vs xs → RelAll K as H (vs.set i v) (xs.set i x)
  | _, _, _, _, _, _, .nil => .nil
  | _, _, 0, _, _, r, .cons _ t => .cons r t
  | _, _, i + 1, _, _, r, .cons q t => .cons q (RelAll.set i r t)
theorem RelAll.dropLast {vs : List V} {xs : List D} (h : RelAll K as H vs xs) : RelAll K as H vs.dropLast xs.dropLast := by
  rw [List.dropLast_eq_take, List.dropLast_eq_take, h.length]
  exact h.take _
theorem RelAll.reverse : ∀ {vs : List V} {ps : List D}, RelAll K as H vs ps → RelAll K as H vs.reverse ps.reverse
  | _, _, .nil => .nil
  | _, _, .cons r t => by
    rw [List.reverse_cons, List.reverse_cons]
    exact (RelAll.reverse t).append (.cons r .nil)
theorem DvAll.rel : ∀ {vs : List V} {ps : List PyData}, DvAll K as H vs ps → RelAll K as H vs (ps.map D.d)
  | _, _, .nil => .nil
  | _, _, .cons r t => .cons (.d r) (DvAll.rel t)
/-- all are data -/
def allD : List D → Option (List PyData)
  | [] => some []
  | .d p :: xs => (allD xs).map (p :: ·)
  | .loc _ :: _ => none
  | .tp _ :: _ => none
  | .ob _ _ :: _ => none
  | .pr _ _ :: _ => none
theorem allD_map : ∀ ps : List PyData, allD (ps.map D.d) = some ps
  | [] => rfl
  | p :: ps => by simp [allD, allD_map ps]
theorem allD_some : ∀ {xs : List D} {ps : List PyData}, allD xs = some ps → xs = ps.map D.d
  | [], ps, h => by simp [allD] at h; subst h; rfl
  | .d p :: xs, ps, h => by
    simp only [allD, Option.map_eq_some_iff] at h
    obtain ⟨q, h1, rfl⟩ := h
    rw [allD_some h1]
    rfl
  | .loc _ :: _, ps, h => by simp [allD] at h
  | .tp _ :: _, ps, h => by simp [allD] at h
  | .ob _ _ :: _, ps, h => by simp [allD] at h
  | .pr _ _ :: _, ps, h => by simp [allD] at h
theorem RelAll.data : ∀ {vs : List V} {ps : List PyData}, RelAll K as H vs (ps.map D.d) → DvAll K as H vs ps
  | _, [], h => by cases h; exact .nil
  | _, p :: ps, h => by
    cases h with
    | cons h1 h2 =>
      cases h1 with
      | d h1 => exact .cons h1 (RelAll.data h2)
theorem RelAll.ofAllD {vs : List V} {xs : List D} {ps : List PyData} (h : RelAll K as H vs xs) (e : allD xs = some ps) : DvAll K as H vs ps := by
  rw [allD_some e] at h
  exact h.data
/-- a dict's entries -/
inductive DiR (K : Frag) (as : List Addr) (H : Hp) : List (Key × V) → List (Int × D) → Prop
  | nil : DiR K as H [] []
  | cons {i : Int} {v : V} {d : D} {xs : List (Key × V)} {kvs : List (Int × D)} : Rel K as H v d → DiR K as H xs kvs → DiR K as H ((.inl i, v) :: xs) ((i, d) :: kvs)
inductive DtR (K : Frag) (as : List Addr) (H : Hp) : List (List Int × Addr × Value) → List (List Int × D) → Prop
  | nil : DtR K as H [] []
  | cons {k : List Int} {b : Addr} {w : Value} {v : V} {d : D} {xs : List (List Int × Addr × Value)} {kvs : List (List Int × D)} : TupR K as H b (k.map V.int) → RelV v w → Rel K as H v d → DtR K as H xs kvs → DtR K as H ((k, b, w) :: xs) ((k, d) :: kvs)
theorem DiR.imp {as' : List Addr} {H' : Hp} : ∀ {xs : List (Key × V)} {kvs : List (Int × D)}, DiR K as H xs kvs → (∀ z ∈ kvs, ∀ v, Rel K as H v z.2 → Rel K as' H' v z.2) → DiR K as' H' xs kvs
  | _, _, .nil, _ => .nil
  | _, _, .cons r t, f => .cons (f _ (List.mem_cons_self ..) _ r) (DiR.imp t fun z hz => f z (List.mem_cons_of_mem _ hz))
theorem DtR.imp {as' : List Addr} {H' : Hp} (g : ∀ b ys, TupR K as H b ys → TupR K as' H' b ys) : ∀ {xs : List (List Int × Addr × Value)} {kvs : List (List Int × D)}, DtR K as H xs kvs → (∀ z ∈ kvs, ∀ v, Rel K as H v z.2 → Rel K as' H' v z.2) → DtR K as' H' xs kvs
  | _, _, .nil, _ => .nil
  | _, _, .cons z q r t, f => .cons (g _ _ z) q (f _ (List.mem_cons_self ..) _ r) (DtR.imp g t fun z hz => f z (List.mem_cons_of_mem _ hz))
theorem DiR.mem : ∀ {xs : List (Key × V)} {kvs : List (Int × D)}, DiR K as H xs kvs → ∀ z ∈ kvs, ∃ v, Rel K as H v z.2
  | _, _, .nil, z, hz => nomatch hz
  | _, _, .cons r t, z, hz => by
    rcases List.mem_cons.1 hz with rfl | hz
    · exact ⟨_, r⟩
    · exact DiR.mem t z hz
theorem DtR.mem : ∀ {xs : List (List Int × Addr × Value)} {kvs : List (List Int × D)}, DtR K as H xs kvs → ∀ z ∈ kvs, ∃ v, Rel K as H v z.2
  | _, _, .nil, z, hz => nomatch hz
  | _, _, .cons _ _ r t, z, hz => by
    rcases List.mem_cons.1 hz with rfl | hz
    · exact ⟨_, r⟩
    · exact DtR.mem t z hz
/-- the store -/
def ObR (K : Frag) (as : List Addr) (H : Hp) (a : Addr) : O → Prop
  | .lst xs => ∃ vs, H a = some (.lst vs) ∧ RelAll K as H vs xs
  | .keys ks => (a == sysModules) = false ∧ ∃ xs : List (List Int × Addr × Value), H a = some (kdO a xs) ∧ xs.map (·.1) = ks ∧ ∀ z ∈ xs, TupR K as H z.2.1 (z.1.map V.int)
  | .di kvs => ∃ xs : List (Key × V), H a = some (.dK xs) ∧ DiR K as H xs kvs
  | .dt kvs => (a == sysModules) = false ∧ ∃ xs : List (List Int × Addr × Value), H a = some (kdO a xs) ∧ DtR K as H xs kvs
  | .lk u => H a = some u
structure HeapR (K : Frag) (as : List Addr) (H : Hp) (h : Ho) : Prop where
  len : as.length = h.length
  nd : as.Nodup
  ob : ∀ (i : Nat) (o : O) (a : Addr), h[i]? = some o → as[i]? = some a → ObR K as H a o
theorem ObR.later (l : Later as H as1 H1) {a : Addr} {o : O} (e : H1 a = H a) (h : ObR K as H a o) : ObR K as1 H1 a o := by
  cases o with
  | lst xs =>
    obtain ⟨vs, h1, h2⟩ := h
    exact ⟨vs, e.trans h1, h2.later l⟩
  | keys ks =>
    obtain ⟨h0, xs, h1, h2, h3⟩ := h
    exact ⟨h0, xs, e.trans h1, h2, fun z hz => (h3 z hz).later l⟩
  | di kvs =>
    obtain ⟨xs, h1, h2⟩ := h
    exact ⟨xs, e.trans h1, h2.imp fun z _ v r => r.later l⟩
  | dt kvs =>
    obtain ⟨h0, xs, h1, h2⟩ := h
    exact ⟨h0, xs, e.trans h1, h2.imp (fun b ys t => t.later l) fun z _ v r => r.later l⟩
  | lk u => exact e.trans h
theorem ObR.there {a : Addr} {o : O} (h : ObR K as H a o) : ∃ u, H a = some u := by
  cases o with
  | lst xs =>
    obtain ⟨vs, h1, _⟩ := h
    exact ⟨_, h1⟩
  | keys ks =>
    obtain ⟨_, xs, h1, _⟩ := h
    exact ⟨_, h1⟩
  | di kvs =>
    obtain ⟨xs, h1, _⟩ := h
    exact ⟨_, h1⟩
  | dt kvs =>
    obtain ⟨_, xs, h1, _⟩ := h
    exact ⟨_, h1⟩
  | lk u => exact ⟨_, h⟩
theorem HeapR.at {h : Ho} (r : HeapR K as H h) {n : Nat} {o : O} (e : h[n]? = some o) : ∃ a, as[n]? = some a ∧ ObR K as H a o := by
  have hn : n < as.length := by
    rw [r.len]
    exact (List.getElem?_eq_some_iff.mp e).1
  exact ⟨as[n], List.getElem?_eq_getElem hn, r.ob n o _ e (List.getElem?_eq_getElem hn)⟩
theorem HeapR.there {h : Ho} (r : HeapR K as H h) {a : Addr} (ha : a ∈ as) : ∃ u, H a = some u := by
  obtain ⟨n, hn, e⟩ := List.mem_iff_getElem.mp ha
  have hn' : n < h.length := by rw [← r.len]; exact hn
  exact (r.ob n _ a (List.getElem?_eq_getElem hn') (by rw [List.getElem?_eq_getElem hn, e])).there
/-- a new thing that is no place -/
theorem HeapR.new {h : Ho} (r : HeapR K as H h) {p : Addr} (o : HO) (hp : H p = none) : HeapR K as (upd H p o) h := by
  refine ⟨r.len, r.nd, fun i u a e1 e2 => ?_⟩
  have q := r.ob i u a e1 e2
  obtain ⟨z, hz⟩ := q.there
  exact q.later (Later.new o hp) (upd_ne (ne_of_none hz hp))
/-- a new place -/
theorem HeapR.place {h : Ho} (r : HeapR K as H h) {p : Addr} {vs : List V} {xs : List D} (hp : H p = none) (hv : RelAll K as H vs xs) :
    HeapR K (as ++ [p]) (upd H p (.lst vs)) (h ++ [.lst xs]) ∧ (as ++ [p])[h.length]? = some p := by
  have l : Later as H (as ++ [p]) (upd H p (.lst vs)) := Later.place _ hp
  have hpas : p ∉ as := fun hm => by
    obtain ⟨u, e⟩ := r.there hm
    rw [hp] at e
    cases e
  have at' : (as ++ [p])[h.length]? = Option.some p := by rw [← r.len]; simp
  refine ⟨⟨by simp [r.len], by
    rw [List.nodup_append]
    exact ⟨r.nd, by simp, fun a ha b hb => by
      rw [List.mem_singleton] at hb
      rw [hb]
      exact fun e => hpas (e ▸ ha)⟩, fun i u a e1 e2 => ?_⟩, at'⟩
  by_cases hi : i < h.length
  · rw [List.getElem?_append_left hi] at e1
    rw [List.getElem?_append_left (by rw [r.len]; exact hi)] at e2
    have q := r.ob i u a e1 e2
    obtain ⟨z, hz⟩ := q.there
    exact q.later l (upd_ne (ne_of_none hz hp))
  · have hi' : i = h.length := by
      have := (List.getElem?_eq_some_iff.mp e1).1
      simp at this
      omega
    subst hi'
    simp at e1
    subst e1
    rw [at'] at e2
    cases e2
    exact ⟨vs, upd_same, hv.later l⟩
/-- a place is written -/
theorem HeapR.write {h : Ho} (r : HeapR K as H h) {n : Nat} {a : Addr} {vs : List V} {xs : List D} (ha : as[n]? = some a) (hv : RelAll K as H vs xs) :
    HeapR K as (upd H a (.lst vs)) (h.set n (.lst xs)) := by
  have hm : a ∈ as := List.mem_of_getElem? ha
  have l : Later as H as (upd H a (.lst vs)) := Later.write _ hm
  refine ⟨by rw [List.length_set]; exact r.len, r.nd, fun i u b e1 e2 => ?_⟩
  by_cases hi : n = i
  · subst hi
    have hn : n < h.length := by rw [← r.len]; exact (List.getElem?_eq_some_iff.mp ha).1
    rw [List.getElem?_set_self hn] at e1
    cases e1
    rw [ha] at e2
    cases e2
    exact ⟨vs, upd_same, hv.later l⟩
  · rw [List.getElem?_set_ne hi] at e1
    have ne : b ≠ a := fun e => hi (by
      subst e
      exact nd_ix r.nd ha e2)
    exact (r.ob i u b e1 e2).later l (upd_ne ne)
/-- a new place, of any kind -/
theorem HeapR.placeO {h : Ho} (r : HeapR K as H h) {p : Addr} {ob : HO} {o : O} (hp : H p = none) (hv : ObR K (as ++ [p]) (upd H p ob) p o) :
    HeapR K (as ++ [p]) (upd H p ob) (h ++ [o]) ∧ (as ++ [p])[h.length]? = some p := by
  have l : Later as H (as ++ [p]) (upd H p ob) := Later.place _ hp
  have hpas : p ∉ as := fun hm => by
    obtain ⟨u, e⟩ := r.there hm
    rw [hp] at e
    cases e
  have at' : (as ++ [p])[h.length]? = Option.some p := by rw [← r.len]; simp
  refine ⟨⟨by simp [r.len], by
    rw [List.nodup_append]
    exact ⟨r.nd, by simp, fun a ha b hb => by
      rw [List.mem_singleton] at hb
      rw [hb]
      exact fun e => hpas (e ▸ ha)⟩, fun i u a e1 e2 => ?_⟩, at'⟩
  by_cases hi : i < h.length
  · rw [List.getElem?_append_left hi] at e1
    rw [List.getElem?_append_left (by rw [r.len]; exact hi)] at e2
    have q := r.ob i u a e1 e2
    obtain ⟨z, hz⟩ := q.there
    exact q.later l (upd_ne (ne_of_none hz hp))
  · have hi' : i = h.length := by
      have := (List.getElem?_eq_some_iff.mp e1).1
      simp at this
      omega
    subst hi'
    simp at e1
    subst e1
    rw [at'] at e2
    cases e2
    exact hv
/-- a place is written, of any kind -/
theorem HeapR.writeO {h : Ho} (r : HeapR K as H h) {n : Nat} {a : Addr} {ob : HO} {o : O} (ha : as[n]? = some a) (hv : ObR K as (upd H a ob) a o) :
    HeapR K as (upd H a ob) (h.set n o) := by
  have hm : a ∈ as := List.mem_of_getElem? ha
  have l : Later as H as (upd H a ob) := Later.write _ hm
  refine ⟨by rw [List.length_set]; exact r.len, r.nd, fun i u b e1 e2 => ?_⟩
  by_cases hi : n = i
  · subst hi
    have hn : n < h.length := by rw [← r.len]; exact (List.getElem?_eq_some_iff.mp ha).1
    rw [List.getElem?_set_self hn] at e1
    cases e1
    rw [ha] at e2
    cases e2
    exact hv
  · rw [List.getElem?_set_ne hi] at e1
    have ne : b ≠ a := fun e => hi (by
      subst e
      exact nd_ix r.nd ha e2)
    exact (r.ob i u b e1 e2).later l (upd_ne ne)
/-- the frame -/
def EnvR (K : Frag) (as : List Addr) (H : Hp) (ρ : En) (σ : L2.St) : Prop :=
  ρ.length = σ.length ∧ ∀ (i : Nat) (x : D), ρ[i]? = some (some x) → ∃ v, σ[i]? = some (some v) ∧ Rel K as H v x
theorem EnvR.later (l : Later as H as1 H1) {ρ : En} {σ : L2.St} (h : EnvR K as H ρ σ) : EnvR K as1 H1 ρ σ :=
  ⟨h.1, fun i x e => let ⟨v, h1, h2⟩ := h.2 i x e; ⟨v, h1, h2.later l⟩⟩
theorem EnvR.set {ρ : En} {σ : L2.St} (h : EnvR K as H ρ σ) (i : Nat) {v : V} {x : D} (r : Rel K as H v x) : EnvR K as H (ρ.set i (some x)) (σ.set i (some v)) := by
  refine ⟨by rw [List.length_set, List.length_set]; exact h.1, fun j y e => ?_⟩
  by_cases hj : i = j
  · subst hj
    have hl : i < ρ.length := by
      have := (List.getElem?_eq_some_iff.mp e).1
      simpa using this
    rw [List.getElem?_set_self hl] at e
    cases e
    exact ⟨v, by rw [List.getElem?_set_self (by rw [← h.1]; exact hl)], r⟩
  · rw [List.getElem?_set_ne hj] at e
    obtain ⟨w, h1, h2⟩ := h.2 j y e
    exact ⟨w, by rw [List.getElem?_set_ne hj]; exact h1, h2⟩
end
/-- forget slots -/
def wipeD (ρ : En) : List Nat → En
  | [] => ρ
  | v :: vs => (wipeD ρ vs).set v none
theorem EnvR.wipe {K : Frag} {as : List Addr} {H : Hp} {ρ : En} {σ : L2.St} (h : EnvR K as H ρ σ) : ∀ vs : List Nat, EnvR K as H (wipeD ρ vs) (L2.wipe σ vs)
  | [] => h
  | v :: vs => by
    have ih := EnvR.wipe h vs
    refine ⟨by unfold wipeD L2.wipe; rw [List.length_set, List.length_set]; exact ih.1, fun j y e => ?_⟩
    unfold wipeD at e
    unfold L2.wipe
    by_cases hj : v = j
    · subst hj
      by_cases hl : v < (wipeD ρ vs).length
      · rw [List.getElem?_set_self hl] at e; cases e
      · rw [List.getElem?_eq_none (by simpa using hl)] at e; cases e
    · rw [List.getElem?_set_ne hj] at e
      obtain ⟨w, h1, h2⟩ := ih.2 j y e
      exact ⟨w, by rw [List.getElem?_set_ne hj]; exact h1, h2⟩
/-- an exception's class and its own dict -/
def ExR (K : Frag) (mg : Str → Option Value) (as : List Addr) (H : Hp) (cls : Value) (d : Option Addr) (x : Ex) : Prop :=
  ∃ C, mg x.cls = some (.ref C) ∧ cls = .ref C ∧
    match x.fld with
    | none => True
    | some (f, y) => ∃ dd v, d = some dd ∧ dd ∉ as ∧ H dd = some (.xd [(f, v)]) ∧ Rel K as H v y
theorem ExR.later {K : Frag} {mg : Str → Option Value} {as as1 : List Addr} {H H1 : Hp} (l : Later as H as1 H1) {cls : Value} {d : Option Addr} {x : Ex} (h : ExR K mg as H cls d x) : ExR K mg as1 H1 cls d x := by
  obtain ⟨C, h1, h2, h3⟩ := h
  refine ⟨C, h1, h2, ?_⟩
  cases e : x.fld with
  | none => trivial
  | some q =>
    obtain ⟨f, y⟩ := q
    rw [e] at h3
    obtain ⟨dd, v, e1, e2, e3, e4⟩ := h3
    obtain ⟨k1, k2⟩ := l.keep _ _ e3 e2
    exact ⟨dd, v, e1, k2, k1, e4.later l⟩
/-! ### readings over data -/
abbrev KD := D → Ho → Prop
abbrev XD := Ex → Ho → Prop
abbrev WE := En → Ho → KD → XD → Prop
abbrev WA := En → Ho → (List D → Ho → Prop) → XD → Prop
abbrev WT := En → Ho → (Bool → Ho → Prop) → XD → Prop
structure Nx where
  nx : En → Ho → Prop
  rt : D → Ho → Prop
  bk : En → Ho → Prop
  ct : En → Ho → Prop
  ex : Ex → En → Ho → Prop
abbrev WS := En → Ho → Nx → Prop
/-- what a wish about exceptions is, over data -/
def XTo (X : Cx) (W : WX) (as : List Addr) (H : Hp) (σ : L2.St) (E : XD) : Prop :=
  ∀ x h' cls dd as1 H', E x h' → Later as H as1 H' → HeapR X.K as1 H' h' → ExR X.K X.mg as1 H' cls dd x → W cls dd σ H'
def KTo (X : Cx) (as : List Addr) (H : Hp) (Q : KD) (QV : VK) : Prop :=
  ∀ y h' v as1 H', Q y h' → Later as H as1 H' → HeapR X.K as1 H' h' → Rel X.K as1 H' v y → QV v H'
def ATo (X : Cx) (as : List Addr) (H : Hp) (Q : List D → Ho → Prop) (QV : List V → Hp → Prop) : Prop :=
  ∀ ys h' vs as1 H', Q ys h' → Later as H as1 H' → HeapR X.K as1 H' h' → RelAll X.K as1 H' vs ys → QV vs H'
def TTo (X : Cx) (as : List Addr) (H : Hp) (Q : Bool → Ho → Prop) (QV : Bool → Hp → Prop) : Prop :=
  ∀ b h' as1 H', Q b h' → Later as H as1 H' → HeapR X.K as1 H' h' → QV b H'
structure STo (X : Cx) (W : WX) (as : List Addr) (H : Hp) (D : Nx) (D' : Ends) : Prop where
  nx : ∀ ρ h' σ as1 H', D.nx ρ h' → Later as H as1 H' → HeapR X.K as1 H' h' → EnvR X.K as1 H' ρ σ → D'.nx σ H'
  bk : ∀ ρ h' σ as1 H', D.bk ρ h' → Later as H as1 H' → HeapR X.K as1 H' h' → EnvR X.K as1 H' ρ σ → D'.bk σ H'
  ct : ∀ ρ h' σ as1 H', D.ct ρ h' → Later as H as1 H' → HeapR X.K as1 H' h' → EnvR X.K as1 H' ρ σ → D'.ct σ H'
  rt : ∀ y h' v as1 H', D.rt y h' → Later as H as1 H' → HeapR X.K as1 H' h' → Rel X.K as1 H' v y → D'.rt v H'
  ex : ∀ x ρ h' cls dd σ as1 H', D.ex x ρ h' → Later as H as1 H' → HeapR X.K as1 H' h' → EnvR X.K as1 H' ρ σ → ExR X.K X.mg as1 H' cls dd x → W cls dd σ H'
theorem XTo.later {X : Cx} {W : WX} {as as1 : List Addr} {H H1 : Hp} {σ : L2.St} {E : XD} (h : XTo X W as H σ E) (l : Later as H as1 H1) : XTo X W as1 H1 σ E :=
  fun x h' cls dd as2 H2 e l2 r xr => h x h' cls dd as2 H2 e (l.trans l2) r xr
theorem KTo.later {X : Cx} {as as1 : List Addr} {H H1 : Hp} {Q : KD} {QV : VK} (h : KTo X as H Q QV) (l : Later as H as1 H1) : KTo X as1 H1 Q QV :=
  fun y h' v as2 H2 e l2 r xr => h y h' v as2 H2 e (l.trans l2) r xr
theorem ATo.later {X : Cx} {as as1 : List Addr} {H H1 : Hp} {Q : List D → Ho → Prop} {QV : List V → Hp → Prop} (h : ATo X as H Q QV) (l : Later as H as1 H1) : ATo X as1 H1 Q QV :=
  fun y h' v as2 H2 e l2 r xr => h y h' v as2 H2 e (l.trans l2) r xr
theorem TTo.later {X : Cx} {as as1 : List Addr} {H H1 : Hp} {Q : Bool → Ho → Prop} {QV : Bool → Hp → Prop} (h : TTo X as H Q QV) (l : Later as H as1 H1) : TTo X as1 H1 Q QV :=
  fun y h' as2 H2 e l2 r => h y h' as2 H2 e (l.trans l2) r
theorem STo.later {X : Cx} {W : WX} {as as1 : List Addr} {H H1 : Hp} {D : Nx} {D' : Ends} (h : STo X W as H D D') (l : Later as H as1 H1) : STo X W as1 H1 D D' :=
  ⟨fun ρ h' σ as2 H2 e l2 => h.nx ρ h' σ as2 H2 e (l.trans l2), fun ρ h' σ as2 H2 e l2 => h.bk ρ h' σ as2 H2 e (l.trans l2), fun ρ h' σ as2 H2 e l2 => h.ct ρ h' σ as2 H2 e (l.trans l2),
    fun y h' v as2 H2 e l2 => h.rt y h' v as2 H2 e (l.trans l2), fun x ρ h' cls dd σ as2 H2 e l2 => h.ex x ρ h' cls dd σ as2 H2 e (l.trans l2)⟩
/-- soundness: the reading t asks no more than f does -/
def SpE (X : Cx) (W : WX) (t : TE) (f : WE) : Prop := ∀ σ H as ρ h Q E QV, EnvR X.K as H ρ σ → HeapR X.K as H h → f ρ h Q E → KTo X as H Q QV → XTo X W as H σ E → t σ H QV
def SpT (X : Cx) (W : WX) (t : TT) (f : WT) : Prop := ∀ σ H as ρ h Q E QV, EnvR X.K as H ρ σ → HeapR X.K as H h → f ρ h Q E → TTo X as H Q QV → XTo X W as H σ E → t σ H QV
def SpA (X : Cx) (W : WX) (t : TA) (f : WA) : Prop := ∀ σ H as ρ h Q E QV, EnvR X.K as H ρ σ → HeapR X.K as H h → f ρ h Q E → ATo X as H Q QV → XTo X W as H σ E → t σ H QV
def SpS (X : Cx) (W : WX) (t : TS) (f : WS) : Prop := ∀ σ H as ρ h D D', EnvR X.K as H ρ σ → HeapR X.K as H h → f ρ h D → STo X W as H D D' → t D' σ H
def SE (X : Cx) (W : WX) (e : Expr) (f : WE) : Prop := ∃ t, PE X e t ∧ SpE X W t f
def ST (X : Cx) (W : WX) (e : Expr) (f : WT) : Prop := ∃ t, PT X e t ∧ SpT X W t f
def SW (X : Cx) (W : WX) (e : Expr) (f : WT) : Prop := ∃ t, PW X e t ∧ SpT X W t f
def SA (X : Cx) (W : WX) (e : List Expr) (f : WA) : Prop := ∃ t, PA X e t ∧ SpA X W t f
def SS (X : Cx) (W : WX) (s : Stmt) (f : WS) : Prop := ∃ t, PS X s t ∧ SpS X W t f
def SB (X : Cx) (W : WX) (s : List Stmt) (f : WS) : Prop := ∃ t, PSs X s t ∧ SpS X W t f
end V2
set_option Elab.async false
set_option linter.all false
set_option maxRecDepth 100000
set_option maxHeartbeats 4000000
namespace V2
open PySem PySem.Spec PyProof.Rows L2
open PySem.W (Frag)
section
variable {X : Cx} {W : WX} {as : List Addr} {H : Hp} {h : Ho} {Q : KD} {QV : VK}
theorem KTo.q (k : KTo X as H Q QV) (r : HeapR X.K as H h) {v : V} {y : D} (q : Q y h) (rv : Rel X.K as H v y) : QV v H := k _ _ _ _ _ q (Later.refl _ _) r rv
theorem KTo.qd (k : KTo X as H Q QV) (r : HeapR X.K as H h) {v : V} {y : PyData} (q : Q (.d y) h) (rv : Dv X.K as H v y) : QV v H := k.q r q (.d rv)
/-- a new tuple or list, by value -/
theorem KTo.newTup (k : KTo X as H Q QV) (r : HeapR X.K as H h) {vs : List V} {ps : List PyData} (q : Q (.d (.tuple ps)) h) (rv : DvAll X.K as H vs ps) {p : Addr} (hp : H p = none) : QV (.ref p) (upd H p (.tup vs)) := by
  have l : Later as H as (upd H p (.tup vs)) := Later.new _ hp
  refine k _ _ _ _ _ q l (r.new _ hp) (.d (.tup (.inl ⟨.inl upd_same, fun hm => ?_⟩) (rv.later l)))
  obtain ⟨u, e⟩ := r.there hm
  rw [hp] at e
  cases e
theorem KTo.newLst (k : KTo X as H Q QV) (r : HeapR X.K as H h) {vs : List V} {ps : List PyData} (q : Q (.d (.list ps)) h) (rv : DvAll X.K as H vs ps) {p : Addr} (hp : H p = none) : QV (.ref p) (upd H p (.lst vs)) := by
  have l : Later as H as (upd H p (.lst vs)) := Later.new _ hp
  refine k _ _ _ _ _ q l (r.new _ hp) (.d (.lst (.inl ⟨.inl upd_same, fun hm => ?_⟩) (rv.later l)))
  obtain ⟨u, e⟩ := r.there hm
  rw [hp] at e
  cases e
/-- a new list, a place -/
theorem KTo.newLoc (k : KTo X as H Q QV) (r : HeapR X.K as H h) {vs : List V} {xs : List D} (q : Q (.loc h.length) (h ++ [.lst xs])) (rv : RelAll X.K as H vs xs) {p : Addr} (hp : H p = none) : QV (.ref p) (upd H p (.lst vs)) := by
  obtain ⟨r1, e⟩ := r.place hp rv
  exact k _ _ _ _ _ q (Later.place _ hp) r1 (.loc e)
end
/-! ### names and constants -/
def fVar (i : Nat) : WE := fun ρ h Q _ => match ρ[i]? with
  | some (some d) => Q d h
  | _ => False
def fC (p : PyData) : WE := fun _ h Q _ => Q (.d p) h
section
variable {X : Cx} {W : WX} {pos : Pos}
theorem SE.var (i : Nat) {x : Str} (hN : X.N[i]? = some x := by rfl) (hv : Vis X.env.scope x := by first | exact Or.inl rfl | exact Or.inr (Or.inl rfl) | exact Or.inr (Or.inr rfl)) (hd : (x == ("__debug__" : Str)) = false := by decide)
    (hcd : (x == ("__classdict__" : Str)) = false := by decide) : SE X W (.Name x pos) (fVar i) := by
  refine ⟨_, pe_var hN hv hd hcd, fun σ H as ρ h Q E QV eR hR hq k _ => ?_⟩
  unfold fVar at hq
  split at hq
  · rename_i d e
    obtain ⟨v, e2, r⟩ := eR.2 i d e
    exact ⟨v, e2, k.q hR hq r⟩
  · exact hq.elim
theorem SE.int {i : Int} {j} : SE X W (.Constant (.int i) j pos) (fC (.int i)) := ⟨_, pe_int, fun _ _ _ _ _ _ _ _ _ hR hq k _ => k.qd hR hq (.int i)⟩
theorem SE.bl {b : Bool} {j} : SE X W (.Constant (.bool b) j pos) (fC (.bool b)) := ⟨_, pe_bl, fun _ _ _ _ _ _ _ _ _ hR hq k _ => k.qd hR hq (.bl b)⟩
theorem SE.non {j} : SE X W (.Constant .none j pos) (fC .none) := ⟨_, pe_non, fun _ _ _ _ _ _ _ _ _ hR hq k _ => k.qd hR hq .non⟩
theorem SE.str {x : Str} {j} : SE X W (.Constant (.str x) j pos) (fC (.str x)) := ⟨_, pe_str, fun _ _ _ _ _ _ _ _ _ hR hq k _ => k.qd hR hq (.str x)⟩
/-- a constant of the module that is a tuple of the written part -/
theorem SE.glob {x : Str} {v : V} {u : Value} {p : PyData} (hg : Gl X x) (hm : X.mg x = some u) (r : RelV v u) (hv : ∀ as H, Dv X.K as H v p) (hd : (x == ("__debug__" : Str)) = false := by decide) : SE X W (.Name x pos) (fC p) :=
  ⟨_, pe_glob hg hm r hd, fun _ H as _ _ _ _ _ _ hR hq k _ => k.qd hR hq (hv as H)⟩
end
/-! ### arguments -/
def aNil : WA := fun _ h Q _ => Q [] h
def aCons (f : WE) (g : WA) : WA := fun ρ h Q E => f ρ h (fun x h1 => g ρ h1 (fun xs h2 => Q (x :: xs) h2) E) E
section
variable {X : Cx} {W : WX} {e : Expr} {es : List Expr} {f : WE} {g : WA} {pos : Pos}
theorem SA.nil : SA X W [] aNil := ⟨_, pa_nil, fun _ _ _ _ _ _ _ _ _ hR hq k _ => k _ _ _ _ _ hq (Later.refl _ _) hR .nil⟩
theorem SA.cons (he : SE X W e f) (hr : SA X W es g) (hs : starEach (e :: es) X.env = (false, eval e X.env) :: starEach es X.env := by rfl) : SA X W (e :: es) (aCons f g) := by
  obtain ⟨te, pe, se⟩ := he
  obtain ⟨ta, pa, sa⟩ := hr
  refine ⟨_, pa_cons pe pa hs, fun σ H as ρ h Q E QV eR hR hq k kx => ?_⟩
  refine se σ H as ρ h _ E _ eR hR hq (fun x h1 v as1 H1 hq1 l1 r1 rv => ?_) kx
  refine sa σ H1 as1 ρ h1 _ E _ (eR.later l1) r1 hq1 (fun xs h2 vs as2 H2 hq2 l2 r2 rvs => ?_) (kx.later l1)
  exact k _ _ _ _ _ hq2 (l1.trans l2) r2 (.cons (rv.later l2) rvs)
end
/-! ### operators of two -/
abbrev WR2 := D → D → Ho → KD → Prop
def fBin (r : WR2) (fa fb : WE) : WE := fun ρ h Q E => fa ρ h (fun x h1 => fb ρ h1 (fun y h2 => r x y h2 Q) E) E
def Cp2 (X : Cx) (rV : R2) (r : WR2) : Prop := ∀ x y h Q v w as H QV, Rel X.K as H v x → Rel X.K as H w y → HeapR X.K as H h → r x y h Q → KTo X as H Q QV → rV v w H QV
section
variable {X : Cx} {W : WX} {a b : Expr} {fa fb : WE} {pos : Pos}
theorem sp_op {rV : R2} {r : WR2} {ta tb : TE} (c : Cp2 X rV r) (ha : SpE X W ta fa) (hb : SpE X W tb fb) : SpE X W (tOp rV ta tb) (fBin r fa fb) := by
  intro σ H as ρ h Q E QV eR hR hq k kx
  refine ha σ H as ρ h _ E _ eR hR hq (fun x h1 v as1 H1 hq1 l1 r1 rv => ?_) kx
  refine hb σ H1 as1 ρ h1 _ E _ (eR.later l1) r1 hq1 (fun y h2 w as2 H2 hq2 l2 r2 rw' => ?_) (kx.later l1)
  exact c x y h2 Q v w as2 H2 QV (rv.later l2) rw' r2 hq2 (k.later (l1.trans l2))
theorem SE.bin {op : Operator} {rV : R2} {r : WR2} (ho : OpR X (binaryOp op) rV) (c : Cp2 X rV r) (ha : SE X W a fa) (hb : SE X W b fb) : SE X W (.BinOp a op b pos) (fBin r fa fb) := by
  obtain ⟨ta, pa, sa⟩ := ha
  obtain ⟨tb, pb, sb⟩ := hb
  exact ⟨_, pe_op ho pa pb, sp_op c sa sb⟩
theorem SE.cmp {op : CmpOp} {rV : R2} {r : WR2} (ho : OpR X (compareOp op) rV) (c : Cp2 X rV r) (ha : SE X W a fa) (hb : SE X W b fb) (hm : behindInMarks op b = false) : SE X W (.Compare a [op] [b] pos) (fBin r fa fb) := by
  obtain ⟨ta, pa, sa⟩ := ha
  obtain ⟨tb, pb, sb⟩ := hb
  exact ⟨_, pe_cmpR ho pa pb hm, sp_op c sa sb⟩
end
/-- two ints -/
def rInts (C : Int → Int → Prop) (g : Int → Int → PyData) : WR2 := fun x y h Q => match x, y with
  | .d (.int i), .d (.int j) => C i j ∧ Q (.d (g i j)) h
  | _, _ => False
section
variable {X : Cx}
theorem cp_ints {C : Int → Int → Prop} {gV : Int → Int → V} {g : Int → Int → PyData} (hg : ∀ K as H i j, Dv K as H (gV i j) (g i j)) : Cp2 X (rI C gV) (rInts C g) := by
  intro x y h Q v w as H QV rx ry hR hq k
  unfold rInts at hq
  split at hq
  · rename_i i j
    cases rx with | d rx =>
    cases ry with | d ry =>
    cases rx
    cases ry
    exact ⟨i, j, rfl, rfl, hq.1, k.qd hR hq.2 (hg _ _ _ _ _)⟩
  · exact hq.elim
theorem cp_ints0 {gV : Int → Int → V} {g : Int → Int → PyData} (hg : ∀ K as H i j, Dv K as H (gV i j) (g i j)) : Cp2 X (rI0 gV) (rInts (fun _ _ => True) g) := by
  intro x y h Q v w as H QV rx ry hR hq k
  unfold rInts at hq
  split at hq
  · rename_i i j
    cases rx with | d rx =>
    cases ry with | d ry =>
    cases rx
    cases ry
    exact ⟨i, j, rfl, rfl, k.qd hR hq.2 (hg _ _ _ _ _)⟩
  · exact hq.elim
def CDivA (_ j : Int) : Prop := j ≠ 0 ∧ j.natAbs.log2 < 9000
theorem op_fdivA : OpR X (binaryOp .FloorDiv) (rI CDivA fun i j => .int (i.fdiv j)) := opI fun i j _ _ _ _ _ hc q => floordiv_int hc.1 q (.inl (PyProof.noPylong_of_log2 hc.2))
end
/-- the items of a list or tuple -/
def items (h : Ho) : D → Option (List D)
  | .d (.list ps) => some (ps.map D.d)
  | .d (.tuple ps) => some (ps.map D.d)
  | .d _ => none
  | .loc n => match h[n]? with
    | some (.lst xs) => some xs
    | _ => none
  | .tp _ => none
  | .ob _ _ => none
  | .pr _ _ => none
theorem items_rel {K : Frag} {as : List Addr} {H : Hp} {h : Ho} {v : V} {x : D} {xs : List D} (r : Rel K as H v x) (hR : HeapR K as H h) (e : items h x = some xs) :
    ∃ a vs, v = .ref a ∧ (SqL K H a vs ∨ SqT K H a vs) ∧ RelAll K as H vs xs := by
  cases r with
  | d r =>
    cases r with
    | lst s al =>
      simp only [items, Option.some.injEq] at e
      subst e
      exact ⟨_, _, rfl, .inl s.sq, al.rel⟩
    | tup s al =>
      simp only [items, Option.some.injEq] at e
      subst e
      exact ⟨_, _, rfl, .inr s.sq, al.rel⟩
    | non => simp [items] at e
    | bl => simp [items] at e
    | int => simp [items] at e
    | str => simp [items] at e
  | tp _ _ _ _ => simp [items] at e
  | ob _ _ _ _ _ => simp [items] at e
  | pr _ _ _ => simp [items] at e
  | loc ha =>
    rename_i a n
    simp only [items] at e
    split at e
    · rename_i ys en
      cases e
      obtain ⟨b, hb, ob⟩ := hR.at en
      rw [ha] at hb
      cases hb
      obtain ⟨vs, e1, e2⟩ := ob
      exact ⟨a, vs, rfl, .inl (SqL.of e1), e2⟩
    · cases e
/-- the items of a list -/
def litems (h : Ho) : D → Option (List D)
  | .d (.list ps) => some (ps.map D.d)
  | .d _ => none
  | .loc n => match h[n]? with
    | some (.lst xs) => some xs
    | _ => none
  | .tp _ => none
  | .ob _ _ => none
  | .pr _ _ => none
theorem litems_rel {K : Frag} {as : List Addr} {H : Hp} {h : Ho} {v : V} {x : D} {xs : List D} (r : Rel K as H v x) (hR : HeapR K as H h) (e : litems h x = some xs) :
    ∃ a vs, v = .ref a ∧ SqL K H a vs ∧ RelAll K as H vs xs := by
  cases r with
  | d r =>
    cases r with
    | lst s al =>
      simp only [litems, Option.some.injEq] at e
      subst e
      exact ⟨_, _, rfl, s.sq, al.rel⟩
    | tup s al => simp [litems] at e
    | non => simp [litems] at e
    | bl => simp [litems] at e
    | int => simp [litems] at e
    | str => simp [litems] at e
  | tp _ _ _ _ => simp [litems] at e
  | ob _ _ _ _ _ => simp [litems] at e
  | pr _ _ _ => simp [litems] at e
  | loc ha =>
    rename_i a n
    simp only [litems] at e
    split at e
    · rename_i ys en
      cases e
      obtain ⟨b, hb, ob⟩ := hR.at en
      rw [ha] at hb
      cases hb
      obtain ⟨vs, e1, e2⟩ := ob
      exact ⟨a, vs, rfl, SqL.of e1, e2⟩
    · cases e
/-- data, or a place that holds data -/
def datum (h : Ho) : D → Option PyData
  | .d p => some p
  | .loc n => match h[n]? with
    | some (.lst xs) => (allD xs).map PyData.list
    | _ => none
  | .tp _ => none
  | .ob _ _ => none
  | .pr _ _ => none
theorem datum_dp {K : Frag} {as : List Addr} {H : Hp} {h : Ho} {v : V} {x : D} {p : PyData} (r : Rel K as H v x) (hR : HeapR K as H h) (e : datum h x = some p) : Dp K H v p := by
  cases r with
  | d r =>
    simp only [datum, Option.some.injEq] at e
    subst e
    exact r.dp
  | tp _ _ _ _ => simp [datum] at e
  | ob _ _ _ _ _ => simp [datum] at e
  | pr _ _ _ => simp [datum] at e
  | loc ha =>
    simp only [datum] at e
    split at e
    · rename_i ys en
      simp only [Option.map_eq_some_iff] at e
      obtain ⟨ps, e1, rfl⟩ := e
      obtain ⟨b, hb, ob⟩ := hR.at en
      rw [ha] at hb
      cases hb
      obtain ⟨vs, e2, e3⟩ := ob
      exact .lst (SqL.of e2) (DvAll.dp (e3.ofAllD e1))
    · cases e
/-! ### + -/
/-- list + list, also of what is only read -/
def rCatR (K : Frag) : R2 := fun x y H Q => ∃ l b xs zs, x = .ref l ∧ y = .ref b ∧ SqL K H l xs ∧ SqL K H b zs ∧ xs.length + zs.length ≤ sizeLine ∧ ∀ p, H p = none → Q (.ref p) (upd H p (.lst (xs ++ zs)))
theorem op_catR {X : Cx} : OpR X (binaryOp .Add) (rCatR X.K) := by
  intro pins s σ H x y v u Q I rx ry h
  obtain ⟨l, b, xs, zs, rfl, rfl, h1, h2, hz, q⟩ := h
  cases rx; cases ry
  obtain ⟨i1, r1, ⟨⟨c1, d1, t1, s1⟩, n1, g1, k1, m1, e1⟩, z1⟩ := I.list h1
  obtain ⟨i2, r2, ⟨⟨c2, d2, t2, s2⟩, n2, g2, k2, m2, e2⟩, z2⟩ := I.list h2
  simp only at k1 e1 k2 e2
  subst k1; subst e1; subst k2; subst e2
  have hsz : i1.toArray.size + i2.toArray.size ≤ sizeLine := by
    rw [List.size_toArray, List.size_toArray, ← r1.length, ← r2.length]; exact hz
  refine concat_meets ⟨_, g1, rfl⟩ ⟨_, g2, rfl⟩ noFill_list_add seq_list_add F.slot_list_add F.entry_list_add (F.args_list_add_2 _ _)
    (list_addW l b i1.toArray i2.toArray n1 n2 d1 d2 s1 s2 hsz) ⟨g1, g2, ?_⟩
  have ea : i1.toArray ++ i2.toArray = (i1 ++ i2).toArray := by simp
  rw [ea]
  exact ⟨.ref _, _, I.lnew (t' := s.toks) (r1.append r2) (by rw [List.length_append]; exact hz), rfl, q _ I.fresh⟩
def rAdd2 : WR2 := fun x y h Q => match x, y with
  | .d (.int i), .d (.int j) => Q (.d (.int (i + j))) h
  | .d (.str a), .d (.str b) => a.length + b.length ≤ sizeLine ∧ Q (.d (.str (a ++ b))) h
  | .d (.list ps), .d (.list qs) => ps.length + qs.length ≤ sizeLine ∧ Q (.d (.list (ps ++ qs))) h
  | .d (.tuple ps), .d (.tuple qs) => ps.length + qs.length ≤ sizeLine ∧ Q (.d (.tuple (ps ++ qs))) h
  | _, _ => False
def rAddV (K : Frag) : R2 := fun x y H Q => rI0 (fun i j => .int (i + j)) x y H Q ∨ (∃ i j, x = .str i ∧ y = .str j ∧ i.length + j.length ≤ sizeLine ∧ Q (.str (i ++ j)) H) ∨ rCatR K x y H Q ∨ rCatA K x y H Q
section
variable {X : Cx}
theorem op_addV : OpR X (binaryOp .Add) (rAddV X.K) := op_add.or (op_add_str.or (op_catR.or op_catA))
theorem cp_add : Cp2 X (rAddV X.K) rAdd2 := by
  intro x y h Q v w as H QV rx ry hR hq k
  unfold rAdd2 at hq
  split at hq
  · cases rx with | d rx =>
    cases ry with | d ry =>
    cases rx
    cases ry
    exact .inl ⟨_, _, rfl, rfl, k.qd hR hq (.int _)⟩
  · cases rx with | d rx =>
    cases ry with | d ry =>
    cases rx
    cases ry
    exact .inr (.inl ⟨_, _, rfl, rfl, hq.1, k.qd hR hq.2 (.str _)⟩)
  · cases rx with | d rx =>
    cases ry with | d ry =>
    cases rx with | lst sx ax =>
    cases ry with | lst sy ay =>
    refine .inr (.inr (.inl ⟨_, _, _, _, rfl, rfl, sx.sq, sy.sq, by rw [ax.length, ay.length]; exact hq.1, fun p hp => ?_⟩))
    exact k.newLst hR hq.2 (ax.append ay) hp
  · cases rx with | d rx =>
    cases ry with | d ry =>
    cases rx with | tup sx ax =>
    cases ry with | tup sy ay =>
    refine .inr (.inr (.inr ⟨_, _, _, _, rfl, rfl, sx.sq, sy.sq, by rw [ax.length, ay.length]; exact hq.1, fun e => ?_, fun _ e => ?_, fun _ _ p hp => ?_⟩))
    · subst e
      cases ax
      exact k.qd hR hq.2 (.tup sy ay)
    · subst e
      cases ay
      have := hq.2
      rw [List.append_nil] at this
      exact k.qd hR this (.tup sx ax)
    · exact k.newTup hR hq.2 (ax.append ay) hp
  · exact hq.elim
theorem SE.add {W : WX} {a b : Expr} {fa fb : WE} {pos : Pos} (ha : SE X W a fa) (hb : SE X W b fb) : SE X W (.BinOp a .Add b pos) (fBin rAdd2 fa fb) := .bin op_addV cp_add ha hb
abbrev rSub2 : WR2 := rInts (fun _ _ => True) fun i j => .int (i - j)
abbrev rMul2 : WR2 := rInts CMulW fun i j => .int (i * j)
abbrev rDiv2 : WR2 := rInts CDivA fun i j => .int (i.fdiv j)
abbrev rMod2 : WR2 := rInts (fun _ j => 0 < j) fun i j => .int (i % j)
abbrev rPow2 : WR2 := rInts CPow fun i j => .int (i ^ j.toNat)
theorem SE.sub {W : WX} {a b : Expr} {fa fb : WE} {pos : Pos} (ha : SE X W a fa) (hb : SE X W b fb) : SE X W (.BinOp a .Sub b pos) (fBin rSub2 fa fb) := .bin op_sub (cp_ints0 fun _ _ _ _ _ => .int _) ha hb
theorem SE.mul {W : WX} {a b : Expr} {fa fb : WE} {pos : Pos} (ha : SE X W a fa) (hb : SE X W b fb) : SE X W (.BinOp a .Mult b pos) (fBin rMul2 fa fb) := .bin op_mulW (cp_ints fun _ _ _ _ _ => .int _) ha hb
theorem SE.div {W : WX} {a b : Expr} {fa fb : WE} {pos : Pos} (ha : SE X W a fa) (hb : SE X W b fb) : SE X W (.BinOp a .FloorDiv b pos) (fBin rDiv2 fa fb) := .bin op_fdivA (cp_ints fun _ _ _ _ _ => .int _) ha hb
theorem SE.mod {W : WX} {a b : Expr} {fa fb : WE} {pos : Pos} (ha : SE X W a fa) (hb : SE X W b fb) : SE X W (.BinOp a .Mod b pos) (fBin rMod2 fa fb) := .bin op_mod (cp_ints fun _ _ _ _ _ => .int _) ha hb
theorem SE.pow {W : WX} {a b : Expr} {fa fb : WE} {pos : Pos} (ha : SE X W a fa) (hb : SE X W b fb) : SE X W (.BinOp a .Pow b pos) (fBin rPow2 fa fb) := .bin op_pow (cp_ints fun _ _ _ _ _ => .int _) ha hb
/-! ### comparisons -/
abbrev rCmp2 (p : Int → Int → Bool) : WR2 := rInts (fun _ _ => True) fun i j => .bool (p i j)
variable {W : WX} {a b : Expr} {fa fb : WE} {pos : Pos}
theorem SE.lt (ha : SE X W a fa) (hb : SE X W b fb) : SE X W (.Compare a [.Lt] [b] pos) (fBin (rCmp2 fun i j => decide (i < j)) fa fb) := .cmp op_lt (cp_ints0 fun _ _ _ _ _ => .bl _) ha hb (nomark _)
theorem SE.le (ha : SE X W a fa) (hb : SE X W b fb) : SE X W (.Compare a [.LtE] [b] pos) (fBin (rCmp2 fun i j => decide (i ≤ j)) fa fb) := .cmp op_le (cp_ints0 fun _ _ _ _ _ => .bl _) ha hb (nomark _)
theorem SE.gt (ha : SE X W a fa) (hb : SE X W b fb) : SE X W (.Compare a [.Gt] [b] pos) (fBin (rCmp2 fun i j => decide (j < i)) fa fb) := .cmp op_gt (cp_ints0 fun _ _ _ _ _ => .bl _) ha hb (nomark _)
theorem SE.ge (ha : SE X W a fa) (hb : SE X W b fb) : SE X W (.Compare a [.GtE] [b] pos) (fBin (rCmp2 fun i j => decide (j ≤ i)) fa fb) := .cmp op_ge (cp_ints0 fun _ _ _ _ _ => .bl _) ha hb (nomark _)
/-- == : ints at once, other data by the model's own comparison -/
def rEq2 : WR2 := fun x y h Q => match x, y with
  | .d (.int i), .d (.int j) => Q (.d (.bool (decide (i = j)))) h
  | .d (.str i), .d (.str j) => Q (.d (.bool (decide (i = j)))) h
  | _, _ => match datum h x, datum h y with
    | some p, some q => SeqAt.shaped p = true ∧ SeqAt.shaped q = true ∧ Q (.d (.bool (PyData.eqv p q))) h
    | _, _ => False
def rNe2 : WR2 := fun x y h Q => match x, y with
  | .d (.int i), .d (.int j) => Q (.d (.bool (!decide (i = j)))) h
  | .d (.str i), .d (.str j) => Q (.d (.bool (!decide (i = j)))) h
  | _, _ => match datum h x, datum h y with
    | some p, some q => SeqAt.shaped p = true ∧ SeqAt.shaped q = true ∧ Q (.d (.bool (!PyData.eqv p q))) h
    | _, _ => False
theorem int_vdec (i j : Int) : decide (V.int i = V.int j) = decide (i = j) := by
  by_cases e : i = j
  · subst e; simp
  · rw [decide_eq_false e, decide_eq_false fun z => e (V.int.inj z)]
theorem str_vdec (i j : Str) : decide (V.str i = V.str j) = decide (i = j) := by
  by_cases e : i = j
  · subst e; simp
  · rw [decide_eq_false e, decide_eq_false fun z => e (V.str.inj z)]
theorem cp_eq : Cp2 X (fun x y H Q => rEq x y H Q ∨ rEqD X.K x y H Q) rEq2 := by
  intro x y h Q v w as H QV rx ry hR hq k
  unfold rEq2 at hq
  split at hq
  · cases rx with | d rx =>
    cases ry with | d ry =>
    cases rx
    cases ry
    exact .inl ⟨rfl, by rw [int_vdec]; exact k.qd hR hq (.bl _)⟩
  · cases rx with | d rx =>
    cases ry with | d ry =>
    cases rx
    cases ry
    exact .inl ⟨rfl, by rw [str_vdec]; exact k.qd hR hq (.bl _)⟩
  · split at hq
    · rename_i p q e1 e2
      exact .inr ⟨p, q, datum_dp rx hR e1, datum_dp ry hR e2, hq.1, hq.2.1, k.qd hR hq.2.2 (.bl _)⟩
    · exact hq.elim
theorem cp_ne : Cp2 X (fun x y H Q => rNe x y H Q ∨ rNeD X.K x y H Q) rNe2 := by
  intro x y h Q v w as H QV rx ry hR hq k
  unfold rNe2 at hq
  split at hq
  · cases rx with | d rx =>
    cases ry with | d ry =>
    cases rx
    cases ry
    exact .inl ⟨rfl, by rw [int_vdec]; exact k.qd hR hq (.bl _)⟩
  · cases rx with | d rx =>
    cases ry with | d ry =>
    cases rx
    cases ry
    exact .inl ⟨rfl, by rw [str_vdec]; exact k.qd hR hq (.bl _)⟩
  · split at hq
    · rename_i p q e1 e2
      exact .inr ⟨p, q, datum_dp rx hR e1, datum_dp ry hR e2, hq.1, hq.2.1, k.qd hR hq.2.2 (.bl _)⟩
    · exact hq.elim
theorem SE.eq (hu : X.A.units + 64 < cLine) (ha : SE X W a fa) (hb : SE X W b fb) : SE X W (.Compare a [.Eq] [b] pos) (fBin rEq2 fa fb) := .cmp (op_eq.or (op_eqD hu)) cp_eq ha hb (nomark _)
theorem SE.ne (hu : X.A.units + 64 < cLine) (ha : SE X W a fa) (hb : SE X W b fb) : SE X W (.Compare a [.NotEq] [b] pos) (fBin rNe2 fa fb) := .cmp (op_ne.or (op_neD hu)) cp_ne ha hb (nomark _)
/-- is None -/
def isNon : D → Bool
  | .d .none => true
  | _ => false
def rIsN2 : WR2 := fun x y h Q => match y with
  | .d .none => Q (.d (.bool (isNon x))) h
  | _ => False
def rNotN2 : WR2 := fun x y h Q => match y with
  | .d .none => Q (.d (.bool (!isNon x))) h
  | _ => False
theorem isnon_rel {K : Frag} {as : List Addr} {H : Hp} {v : V} {x : D} (r : Rel K as H v x) : decide (v = V.non) = isNon x := by
  cases r with
  | d r => cases r <;> first | rfl | exact decide_eq_false (fun z => by cases z)
  | loc _ => exact decide_eq_false (fun z => by cases z)
  | tp _ _ _ _ => exact decide_eq_false (fun z => by cases z)
  | ob _ _ _ _ _ => exact decide_eq_false (fun z => by cases z)
  | pr _ _ _ => exact decide_eq_false (fun z => by cases z)
theorem cp_isN : Cp2 X (fun x y H Q => y = .non ∧ Q (.bl (decide (x = .non))) H) rIsN2 := by
  intro x y h Q v w as H QV rx ry hR hq k
  unfold rIsN2 at hq
  split at hq
  · cases ry with | d ry =>
    cases ry
    refine ⟨rfl, ?_⟩
    rw [isnon_rel rx]
    exact k.qd hR hq (.bl _)
  · exact hq.elim
theorem SE.isN (ha : SE X W a fa) (hb : SE X W b fb) : SE X W (.Compare a [.Is] [b] pos) (fBin rIsN2 fa fb) := .cmp op_isN cp_isN ha hb (nomark _)
end
/-! ### one -/
def fUn (g : Int → PyData) (fa : WE) : WE := fun ρ h Q E => fa ρ h (fun x h1 => match x with
  | .d (.int i) => Q (.d (g i)) h1
  | _ => False) E
section
variable {X : Cx} {W : WX} {a b : Expr} {fa fb : WE} {pos : Pos}
theorem SE.neg (ha : SE X W a fa) : SE X W (.UnaryOp .USub a pos) (fUn (fun i => .int (-i)) fa) := by
  obtain ⟨ta, pa, sa⟩ := ha
  refine ⟨_, pe_un un_neg pa, fun σ H as ρ h Q E QV eR hR hq k kx => ?_⟩
  refine sa σ H as ρ h _ E _ eR hR hq (fun x h1 v as1 H1 hq1 l1 r1 rv => ?_) kx
  split at hq1
  · cases rv with | d rv =>
    cases rv
    exact ⟨_, rfl, (k.later l1).qd r1 hq1 (.int _)⟩
  · exact hq1.elim
/-! ### tests -/
/-- a value that is True or False -/
def tVal (fa : WE) : WT := fun ρ h Q E => fa ρ h (fun x h1 => match x with
  | .d (.bool b) => Q b h1
  | _ => False) E
theorem sp_val {t : TE} (sa : SpE X W t fa) : SpT X W (tB t) (tVal fa) := by
  intro σ H as ρ h Q E QV eR hR hq k kx
  refine sa σ H as ρ h _ E _ eR hR hq (fun x h1 v as1 H1 hq1 l1 r1 rv => ?_) kx
  split at hq1
  · cases rv with | d rv =>
    cases rv
    exact ⟨_, rfl, k _ _ _ _ hq1 l1 r1⟩
  · exact hq1.elim
def tAnd2 (f g : WT) : WT := fun ρ h Q E => f ρ h (fun b h1 => if b = true then g ρ h1 Q E else Q false h1) E
def tOr2 (f g : WT) : WT := fun ρ h Q E => f ρ h (fun b h1 => if b = true then Q true h1 else g ρ h1 Q E) E
def tNot2 (f : WT) : WT := fun ρ h Q E => f ρ h (fun b h1 => Q (!b) h1) E
end
section
variable {X : Cx} {W : WX} {a b : Expr} {rest : List Expr} {fa fb : WE} {f g : WT} {pos : Pos}
theorem ST.val (ha : SE X W a fa) (he : ∀ whole, isTrue a X.env whole = (do let v ← whole; standAt a.pos; holding [v] (truthy v)) := by intro _; rfl) : ST X W a (tVal fa) := by
  obtain ⟨ta, pa, sa⟩ := ha
  exact ⟨_, pt_val pa he, sp_val sa⟩
theorem sp_test {t : TE} (sa : SpE X W t fa) : SpT X W (tTest t) (tVal fa) := sp_val sa
/-- a comparison as a test -/
theorem ST.cmp {op : CmpOp} {rV : R2} {r : WR2} (ho : OpR X (compareOp op) rV) (c : Cp2 X rV r) (ha : SE X W a fa) (hb : SE X W b fb) (hm : behindInMarks op b = false) : ST X W (.Compare a [op] [b] pos) (tVal (fBin r fa fb)) := by
  obtain ⟨ta, pa, sa⟩ := ha
  obtain ⟨tb, pb, sb⟩ := hb
  exact ⟨_, pt_cmpR ho pa pb hm, sp_test (sp_op c sa sb)⟩
theorem ST.lt (ha : SE X W a fa) (hb : SE X W b fb) : ST X W (.Compare a [.Lt] [b] pos) (tVal (fBin (rCmp2 fun i j => decide (i < j)) fa fb)) := .cmp op_lt (cp_ints0 fun _ _ _ _ _ => .bl _) ha hb (nomark _)
theorem ST.le (ha : SE X W a fa) (hb : SE X W b fb) : ST X W (.Compare a [.LtE] [b] pos) (tVal (fBin (rCmp2 fun i j => decide (i ≤ j)) fa fb)) := .cmp op_le (cp_ints0 fun _ _ _ _ _ => .bl _) ha hb (nomark _)
theorem ST.gt (ha : SE X W a fa) (hb : SE X W b fb) : ST X W (.Compare a [.Gt] [b] pos) (tVal (fBin (rCmp2 fun i j => decide (j < i)) fa fb)) := .cmp op_gt (cp_ints0 fun _ _ _ _ _ => .bl _) ha hb (nomark _)
theorem ST.ge (ha : SE X W a fa) (hb : SE X W b fb) : ST X W (.Compare a [.GtE] [b] pos) (tVal (fBin (rCmp2 fun i j => decide (j ≤ i)) fa fb)) := .cmp op_ge (cp_ints0 fun _ _ _ _ _ => .bl _) ha hb (nomark _)
theorem ST.eq (hu : X.A.units + 64 < cLine) (ha : SE X W a fa) (hb : SE X W b fb) : ST X W (.Compare a [.Eq] [b] pos) (tVal (fBin rEq2 fa fb)) := .cmp (op_eq.or (op_eqD hu)) cp_eq ha hb (nomark _)
theorem ST.ne (hu : X.A.units + 64 < cLine) (ha : SE X W a fa) (hb : SE X W b fb) : ST X W (.Compare a [.NotEq] [b] pos) (tVal (fBin rNe2 fa fb)) := .cmp (op_ne.or (op_neD hu)) cp_ne ha hb (nomark _)
theorem SW.and1 (ha : ST X W a f) : SW X W (.BoolOp .And [a] pos) f := let ⟨_, p, s⟩ := ha; ⟨_, pw_and1 p, s⟩
theorem SW.or1 (ha : ST X W a f) : SW X W (.BoolOp .Or [a] pos) f := let ⟨_, p, s⟩ := ha; ⟨_, pw_or1 p, s⟩
theorem SW.and (ha : ST X W a f) (hb : SW X W (.BoolOp .And (b :: rest) pos) g) : SW X W (.BoolOp .And (a :: b :: rest) pos) (tAnd2 f g) := by
  obtain ⟨_, pa, sa⟩ := ha
  obtain ⟨_, pb, sb⟩ := hb
  refine ⟨_, pw_and pa pb, fun σ H as ρ h Q E QV eR hR hq k kx => ?_⟩
  refine sa σ H as ρ h _ E _ eR hR hq (fun c h1 as1 H1 hq1 l1 r1 => ?_) kx
  cases c with
  | true => exact iteT (sb σ H1 as1 ρ h1 Q E QV (eR.later l1) r1 hq1 (k.later l1) (kx.later l1))
  | false => exact iteF (k _ _ _ _ hq1 l1 r1)
theorem SW.or (ha : ST X W a f) (hb : SW X W (.BoolOp .Or (b :: rest) pos) g) : SW X W (.BoolOp .Or (a :: b :: rest) pos) (tOr2 f g) := by
  obtain ⟨_, pa, sa⟩ := ha
  obtain ⟨_, pb, sb⟩ := hb
  refine ⟨_, pw_or pa pb, fun σ H as ρ h Q E QV eR hR hq k kx => ?_⟩
  refine sa σ H as ρ h _ E _ eR hR hq (fun c h1 as1 H1 hq1 l1 r1 => ?_) kx
  cases c with
  | true => exact iteT (k _ _ _ _ hq1 l1 r1)
  | false => exact iteF (sb σ H1 as1 ρ h1 Q E QV (eR.later l1) r1 hq1 (k.later l1) (kx.later l1))
theorem SW.pt {e : Expr} (hs : SW X W e f) : ST X W e f := let ⟨_, p, s⟩ := hs; ⟨_, p.pt, s⟩
theorem ST.not (ha : ST X W a f) : ST X W (.UnaryOp .Not a pos) (tNot2 f) := by
  obtain ⟨_, pa, sa⟩ := ha
  refine ⟨_, pt_not pa, fun σ H as ρ h Q E QV eR hR hq k kx => ?_⟩
  exact sa σ H as ρ h _ E _ eR hR hq (fun c h1 as1 H1 hq1 l1 r1 => k _ _ _ _ hq1 l1 r1) kx
/-- .. as values: the first ones are True or False -/
def fAnd (fa fb : WE) : WE := fun ρ h Q E => fa ρ h (fun x h1 => match x with
  | .d (.bool true) => fb ρ h1 Q E
  | .d (.bool false) => Q (.d (.bool false)) h1
  | _ => False) E
def fOr (fa fb : WE) : WE := fun ρ h Q E => fa ρ h (fun x h1 => match x with
  | .d (.bool false) => fb ρ h1 Q E
  | .d (.bool true) => Q (.d (.bool true)) h1
  | _ => False) E
def fNot (fa : WE) : WE := fun ρ h Q E => fa ρ h (fun x h1 => match x with
  | .d (.bool b) => Q (.d (.bool (!b))) h1
  | _ => False) E
theorem SE.one {op} (ha : SE X W a fa) : SE X W (.BoolOp op [a] pos) fa := let ⟨_, p, s⟩ := ha; ⟨_, pe_one p, s⟩
theorem SE.and (ha : SE X W a fa) (hb : SE X W (.BoolOp .And (b :: rest) pos) fb) : SE X W (.BoolOp .And (a :: b :: rest) pos) (fAnd fa fb) := by
  obtain ⟨_, pa, sa⟩ := ha
  obtain ⟨_, pb, sb⟩ := hb
  refine ⟨_, pe_and pa pb, fun σ H as ρ h Q E QV eR hR hq k kx => ?_⟩
  refine sa σ H as ρ h _ E _ eR hR hq (fun x h1 v as1 H1 hq1 l1 r1 rv => ?_) kx
  split at hq1
  · cases rv with | d rv =>
    cases rv
    exact ⟨true, rfl, iteT (sb σ H1 as1 ρ h1 Q E QV (eR.later l1) r1 hq1 (k.later l1) (kx.later l1))⟩
  · cases rv with | d rv =>
    cases rv
    exact ⟨false, rfl, iteF ((k.later l1).qd r1 hq1 (.bl _))⟩
  · exact hq1.elim
theorem SE.or (ha : SE X W a fa) (hb : SE X W (.BoolOp .Or (b :: rest) pos) fb) : SE X W (.BoolOp .Or (a :: b :: rest) pos) (fOr fa fb) := by
  obtain ⟨_, pa, sa⟩ := ha
  obtain ⟨_, pb, sb⟩ := hb
  refine ⟨_, pe_or pa pb, fun σ H as ρ h Q E QV eR hR hq k kx => ?_⟩
  refine sa σ H as ρ h _ E _ eR hR hq (fun x h1 v as1 H1 hq1 l1 r1 rv => ?_) kx
  split at hq1
  · cases rv with | d rv =>
    cases rv
    exact ⟨false, rfl, iteF (sb σ H1 as1 ρ h1 Q E QV (eR.later l1) r1 hq1 (k.later l1) (kx.later l1))⟩
  · cases rv with | d rv =>
    cases rv
    exact ⟨true, rfl, iteT ((k.later l1).qd r1 hq1 (.bl _))⟩
  · exact hq1.elim
theorem SE.not (ha : SE X W a fa) : SE X W (.UnaryOp .Not a pos) (fNot fa) := by
  obtain ⟨_, pa, sa⟩ := ha
  refine ⟨_, pe_not pa, fun σ H as ρ h Q E QV eR hR hq k kx => ?_⟩
  refine sa σ H as ρ h _ E _ eR hR hq (fun x h1 v as1 H1 hq1 l1 r1 rv => ?_) kx
  split at hq1
  · cases rv with | d rv =>
    cases rv
    exact ⟨_, rfl, (k.later l1).qd r1 hq1 (.bl _)⟩
  · exact hq1.elim
def fIf (t : WT) (fa fb : WE) : WE := fun ρ h Q E => t ρ h (fun b h1 => if b = true then fa ρ h1 Q E else fb ρ h1 Q E) E
theorem SE.ifExp {c : Expr} {t : WT} (hc : ST X W c t) (ha : SE X W a fa) (hb : SE X W b fb) : SE X W (.IfExp c a b pos) (fIf t fa fb) := by
  obtain ⟨_, pc, sc⟩ := hc
  obtain ⟨_, pa, sa⟩ := ha
  obtain ⟨_, pb, sb⟩ := hb
  refine ⟨_, pe_ifExp pc pa pb, fun σ H as ρ h Q E QV eR hR hq k kx => ?_⟩
  refine sc σ H as ρ h _ E _ eR hR hq (fun c h1 as1 H1 hq1 l1 r1 => ?_) kx
  cases c with
  | true => exact iteT (sa σ H1 as1 ρ h1 Q E QV (eR.later l1) r1 hq1 (k.later l1) (kx.later l1))
  | false => exact iteF (sb σ H1 as1 ρ h1 Q E QV (eR.later l1) r1 hq1 (k.later l1) (kx.later l1))
/-! ### displays -/
variable {es : List Expr} {ga : WA}
/-- a tuple of data -/
def fTup (ga : WA) : WE := fun ρ h Q E => ga ρ h (fun xs h1 => match allD xs with
  | some ps => ps.length ≤ sizeLine ∧ Q (.d (.tuple ps)) h1
  | none => False) E
/-- a list of data that is never changed -/
def fLst (ga : WA) : WE := fun ρ h Q E => ga ρ h (fun xs h1 => match allD xs with
  | some ps => ps.length ≤ sizeLine ∧ Q (.d (.list ps)) h1
  | none => False) E
/-- a list that may be changed -/
def fLoc (ga : WA) : WE := fun ρ h Q E => ga ρ h (fun xs h1 => xs.length ≤ sizeLine ∧ Q (.loc h1.length) (h1 ++ [.lst xs])) E
theorem SE.tup {x1} (ha : SA X W es ga) : SE X W (.Tuple es x1 pos) (fTup ga) := by
  obtain ⟨_, pa, sa⟩ := ha
  refine ⟨_, pe_tup pa, fun σ H as ρ h Q E QV eR hR hq k kx => ?_⟩
  refine sa σ H as ρ h _ E _ eR hR hq (fun xs h1 vs as1 H1 hq1 l1 r1 rv => ?_) kx
  split at hq1
  · rename_i ps e
    have dv := rv.ofAllD e
    exact ⟨by rw [dv.length]; exact hq1.1, fun p hp => (k.later l1).newTup r1 hq1.2 dv hp⟩
  · exact hq1.elim
theorem SE.lst (ha : SA X W es ga) : SE X W (.List es pos) (fLst ga) := by
  obtain ⟨_, pa, sa⟩ := ha
  refine ⟨_, pe_lst pa, fun σ H as ρ h Q E QV eR hR hq k kx => ?_⟩
  refine sa σ H as ρ h _ E _ eR hR hq (fun xs h1 vs as1 H1 hq1 l1 r1 rv => ?_) kx
  split at hq1
  · rename_i ps e
    have dv := rv.ofAllD e
    exact ⟨by rw [dv.length]; exact hq1.1, fun p hp => (k.later l1).newLst r1 hq1.2 dv hp⟩
  · exact hq1.elim
theorem SE.loc (ha : SA X W es ga) : SE X W (.List es pos) (fLoc ga) := by
  obtain ⟨_, pa, sa⟩ := ha
  refine ⟨_, pe_lst pa, fun σ H as ρ h Q E QV eR hR hq k kx => ?_⟩
  refine sa σ H as ρ h _ E _ eR hR hq (fun xs h1 vs as1 H1 hq1 l1 r1 rv => ?_) kx
  exact ⟨by rw [rv.length]; exact hq1.1, fun p hp => (k.later l1).newLoc r1 hq1.2 rv hp⟩
/-! ### subscripts -/
def rIx2 : WR2 := fun x y h Q => match y with
  | .d (.int i) => match items h x with
    | some xs => match atI xs i with
      | some v => Q v h
      | none => False
    | none => False
  | _ => False
theorem RelAll.atI {K : Frag} {as : List Addr} {H : Hp} {vs : List V} {xs : List D} (r : RelAll K as H vs xs) {i : Int} {x : D} (e : L2.atI xs i = some x) : ∃ v, L2.atI vs i = some v ∧ Rel K as H v x := by
  unfold L2.atI at e
  cases q : ixN xs.length i with
  | none => rw [q] at e; cases e
  | some j =>
    rw [q] at e
    obtain ⟨v, e1, e2⟩ := r.get (show xs[j]? = some x from e)
    refine ⟨v, ?_, e2⟩
    unfold L2.atI
    rw [r.length, q]
    exact e1
theorem cp_ix : Cp2 X (fun x y H Q => rIxL X.K x y H Q ∨ rIxT X.K x y H Q) rIx2 := by
  intro x y h Q v w as H QV rx ry hR hq k
  unfold rIx2 at hq
  split at hq
  · rename_i i
    cases ry with | d ry =>
    cases ry
    split at hq
    · rename_i xs e
      split at hq
      · rename_i z ez
        obtain ⟨a, vs, rfl, s, ra⟩ := items_rel rx hR e
        obtain ⟨u, e1, e2⟩ := ra.atI ez
        rcases s with s | s
        · exact .inl ⟨a, vs, i, u, rfl, rfl, s, e1, k.q hR hq e2⟩
        · exact .inr ⟨a, vs, i, u, rfl, rfl, s, e1, k.q hR hq e2⟩
      · exact hq.elim
    · exact hq.elim
  · exact hq.elim
theorem SE.ix (ha : SE X W a fa) (hb : SE X W b fb) (hs : PlainIx b := by exact fun _ _ => rfl) : SE X W (.Subscript a b pos) (fBin rIx2 fa fb) := by
  obtain ⟨ta, pa, sa⟩ := ha
  obtain ⟨tb, pb, sb⟩ := hb
  exact ⟨_, pe_ix (ix_list.or ix_tup) pa pb hs, sp_op cp_ix sa sb⟩
/-! ### slices -/
def SO (X : Cx) (W : WX) (e : Option Expr) (f : En → Ho → (Option Int → Ho → Prop) → XD → Prop) : Prop :=
  ∃ t, PO X e t ∧ ∀ σ H as ρ h Q E (QV : Option Int → Hp → Prop), EnvR X.K as H ρ σ → HeapR X.K as H h → f ρ h Q E →
    (∀ o h' as1 H', Q o h' → Later as H as1 H' → HeapR X.K as1 H' h' → QV o H') → XTo X W as H σ E → t σ H QV
def oNone : En → Ho → (Option Int → Ho → Prop) → XD → Prop := fun _ h Q _ => Q none h
def oSome (f : WE) : En → Ho → (Option Int → Ho → Prop) → XD → Prop := fun ρ h Q E => f ρ h (fun x h1 => match x with
  | .d (.int i) => Q (some i) h1
  | _ => False) E
theorem SO.none : SO X W none oNone := ⟨_, po_none, fun σ H as ρ h Q E QV _ hR hq k _ => k _ _ _ _ hq (Later.refl _ _) hR⟩
theorem SO.some (ha : SE X W a fa) : SO X W (some a) (oSome fa) := by
  obtain ⟨_, pa, sa⟩ := ha
  refine ⟨_, po_some pa, fun σ H as ρ h Q E QV eR hR hq k kx => ?_⟩
  refine sa σ H as ρ h _ E _ eR hR hq (fun x h1 v as1 H1 hq1 l1 r1 rv => ?_) kx
  split at hq1
  · cases rv with | d rv =>
    cases rv
    exact ⟨_, rfl, k _ _ _ _ hq1 l1 r1⟩
  · exact hq1.elim
def cut {α : Type} (xs : List α) (lo hi : Option Int) : List α := (xs.drop (HT.sIx xs.length 0 lo)).take (HT.sIx xs.length xs.length hi - HT.sIx xs.length 0 lo)
theorem DvAll.cut {K : Frag} {as : List Addr} {H : Hp} {vs : List V} {ps : List PyData} (r : DvAll K as H vs ps) (lo hi : Option Int) : DvAll K as H (cutV vs lo hi) (V2.cut ps lo hi) := by
  unfold cutV V2.cut
  rw [r.length]
  exact (r.drop _).take _
def fSl (fa : WE) (lo hi : En → Ho → (Option Int → Ho → Prop) → XD → Prop) : WE := fun ρ h Q E => fa ρ h (fun x h1 => lo ρ h1 (fun l h2 => hi ρ h2 (fun u h3 => match x with
  | .d (.list ps) => Q (.d (.list (cut ps l u))) h3
  | .d (.tuple ps) => Q (.d (.tuple (cut ps l u))) h3
  | _ => False) E) E) E
theorem SE.slice {lo hi : Option Expr} {fl fu} {p2 : Pos} (ha : SE X W a fa) (hl : SO X W lo fl) (hu : SO X W hi fu) : SE X W (.Subscript a (.Slice lo hi Option.none p2) pos) (fSl fa fl fu) := by
  obtain ⟨_, pa, sa⟩ := ha
  obtain ⟨_, pl, sl⟩ := hl
  obtain ⟨_, pu, su⟩ := hu
  refine ⟨_, pe_slice (sl_list.or sl_tupA) pa pl pu, fun σ H as ρ h Q E QV eR hR hq k kx => ?_⟩
  refine sa σ H as ρ h _ E _ eR hR hq (fun x h1 v as1 H1 hq1 l1 r1 rv => ?_) kx
  refine sl σ H1 as1 ρ h1 _ E _ (eR.later l1) r1 hq1 (fun lo h2 as2 H2 hq2 l2 r2 => ?_) (kx.later l1)
  refine su σ H2 as2 ρ h2 _ E _ ((eR.later l1).later l2) r2 hq2 (fun hi h3 as3 H3 hq3 l3 r3 => ?_) ((kx.later l1).later l2)
  have k3 := ((k.later l1).later l2).later l3
  have rv3 := (rv.later l2).later l3
  split at hq3
  · cases rv3 with | d rv3 =>
    cases rv3 with | lst sx ax =>
    exact .inl ⟨_, _, rfl, sx.sq, fun p hp => k3.newLst r3 hq3 (ax.cut _ _) hp⟩
  · cases rv3 with | d rv3 =>
    cases rv3 with | tup sx ax =>
    rename_i ps _ _
    refine .inr ⟨_, _, rfl, sx.sq, fun e => ?_, fun _ p hp => k3.newTup r3 hq3 (ax.cut _ _) hp⟩
    have ee : V2.cut ps lo hi = ps := by
      rw [ax.length] at e
      unfold V2.cut
      rw [e.1, e.2]
      simp
    rw [ee] at hq3
    exact k3.qd r3 hq3 (.tup sx ax)
  · exact hq3.elim
/-- xs[::-1]: a new list; a place, or data -/
def fRevLoc (fa : WE) : WE := fun ρ h Q E => fa ρ h (fun x h1 => match litems h1 x with
  | some xs => Q (.loc h1.length) (h1 ++ [.lst xs.reverse])
  | none => False) E
def fRev (fa : WE) : WE := fun ρ h Q E => fa ρ h (fun x h1 => match x with
  | .d (.list ps) => Q (.d (.list ps.reverse)) h1
  | _ => False) E
theorem SE.revLoc {e : Expr} {k : Nat} {p1 p2 p3 : Pos} (ha : SE X W e fa) : SE X W (.Subscript e (.Slice Option.none Option.none (Option.some (.UnaryOp .USub (.Constant (.int 1) k p1) p2)) p3) pos) (fRevLoc fa) := by
  obtain ⟨_, pa, sa⟩ := ha
  refine ⟨_, pe_revL pa, fun σ H as ρ h Q E QV eR hR hq k kx => ?_⟩
  refine sa σ H as ρ h _ E _ eR hR hq (fun x h1 v as1 H1 hq1 l1 r1 rv => ?_) kx
  split at hq1
  · rename_i xs e
    obtain ⟨a, vs, rfl, s, ra⟩ := litems_rel rv r1 e
    exact ⟨a, vs, rfl, s, fun p hp => (k.later l1).newLoc r1 hq1 ra.reverse hp⟩
  · exact hq1.elim
end
end V2
set_option Elab.async false
set_option linter.all false
set_option maxRecDepth 100000
set_option maxHeartbeats 4000000
namespace V2
open PySem PySem.Spec PyProof.Rows L2
open PySem.W (Frag)
mutual
theorem dp_noDict {K : Frag} {H : Hp} : ∀ {p : PyData} {v : V}, Dp K H v p → p.hasDict = false
  | .none, _, _ => by simp [PyData.hasDict]
  | .bool _, _, _ => by simp [PyData.hasDict]
  | .int _, _, _ => by simp [PyData.hasDict]
  | .str _, _, _ => by simp [PyData.hasDict]
  | .list ds, _, h => by
    cases h with
    | lst _ ha => simp only [PyData.hasDict]; exact dpAll_noDict ha
  | .tuple ds, _, h => by
    cases h with
    | tup _ ha => simp only [PyData.hasDict]; exact dpAll_noDict ha
  | .dict _, _, h => by cases h
theorem dpAll_noDict {K : Frag} {H : Hp} : ∀ {ps : List PyData} {vs : List V}, DpAll K H vs ps → PyData.hasDictAll ps = false
  | [], _, _ => by simp [PyData.hasDictAll]
  | d :: ds, _, h => by
    cases h with
    | cons h1 h2 => simp only [PyData.hasDictAll, dp_noDict h1, dpAll_noDict h2, Bool.or_self]
end
section
variable {X : Cx} {W : WX} {a : Expr} {es : List Expr} {ga : WA} {pos p : Pos}
abbrev WR := List D → Ho → KD → Prop
def CpA (X : Cx) (rV : List V → Hp → VK → Prop) (r : WR) : Prop := ∀ xs h Q vs as H QV, RelAll X.K as H vs xs → HeapR X.K as H h → r xs h Q → KTo X as H Q QV → rV vs H QV
def fCall (r : WR) (ga : WA) : WE := fun ρ h Q E => ga ρ h (fun xs h1 => r xs h1 Q) E
theorem sp_call {rV : List V → Hp → VK → Prop} {r : WR} {t : TA} (c : CpA X rV r) (sa : SpA X W t ga) : SpE X W (tCB rV t) (fCall r ga) := by
  intro σ H as ρ h Q E QV eR hR hq k kx
  exact sa σ H as ρ h _ E _ eR hR hq (fun xs h1 vs as1 H1 hq1 l1 r1 rv => c xs h1 Q vs as1 H1 QV rv r1 hq1 (k.later l1)) kx
/-- a built-in function by its name -/
theorem SE.callB {id : String} {x : Str} {rV : List V → Hp → VK → Prop} {r : WR} (hc : CallR X (.builtin id) rV) (c : CpA X rV r) (hg : Gl X x) (hm : X.mg x = none) (hv : bootBuiltins x = some (.builtin id)) (ha : SA X W (a :: es) ga)
    (hn : x ≠ "__name__" := by decide) (hdb : (x == ("__debug__" : Str)) = false := by decide)
    (he : starEach (a :: es) X.env = (false, eval a X.env) :: starEach es X.env := by rfl) (hpl : (backTo pos (starEach es X.env)).any (·.1) = false := by rfl) : SE X W (.Call (.Name x p) (a :: es) [] pos) (fCall r ga) := by
  obtain ⟨_, pa, sa⟩ := ha
  exact ⟨_, pe_callB hc hg hm hv pa hn hdb he hpl, sp_call c sa⟩
theorem SE.callTy {T : String} {x : Str} {rV : List V → Hp → VK → Prop} {r : WR} (hc : CallR X (.type T) rV) (c : CpA X rV r) (hg : Gl X x) (hm : X.mg x = none) (hv : bootBuiltins x = some (.type T)) (ha : SA X W (a :: es) ga)
    (hn : x ≠ "__name__" := by decide) (hdb : (x == ("__debug__" : Str)) = false := by decide)
    (he : starEach (a :: es) X.env = (false, eval a X.env) :: starEach es X.env := by rfl) (hpl : (backTo pos (starEach es X.env)).any (·.1) = false := by rfl) : SE X W (.Call (.Name x p) (a :: es) [] pos) (fCall r ga) := by
  obtain ⟨_, pa, sa⟩ := ha
  exact ⟨_, pe_callTy hc hg hm hv pa hn hdb he hpl, sp_call c sa⟩
/-- a module's name for a built-in function -/
theorem SE.callM {id : String} {x : Str} {rV : List V → Hp → VK → Prop} {r : WR} (hc : CallR X (.builtin id) rV) (c : CpA X rV r) (hg : Gl X x) (hm : X.mg x = some (.builtin id)) (ha : SA X W (a :: es) ga) (hdb : (x == ("__debug__" : Str)) = false := by decide)
    (he : starEach (a :: es) X.env = (false, eval a X.env) :: starEach es X.env := by rfl) (hpl : (backTo pos (starEach es X.env)).any (·.1) = false := by rfl) : SE X W (.Call (.Name x p) (a :: es) [] pos) (fCall r ga) := by
  obtain ⟨_, pa, sa⟩ := ha
  exact ⟨_, pe_callBfun hc hg hm pa hdb he hpl, sp_call c sa⟩
/-! ### the built-in functions -/
def rAbs : WR := fun xs h Q => match xs with
  | [.d (.int i)] => Q (.d (.int (if i < 0 then -i else i))) h
  | _ => False
theorem rel_int {K : Frag} {as : List Addr} {H : Hp} {v : V} {i : Int} (r : Rel K as H v (.d (.int i))) : v = .int i := by
  cases r with | d r => cases r; rfl
theorem rel_bl {K : Frag} {as : List Addr} {H : Hp} {v : V} {i : Bool} (r : Rel K as H v (.d (.bool i))) : v = .bl i := by
  cases r with | d r => cases r; rfl
theorem relAll1 {K : Frag} {as : List Addr} {H : Hp} {vs : List V} {x : D} (r : RelAll K as H vs [x]) : ∃ v, vs = [v] ∧ Rel K as H v x := by
  cases r with | cons r t => cases t; exact ⟨_, rfl, r⟩
theorem relAll2 {K : Frag} {as : List Addr} {H : Hp} {vs : List V} {x y : D} (r : RelAll K as H vs [x, y]) : ∃ v w, vs = [v, w] ∧ Rel K as H v x ∧ Rel K as H w y := by
  cases r with | cons r t => cases t with | cons r2 t => cases t; exact ⟨_, _, rfl, r, r2⟩
theorem cp_abs : CpA X (fun xs H Q => ∃ i, xs = [.int i] ∧ Q (.int (if i < 0 then -i else i)) H) rAbs := by
  intro xs h Q vs as H QV rv hR hq k
  unfold rAbs at hq
  split at hq
  · obtain ⟨v, rfl, r⟩ := relAll1 rv
    rw [rel_int r]
    exact ⟨_, rfl, k.qd hR hq (.int _)⟩
  · exact hq.elim
def rInt1 : WR := fun xs h Q => match xs with
  | [.d (.int i)] => Q (.d (.int i)) h
  | [.d (.bool b)] => Q (.d (.int (if b then 1 else 0))) h
  | _ => False
theorem cp_int1 : CpA X (fun xs H Q => (∃ i, xs = [.int i] ∧ Q (.int i) H) ∨ ∃ k, xs = [.bl k] ∧ Q (.int (if k then 1 else 0)) H) rInt1 := by
  intro xs h Q vs as H QV rv hR hq k
  unfold rInt1 at hq
  split at hq
  · obtain ⟨v, rfl, r⟩ := relAll1 rv
    rw [rel_int r]
    exact .inl ⟨_, rfl, k.qd hR hq (.int _)⟩
  · obtain ⟨v, rfl, r⟩ := relAll1 rv
    rw [rel_bl r]
    exact .inr ⟨_, rfl, k.qd hR hq (.int _)⟩
  · exact hq.elim
def rGcd2 : WR := fun xs h Q => match xs with
  | [.d (.int i), .d (.int j)] => Q (.d (.int (Nat.gcd i.natAbs j.natAbs : Nat))) h
  | _ => False
theorem cp_gcd : CpA X rGcd rGcd2 := by
  intro xs h Q vs as H QV rv hR hq k
  unfold rGcd2 at hq
  split at hq
  · obtain ⟨v, w, rfl, r1, r2⟩ := relAll2 rv
    rw [rel_int r1, rel_int r2]
    exact ⟨_, _, rfl, k.qd hR hq (.int _)⟩
  · exact hq.elim
def rLen : WR := fun xs h Q => match xs with
  | [x] => match items h x with
    | some ys => Q (.d (.int ys.length)) h
    | none => False
  | _ => False
theorem cp_len : CpA X (fun xs H Q => ∃ p ys, xs = [.ref p] ∧ (SqL X.K H p ys ∨ SqT X.K H p ys) ∧ Q (.int ys.length) H) rLen := by
  intro xs h Q vs as H QV rv hR hq k
  unfold rLen at hq
  split at hq
  · split at hq
    · rename_i ys e
      obtain ⟨v, rfl, r⟩ := relAll1 rv
      obtain ⟨a, us, rfl, s, ra⟩ := items_rel r hR e
      exact ⟨a, us, rfl, s, by rw [ra.length]; exact k.qd hR hq (.int _)⟩
    · exact hq.elim
  · exact hq.elim
def rMax2 : WR := fun xs h Q => match xs with
  | [.d (.int i), .d (.int j)] => Q (.d (.int (if j > i then j else i))) h
  | _ => False
def rMin2 : WR := fun xs h Q => match xs with
  | [.d (.int i), .d (.int j)] => Q (.d (.int (if j < i then j else i))) h
  | _ => False
/-- repr of data at any depth -/
def rReprV (K : Frag) : List V → Hp → VK → Prop := fun xs H Q => ∃ v d, xs = [v] ∧ Dp K H v d ∧ d.showable = true ∧ d.depth < 60 ∧ d.shown.length ≤ sizeLine ∧ Q (.str d.shown) H
theorem call_reprD (hg : X.A.guards = some []) (hu : X.A.units + 64 < cLine) : CallR X (.builtin "repr") (rReprV X.K) := by
  intro pins s σ H xs us Q I r h
  obtain ⟨v, d, rfl, hd, hs, hdep, hz, q⟩ := h
  obtain ⟨u, rfl, ru⟩ := vals1 r
  have fin : ∀ tk t, EP X pins σ Q (.str d.shown t) { s with toks := tk } := fun tk t => ⟨.str d.shown, H, I.tok _, ⟨_, rfl⟩, q⟩
  cases hd with
  | non =>
    cases ru
    exact P.repr_of_none (by simp only [PyData.shown] at fin; exact fin _ _)
  | bl b =>
    cases ru
    exact P.repr_of_bool (by simp only [PyData.shown] at fin; cases b <;> exact fin _ _)
  | int i =>
    obtain ⟨t, rfl⟩ := ru
    simp only [PyData.showable, decide_eq_true_eq] at hs
    exact P.repr_of_int hs (by simp only [PyData.shown] at fin; exact fin _ _)
  | str x =>
    obtain ⟨t, rfl⟩ := ru
    simp only [PyData.shown] at hz
    exact P.repr_of_str (by simp only [PyData.shown] at fin; exact fin _ _) hz
  | lst h1 h2 =>
    have hd' : Dp X.K H _ _ := .lst h1 h2
    obtain ⟨as, rd⟩ := Dp.reads I _ _ u hd' ru
    cases ru
    refine repr_of_reads' rd hs (fun e => by rw [dp_noDict hd'] at e; cases e) hg (by omega) (fun _ _ e => e) (fun h' t tk kp => ?_) hz
    exact ⟨.str _, H, I.kept kp, ⟨_, rfl⟩, q⟩
  | tup h1 h2 =>
    have hd' : Dp X.K H _ _ := .tup h1 h2
    obtain ⟨as, rd⟩ := Dp.reads I _ _ u hd' ru
    cases ru
    refine repr_of_reads' rd hs (fun e => by rw [dp_noDict hd'] at e; cases e) hg (by omega) (fun _ _ e => e) (fun h' t tk kp => ?_) hz
    exact ⟨.str _, H, I.kept kp, ⟨_, rfl⟩, q⟩
def rRepr : WR := fun xs h Q => match xs with
  | [x] => match datum h x with
    | some p => p.showable = true ∧ p.depth < 60 ∧ p.shown.length ≤ sizeLine ∧ Q (.d (.str p.shown)) h
    | none => False
  | _ => False
theorem cp_repr : CpA X (rReprV X.K) rRepr := by
  intro xs h Q vs as H QV rv hR hq k
  unfold rRepr at hq
  split at hq
  · split at hq
    · rename_i p e
      obtain ⟨v, rfl, r⟩ := relAll1 rv
      exact ⟨v, p, rfl, datum_dp r hR e, hq.1, hq.2.1, hq.2.2.1, k.qd hR hq.2.2.2 (.str _)⟩
    · exact hq.elim
  · exact hq.elim
/-- sum of ints -/
def intsOf : List D → Option (List Int)
  | [] => some []
  | .d (.int i) :: xs => (intsOf xs).map (i :: ·)
  | _ :: _ => none
theorem intsOf_some : ∀ {xs : List D} {ns : List Int}, intsOf xs = some ns → xs = ns.map fun i => D.d (.int i)
  | [], ns, h => by simp [intsOf] at h; subst h; rfl
  | .d (.int i) :: xs, ns, h => by
    simp only [intsOf, Option.map_eq_some_iff] at h
    obtain ⟨q, h1, rfl⟩ := h
    rw [intsOf_some h1]; rfl
  | .d .none :: _, _, h => by simp [intsOf] at h
  | .d (.bool _) :: _, _, h => by simp [intsOf] at h
  | .d (.str _) :: _, _, h => by simp [intsOf] at h
  | .d (.list _) :: _, _, h => by simp [intsOf] at h
  | .d (.tuple _) :: _, _, h => by simp [intsOf] at h
  | .d (.dict _) :: _, _, h => by simp [intsOf] at h
  | .loc _ :: _, _, h => by simp [intsOf] at h
  | .tp _ :: _, _, h => by simp [intsOf] at h
  | .ob _ _ :: _, _, h => by simp [intsOf] at h
  | .pr _ _ :: _, _, h => by simp [intsOf] at h
theorem RelAll.ints {K : Frag} {as : List Addr} {H : Hp} : ∀ {ns : List Int} {vs : List V}, RelAll K as H vs (ns.map fun i => D.d (.int i)) → vs = ns.map V.int
  | [], _, h => by cases h; rfl
  | n :: ns, _, h => by
    cases h with
    | cons h1 h2 => rw [rel_int h1, RelAll.ints h2]; rfl
def rSum : WR := fun xs h Q => match xs with
  | [x] => match litems h x with
    | some ys => match intsOf ys with
      | some ns => Q (.d (.int ns.sum)) h
      | none => False
    | none => False
  | _ => False
theorem cp_sum : CpA X (L2.rSum X.K) rSum := by
  intro xs h Q vs as H QV rv hR hq k
  unfold rSum at hq
  split at hq
  · split at hq
    · split at hq
      · rename_i e _ ns en
        obtain ⟨v, rfl, r⟩ := relAll1 rv
        obtain ⟨a, us, rfl, s, ra⟩ := litems_rel r hR e
        rw [intsOf_some en] at ra
        rw [ra.ints] at s
        exact ⟨a, ns, rfl, s, k.qd hR hq (.int _)⟩
      · exact hq.elim
    · exact hq.elim
  · exact hq.elim
variable {es : List Expr}
theorem SE.abs (hg : Gl X "abs") (hm : X.mg "abs" = none) (ha : SA X W [a] ga) (he : starEach [a] X.env = (false, eval a X.env) :: starEach [] X.env := by rfl) : SE X W (.Call (.Name "abs" p) [a] [] pos) (fCall rAbs ga) := .callB call_abs cp_abs hg hm (by decide +kernel) ha (he := he) (hpl := rfl)
theorem SE.int1 (hg : Gl X "int") (hm : X.mg "int" = none) (ha : SA X W [a] ga) (he : starEach [a] X.env = (false, eval a X.env) :: starEach [] X.env := by rfl) : SE X W (.Call (.Name "int" p) [a] [] pos) (fCall rInt1 ga) := .callTy call_int1 cp_int1 hg hm (by decide +kernel) ha (he := he) (hpl := rfl)
theorem SE.len (hg : Gl X "len") (hm : X.mg "len" = none) (ha : SA X W [a] ga) (he : starEach [a] X.env = (false, eval a X.env) :: starEach [] X.env := by rfl) : SE X W (.Call (.Name "len" p) [a] [] pos) (fCall rLen ga) := .callB call_len_seq cp_len hg hm (by decide +kernel) ha (he := he) (hpl := rfl)
theorem SE.repr (hgu : X.A.guards = some []) (hu : X.A.units + 64 < cLine) (hg : Gl X "repr") (hm : X.mg "repr" = none) (ha : SA X W [a] ga) (he : starEach [a] X.env = (false, eval a X.env) :: starEach [] X.env := by rfl) : SE X W (.Call (.Name "repr" p) [a] [] pos) (fCall rRepr ga) := .callB (call_reprD hgu hu) cp_repr hg hm (by decide +kernel) ha (he := he) (hpl := rfl)
theorem SE.sum (hg : Gl X "sum") (hm : X.mg "sum" = none) (hc : X.calm = true) (ha : SA X W [a] ga) (he : starEach [a] X.env = (false, eval a X.env) :: starEach [] X.env := by rfl) : SE X W (.Call (.Name "sum" p) [a] [] pos) (fCall rSum ga) := .callB (cr_sum hc) cp_sum hg hm (by decide +kernel) ha (he := he) (hpl := rfl)
theorem SE.gcd (hg : Gl X "gcd") (hm : X.mg "gcd" = some (.builtin "math.gcd")) (ha : SA X W (a :: es) ga) (he : starEach (a :: es) X.env = (false, eval a X.env) :: starEach es X.env := by rfl) (hpl : (backTo pos (starEach es X.env)).any (·.1) = false := by rfl) : SE X W (.Call (.Name "gcd" p) (a :: es) [] pos) (fCall rGcd2 ga) := .callM cr_gcd cp_gcd hg hm ha (he := he) (hpl := hpl)
/-! ### methods that change a list of the store -/
variable {o : Expr} {fo : WE} {apos cpos : Pos}
/-- xs.append(e) -/
def fAppend (fo : WE) (ga : WA) : WE := fun ρ h Q E => fo ρ h (fun x h1 => match x with
  | .loc n => match h1[n]? with
    | some (.lst _) => ga ρ h1 (fun ys h2 => match ys, h2[n]? with
      | [y], some (.lst xs) => xs.length < sizeLine ∧ Q (.d .none) (h2.set n (.lst (xs ++ [y])))
      | _, _ => False) E
    | _ => False
  | _ => False) E
theorem KTo.write {as : List Addr} {H : Hp} {h : Ho} {Q : KD} {QV : VK} (k : KTo X as H Q QV) (r : HeapR X.K as H h) {n : Nat} {b : Addr} {vs : List V} {xs : List D} {y : D} {v : V} (hb : as[n]? = some b) (q : Q y (h.set n (.lst xs))) (rv : RelAll X.K as H vs xs)
    (ry : Rel X.K as H v y) : QV v (upd H b (.lst vs)) := by
  have l : Later as H as (upd H b (.lst vs)) := Later.write _ (List.mem_of_getElem? hb)
  exact k _ _ _ _ _ q l (r.write hb rv) (ry.later l)
theorem SE.append {e : Expr} (ho : SE X W o fo) (ha : SA X W [e] ga) (hbase : attributeBase o "append" X.env (eval o X.env) = eval o X.env := by rfl)
    (hfew : ((backTo cpos (starEach [e] X.env)).all (fun x => !x.1) && (backToKw cpos (keywordEach [] X.env)).all (fun x => x.1.isSome)
      && decide ([e].length + ([] : List Keyword).length + (if ([] : List Keyword).isEmpty then 0 else 1) < 30)) = true := by rfl)
    (hline : (apos.endLine == cpos.line) = true := by rfl) (hs : starEach [e] X.env = (false, eval e X.env) :: starEach [] X.env := by rfl) : SE X W (.Call (.Attribute o "append" apos) [e] [] cpos) (fAppend fo ga) := by
  obtain ⟨_, po, so⟩ := ho
  obtain ⟨_, pa, sa⟩ := ha
  refine ⟨_, pe_bm PySem.F.plainAttrs_list PySem.F.slot_list_append PySem.F.type_list_append mt_append po pa hbase hfew hline hs rfl, fun σ H as ρ h Q E QV eR hR hq k kx => ?_⟩
  refine so σ H as ρ h _ E _ eR hR hq (fun x h1 v as1 H1 hq1 l1 r1 rv => ?_) kx
  split at hq1
  · rename_i n
    split at hq1
    · rename_i xs0 e0
      cases rv with | loc hn =>
      obtain ⟨b, hb, vs0, o1, o2⟩ := r1.at e0
      rw [hn] at hb
      cases hb
      refine ⟨.inl ⟨rfl, _, SqL.of o1⟩, ?_⟩
      refine sa σ H1 as1 ρ h1 _ E _ (eR.later l1) r1 hq1 (fun ys h2 us as2 H2 hq2 l2 r2 rvs => ?_) (kx.later l1)
      split at hq2
      · rename_i y xs e2
        obtain ⟨u, rfl, ru⟩ := relAll1 rvs
        obtain ⟨b, hb, vs, o3, o4⟩ := r2.at e2
        rw [l2.at hn] at hb
        cases hb
        refine ⟨_, vs, u, rfl, rfl, o3, by rw [o4.length]; exact hq2.1, ?_⟩
        exact ((k.later l1).later l2).write r2 (l2.at hn) hq2.2 (o4.append (.cons ru .nil)) (.d .non)
      · exact hq2.elim
    · exact hq1.elim
  · exact hq1.elim
/-- xs.pop() -/
def fPop (fo : WE) : WE := fun ρ h Q E => fo ρ h (fun x h1 => match x with
  | .loc n => match h1[n]? with
    | some (.lst xs) => match xs[xs.length - 1]? with
      | some y => Q y (h1.set n (.lst xs.dropLast))
      | none => False
    | _ => False
  | _ => False) E
theorem SE.pop (ho : SE X W o fo) (hbase : attributeBase o "pop" X.env (eval o X.env) = eval o X.env := by rfl) (hline : (apos.endLine == cpos.line) = true := by rfl) : SE X W (.Call (.Attribute o "pop" apos) [] [] cpos) (fPop fo) := by
  obtain ⟨_, po, so⟩ := ho
  refine ⟨_, pe_bm0 PySem.F.plainAttrs_list PySem.F.slot_list_pop PySem.F.type_list_pop mt_pop po hbase hline, fun σ H as ρ h Q E QV eR hR hq k kx => ?_⟩
  refine so σ H as ρ h _ E _ eR hR hq (fun x h1 v as1 H1 hq1 l1 r1 rv => ?_) kx
  split at hq1
  · split at hq1
    · rename_i n _ xs e0
      split at hq1
      · rename_i _ y ey
        cases rv with | loc hn =>
        obtain ⟨b, hb, vs, o1, o2⟩ := r1.at e0
        rw [hn] at hb
        cases hb
        obtain ⟨u, eu, ru⟩ := o2.get ey
        exact ⟨.inl ⟨rfl, _, SqL.of o1⟩, _, vs, u, rfl, rfl, o1, by rw [o2.length]; exact eu, (k.later l1).write r1 hn hq1 o2.dropLast ru⟩
      · exact hq1.elim
    · exact hq1.elim
  · exact hq1.elim
end
end V2
set_option Elab.async false
set_option linter.all false
set_option maxRecDepth 100000
set_option maxHeartbeats 4000000
namespace V2
open PySem PySem.Spec PyProof.Rows L2
open PySem.W (Frag)
/-! ### what is walked -/
/-- the items, and what must stay so of the store while it is walked -/
abbrev WI := En → Ho → (List D → (Ho → Prop) → Ho → Prop) → XD → Prop
/-- the walk J of the items xs, from the state as1 H1 on, while st holds -/
def Walks (K : Frag) (as1 : List Addr) (H1 : Hp) (xs : List D) (st : Ho → Prop) (J : It) : Prop :=
  ∀ i as2 H2 h2, Later as1 H1 as2 H2 → HeapR K as2 H2 h2 → st h2 → (i < xs.length → J.go i H2) ∧ (i = xs.length → J.stop i H2) ∧
    ∀ v H3, J.yld i H2 v H3 → ∀ x, xs[i]? = some x → Later as2 H2 as2 H3 ∧ HeapR K as2 H3 h2 ∧ Rel K as2 H3 v x
def SI (X : Cx) (W : WX) (tg it : Expr) (f : WI) : Prop :=
  ∃ wi : TI, PI X tg it wi ∧ ∀ σ H as ρ h Q E (R : It → Hp → Prop), EnvR X.K as H ρ σ → HeapR X.K as H h → f ρ h Q E →
    (∀ xs st h1 as1 H1 (J : It), Q xs st h1 → st h1 → Later as H as1 H1 → HeapR X.K as1 H1 h1 → Walks X.K as1 H1 xs st J → R J H1) → XTo X W as H σ E → wi σ H R
section
variable {X : Cx} {W : WX} {tg a : Expr} {fa : WE} {ga : WA} {pos p : Pos}
/-- a list or a tuple, data or a place -/
def stay (x : D) (xs : List D) : Ho → Prop := fun h => match x with
  | .loc n => h[n]? = some (.lst xs)
  | _ => True
theorem stay_items {x : D} {xs : List D} {h : Ho} (e : items h x = some xs) : stay x xs h := by
  unfold stay
  split
  · rename_i n
    simp only [items] at e
    split at e
    · rename_i ys en
      cases e
      exact en
    · cases e
  · trivial
def iSeq (fa : WE) : WI := fun ρ h Q E => fa ρ h (fun x h1 => match items h1 x with
  | some xs => Q xs (stay x xs) h1
  | none => False) E
def tSeqI (K : Frag) (tl : TE) : TI := fun σ H R => tl σ H fun x H1 => ∃ b, x = .ref b ∧ (((∃ xs, SqL K H1 b xs) ∧ R (Itl K b) H1) ∨ ((∃ xs, SqT K H1 b xs) ∧ R (Itt K b) H1))
theorem pi_seqI {l : Expr} {tl : TE} (hl : PE X l tl) : PI X tg l (tSeqI X.K tl) := by
  refine ⟨fun pins s σ H R I hw => ?_⟩
  refine thn (hl.run pins s σ H _ I hw) fun v s1 ⟨x, H1, I1, r1, b, eb, q1⟩ => ?_
  subst eb
  cases r1
  rcases q1 with ⟨⟨xs, hq⟩, q⟩ | ⟨⟨xs, hq⟩, q⟩
  · obtain ⟨its, rv, pl, hz⟩ := I1.list hq
    exact wpAny_pyIter_list pl.isList (pi_one (tk := s1.toks) I1 _ (turn_list b _) ⟨_, Heap.get?_push_size _ rfl, rfl, rfl⟩ q)
  · obtain ⟨its, rv, pl, hz⟩ := I1.tuple hq
    exact wpAny_pyIter_tuple (show s1.heap.IsTuple b its.toArray from pl) (pi_one (tk := s1.toks) I1 _ (turn_tuple b _) ⟨_, Heap.get?_push_size _ rfl, rfl, rfl⟩ q)
/-- the vs of a D that has items, at a later state: the same place -/
theorem walks_list {K : Frag} {as1 : List Addr} {H1 : Hp} {h1 : Ho} {x : D} {xs : List D} {b : Addr} (r : Rel K as1 H1 (.ref b) x) (hR : HeapR K as1 H1 h1) (e : items h1 x = some xs) {vs : List V} (s : SqL K H1 b vs)
    (nt : ∀ ps, x ≠ .d (.tuple ps)) : Walks K as1 H1 xs (stay x xs) (Itl K b) := by
  have key : ∀ as2 H2 h2, Later as1 H1 as2 H2 → HeapR K as2 H2 h2 → stay x xs h2 → ∃ us, SqL K H2 b us ∧ RelAll K as2 H2 us xs := by
    intro as2 H2 h2 l r2 st
    cases r with
    | d r =>
      cases r with
      | lst sx ax =>
        simp only [items, Option.some.injEq] at e
        subst e
        exact ⟨_, (sx.later l).sq, (ax.later l).rel⟩
      | tup sx ax => exact absurd rfl (nt _)
    | tp _ _ _ _ => simp [items] at e
    | ob _ _ _ _ _ => simp [items] at e
    | pr _ _ _ => simp [items] at e
    | @loc _ n hb =>
      have st' : h2[n]? = some (O.lst xs) := st
      obtain ⟨c, hc, us, o1, o2⟩ := r2.at st'
      rw [l.at hb] at hc
      cases hc
      exact ⟨us, SqL.of o1, o2⟩
  intro i as2 H2 h2 l r2 st
  obtain ⟨us, q1, q2⟩ := key as2 H2 h2 l r2 st
  refine ⟨fun hi => ⟨us, us[i]'(by rw [q2.length]; exact hi), q1, List.getElem?_eq_getElem _⟩, fun hi => ⟨us, q1, by rw [q2.length]; exact Nat.le_of_eq hi.symm⟩, fun v H3 y z ez => ?_⟩
  obtain ⟨rfl, y⟩ := y
  obtain ⟨u, eu, ru⟩ := q2.get ez
  have := y us q1
  rw [eu] at this
  cases this
  exact ⟨Later.refl _ _, r2, ru⟩
theorem walks_tup {K : Frag} {as1 : List Addr} {H1 : Hp} {b : Addr} {vs : List V} {ps : List PyData} {st : Ho → Prop} (s : TupR K as1 H1 b vs) (al : DvAll K as1 H1 vs ps) : Walks K as1 H1 (ps.map D.d) st (Itt K b) := by
  intro i as2 H2 h2 l r2 _
  have q1 := (s.later l).sq
  have q2 := (al.later l).rel
  refine ⟨fun hi => ⟨vs, vs[i]'(by rw [q2.length]; exact hi), q1, List.getElem?_eq_getElem _⟩, fun hi => ⟨vs, q1, by rw [q2.length]; exact Nat.le_of_eq hi.symm⟩, fun v H3 y z ez => ?_⟩
  obtain ⟨rfl, y⟩ := y
  obtain ⟨u, eu, ru⟩ := q2.get ez
  have := y vs q1
  rw [eu] at this
  cases this
  exact ⟨Later.refl _ _, r2, ru⟩
theorem SI.seq (ha : SE X W a fa) : SI X W tg a (iSeq fa) := by
  obtain ⟨_, pa, sa⟩ := ha
  refine ⟨_, pi_seqI pa, fun σ H as ρ h Q E R eR hR hq k kx => ?_⟩
  refine sa σ H as ρ h _ E _ eR hR hq (fun x h1 v as1 H1 hq1 l1 r1 rv => ?_) kx
  split at hq1
  · rename_i xs e
    have st := stay_items e
    obtain ⟨b, vs, rfl, s, ra⟩ := items_rel rv r1 e
    refine ⟨b, rfl, ?_⟩
    by_cases nt : ∀ ps, x ≠ .d (.tuple ps)
    · have hl : ∃ us, SqL X.K H1 b us := by
        cases rv with
        | d r =>
          cases r with
          | lst sx ax => exact ⟨_, sx.sq⟩
          | tup sx ax => exact absurd rfl (nt _)
        | tp _ _ _ _ => simp [items] at e
        | ob _ _ _ _ _ => simp [items] at e
        | pr _ _ _ => simp [items] at e
        | loc hb =>
          simp only [items] at e
          split at e
          · rename_i ys en
            obtain ⟨c, hc, us, o1, o2⟩ := r1.at en
            rw [hb] at hc
            cases hc
            exact ⟨us, SqL.of o1⟩
          · cases e
      obtain ⟨us, hl⟩ := hl
      exact .inl ⟨⟨us, hl⟩, k xs _ h1 as1 H1 _ hq1 st l1 r1 (walks_list rv r1 e hl nt)⟩
    · have nt' : ∃ ps, x = .d (.tuple ps) := Classical.byContradiction fun z => nt fun ps e => z ⟨ps, e⟩
      obtain ⟨ps, rfl⟩ := nt'
      cases rv with | d r =>
      cases r with | tup sx ax =>
      simp only [items, Option.some.injEq] at e
      subst e
      exact .inr ⟨⟨_, sx.sq⟩, k _ _ h1 as1 H1 _ hq1 st l1 r1 (walks_tup sx ax)⟩
  · exact hq1.elim
/-- range(n), range(a, b) -/
def rangeD (lo : Int) (n : Nat) : List D := (List.range n).map fun i => D.d (.int (lo + (i : Nat)))
theorem walks_range {K : Frag} {as1 : List Addr} {H1 : Hp} {lo : Int} {n : Nat} {st : Ho → Prop} : Walks K as1 H1 (rangeD lo n) st (Itr lo n) := by
  intro i as2 H2 h2 l r2 _
  have hlen : (rangeD lo n).length = n := by simp [rangeD]
  refine ⟨fun hi => by rw [hlen] at hi; exact hi, fun hi => by rw [hlen] at hi; exact Nat.le_of_eq hi.symm, fun v H3 y z ez => ?_⟩
  obtain ⟨rfl, rfl⟩ := y
  refine ⟨Later.refl _ _, r2, ?_⟩
  unfold rangeD at ez
  rw [List.getElem?_map] at ez
  cases q : (List.range n)[i]? with
  | none => rw [q] at ez; cases ez
  | some j =>
    rw [q] at ez
    cases ez
    have : j = i := by
      obtain ⟨h1, h2⟩ := List.getElem?_eq_some_iff.mp q
      simpa using h2.symm
    subst this
    exact .d (.int _)
def iRange1 (ga : WA) : WI := fun ρ h Q E => ga ρ h (fun ys h1 => match ys with
  | [.d (.int j)] => -(2 ^ 62) ≤ j ∧ j < 2 ^ 62 ∧ Q (rangeD 0 j.toNat) (fun _ => True) h1
  | _ => False) E
def iRange2 (ga : WA) : WI := fun ρ h Q E => ga ρ h (fun ys h1 => match ys with
  | [.d (.int i), .d (.int j)] => (-(2 ^ 62) ≤ i ∧ i < 2 ^ 62 ∧ -(2 ^ 62) ≤ j ∧ j < 2 ^ 62) ∧ Q (rangeD i (j - i).toNat) (fun _ => True) h1
  | _ => False) E
theorem SI.range1 (hg : Gl X "range") (hm : X.mg "range" = none) (ha : SA X W [a] ga) (hs : starEach [a] X.env = [(false, eval a X.env)] := by rfl) : SI X W tg (.Call (.Name "range" p) [a] [] pos) (iRange1 ga) := by
  obtain ⟨_, pa, sa⟩ := ha
  refine ⟨_, pi_range1 hg hm pa hs, fun σ H as ρ h Q E R eR hR hq k kx => ?_⟩
  refine sa σ H as ρ h _ E _ eR hR hq (fun ys h1 vs as1 H1 hq1 l1 r1 rv => ?_) kx
  split at hq1
  · obtain ⟨v, rfl, r⟩ := relAll1 rv
    rw [rel_int r]
    exact ⟨_, rfl, hq1.1, hq1.2.1, k _ _ h1 as1 H1 _ hq1.2.2 trivial l1 r1 walks_range⟩
  · exact hq1.elim
end
/-! ### targets: names and tuples of names -/
abbrev WG := D → Ho → En → Option En
def SG (X : Cx) (tg : Expr) (g : WG) (sl : List Nat) : Prop :=
  ∃ t, PG X tg t ∧ ∀ (v : V) x σ H as ρ h ρ' (Q : L2.St → Hp → Prop), EnvR X.K as H ρ σ → HeapR X.K as H h → Rel X.K as H v x → g x h ρ = some ρ' →
    (∀ σ', EnvR X.K as H ρ' σ' → (∀ vs : List Nat, (∀ i ∈ sl, i ∈ vs) → L2.wipe σ' vs = L2.wipe σ vs) → Q σ' H) → t v σ H Q
abbrev WGs := List D → Ho → En → Option En
def SGs (X : Cx) (tg : List Expr) (g : WGs) (sl : List Nat) : Prop :=
  ∃ t, PGs X tg t ∧ ∀ (v : List V) x σ H as ρ h ρ' (Q : L2.St → Hp → Prop), EnvR X.K as H ρ σ → HeapR X.K as H h → RelAll X.K as H v x → g x h ρ = some ρ' →
    (∀ σ', EnvR X.K as H ρ' σ' → (∀ vs : List Nat, (∀ i ∈ sl, i ∈ vs) → L2.wipe σ' vs = L2.wipe σ vs) → Q σ' H) → t v σ H Q
theorem wipe_set {σ : L2.St} {i : Nat} {o : Option V} : ∀ {vs : List Nat}, i ∈ vs → L2.wipe (σ.set i o) vs = L2.wipe σ vs
  | v :: vs, hm => by
    unfold L2.wipe
    by_cases hv : i ∈ vs
    · rw [wipe_set hv]
    · have e : v = i := by
        rcases List.mem_cons.mp hm with e | e
        · exact e.symm
        · exact absurd e hv
      subst e
      have key : ∀ (ws : List Nat), v ∉ ws → L2.wipe (σ.set v o) ws = (L2.wipe σ ws).set v o := by
        intro ws
        induction ws with
        | nil => intro _; rfl
        | cons w ws ih =>
          intro hn
          simp only [List.mem_cons, not_or] at hn
          unfold L2.wipe
          rw [ih hn.2, List.set_comm _ _ (fun e => hn.1 e)]
      rw [key vs hv, List.set_set]
def gNm (i : Nat) : WG := fun x _ ρ => some (ρ.set i (some x))
def gsNil : WGs := fun ps _ ρ => match ps with
  | [] => some ρ
  | _ => none
def gsCons (g : WG) (gs : WGs) : WGs := fun ps h ρ => match ps with
  | p :: ps => (g p h ρ).bind fun ρ' => gs ps h ρ'
  | [] => none
def gTp (n : Nat) (gs : WGs) : WG := fun x h ρ => match items h x with
  | some xs => if xs.length = n then gs xs h ρ else none
  | none => none
theorem pg_or {X : Cx} {e : Expr} {t u : TG} (h1 : PG X e t) (h2 : PG X e u) : PG X e (fun v σ H Q => t v σ H Q ∨ u v σ H Q) :=
  ⟨fun pins s σ H v w Q I r hw => hw.elim (fun a => h1.run pins s σ H v w Q I r a) fun a => h2.run pins s σ H v w Q I r a⟩
section
variable {X : Cx} {pos : Pos}
theorem SG.name (i : Nat) {x : Str} (hN : X.N.Nodup) (hi : X.N[i]? = some x) (hx : Loc X.env.scope x) (hf : X.fn x = true ∨ X.env.scope.names.lookup x = some .local := by first | exact .inl rfl | exact .inr rfl | assumption) : SG X (.Name x pos) (gNm i) [i] := by
  refine ⟨_, pg_name hN hi hx hf, fun v x σ H as ρ h ρ' Q eR hR r e k => ?_⟩
  simp only [gNm, Option.some.injEq] at e
  subst e
  exact k _ (eR.set i r) fun vs hv => wipe_set (hv i (by simp))
theorem SGs.nil : SGs X [] gsNil [] := by
  refine ⟨_, pgs_nil, fun v x σ H as ρ h ρ' Q eR hR r e k => ?_⟩
  unfold gsNil at e
  split at e
  · cases e
    cases r
    exact ⟨rfl, k _ eR fun _ _ => rfl⟩
  · cases e
theorem SGs.cons {e : Expr} {es : List Expr} {g : WG} {gs : WGs} {sl sls : List Nat} (h1 : SG X e g sl) (h2 : SGs X es gs sls)
    (hs : (assignEach (e :: es) X.env).map (·.2) = assign e X.env :: (assignEach es X.env).map (·.2) := by rfl) : SGs X (e :: es) (gsCons g gs) (sl ++ sls) := by
  obtain ⟨_, p1, s1⟩ := h1
  obtain ⟨_, p2, s2⟩ := h2
  refine ⟨_, pgs_cons p1 p2 hs, fun v x σ H as ρ h ρ' Q eR hR r e k => ?_⟩
  unfold gsCons at e
  split at e
  · rename_i p ps
    cases r with
    | cons r rs =>
      rw [Option.bind_eq_some_iff] at e
      obtain ⟨ρ1, e1, e2⟩ := e
      refine ⟨_, _, rfl, s1 _ _ σ H as ρ h ρ1 _ eR hR r e1 fun σ1 eR1 w1 => ?_⟩
      refine s2 _ _ σ1 H as ρ1 h ρ' Q eR1 hR rs e2 fun σ2 eR2 w2 => k _ eR2 fun vs hv => ?_
      rw [w2 vs fun i hi => hv i (List.mem_append_right _ hi), w1 vs fun i hi => hv i (List.mem_append_left _ hi)]
  · cases e
theorem SG.tup {es : List Expr} {k n : Nat} {gs : WGs} {sl : List Nat} (hc : X.calm = true) (h : SGs X es gs sl) (hn : (assignEach es X.env).length = n := by rfl) (hst : (assignEach es X.env).findIdx? (·.1) = none := by rfl) : SG X (.Tuple es k pos) (gTp n gs) sl := by
  obtain ⟨_, p, s⟩ := h
  refine ⟨_, pg_or (pg_tup hc p hn hst) (pg_unl hc p hn hst), fun v x σ H as ρ h ρ' Q eR hR r e k => ?_⟩
  unfold gTp at e
  split at e
  · rename_i xs ei
    split at e
    · rename_i hl
      obtain ⟨a, vs, rfl, sq, ra⟩ := items_rel r hR ei
      rcases sq with sq | sq
      · exact .inr ⟨_, _, rfl, sq, by rw [ra.length]; exact hl, s _ _ σ H as ρ h ρ' Q eR hR ra e k⟩
      · exact .inl ⟨_, _, rfl, sq, by rw [ra.length]; exact hl, s _ _ σ H as ρ h ρ' Q eR hR ra e k⟩
    · cases e
  · cases e
/-! ### statements -/
variable {W : WX} {a e c : Expr} {fa fe : WE} {t : WT} {st : Stmt} {rest body orelse : List Stmt} {f g : WS}
def sNext : WS := fun ρ h D => D.nx ρ h
def sSeq (f g : WS) : WS := fun ρ h D => f ρ h { D with nx := fun ρ1 h1 => g ρ1 h1 D }
theorem SB.nil : SB X W [] sNext := ⟨_, pss_nil, fun σ H as ρ h D D' eR hR hq k => k.nx _ _ _ _ _ hq (Later.refl _ _) hR eR⟩
theorem SB.one (h : SS X W st f) : SB X W [st] f := let ⟨_, p, s⟩ := h; ⟨_, pss_one p, s⟩
theorem SB.cons (h : SS X W st f) (h2 : SB X W rest g) : SB X W (st :: rest) (sSeq f g) := by
  obtain ⟨_, p, s⟩ := h
  obtain ⟨_, p2, s2⟩ := h2
  refine ⟨_, pss_cons p p2, fun σ H as ρ h D D' eR hR hq k => ?_⟩
  refine s σ H as ρ h _ _ eR hR hq ⟨fun ρ1 h1 σ1 as1 H1 q l r eR1 => ?_, fun ρ1 h1 σ1 as1 H1 q l r eR1 => k.bk _ _ _ _ _ q l r eR1, fun ρ1 h1 σ1 as1 H1 q l r eR1 => k.ct _ _ _ _ _ q l r eR1, fun y h1 v as1 H1 q l r rv => k.rt _ _ _ _ _ q l r rv,
    fun x ρ1 h1 cls dd σ1 as1 H1 q l r eR1 xr => k.ex _ _ _ _ _ _ _ _ q l r eR1 xr⟩
  exact s2 σ1 H1 as1 ρ1 h1 D D' eR1 r q (k.later l)
def exOf (D : Nx) (ρ : En) : XD := fun x h => D.ex x ρ h
theorem STo.x {as : List Addr} {H : Hp} {D : Nx} {D' : Ends} (k : STo X W as H D D') {ρ : En} {σ : L2.St} (eR : EnvR X.K as H ρ σ) : XTo X W as H σ (exOf D ρ) :=
  fun x h' cls dd as1 H1 q l r xr => k.ex x ρ h' cls dd σ as1 H1 q l r (eR.later l) xr
/-- target = e -/
def sAsg (fe : WE) (g : WG) : WS := fun ρ h D => fe ρ h (fun x h1 => match g x h1 ρ with
  | some ρ1 => D.nx ρ1 h1
  | none => False) (exOf D ρ)
theorem sp_asg {te : TE} {tg : TG} {g : WG} {sl : List Nat} (se : SpE X W te fe)
    (sg : ∀ (v : V) x σ H as ρ h ρ' (Q : L2.St → Hp → Prop), EnvR X.K as H ρ σ → HeapR X.K as H h → Rel X.K as H v x → g x h ρ = some ρ' → (∀ σ', EnvR X.K as H ρ' σ' → (∀ vs : List Nat, (∀ i ∈ sl, i ∈ vs) → L2.wipe σ' vs = L2.wipe σ vs) → Q σ' H) → tg v σ H Q) :
    SpS X W (tAsg te tg) (sAsg fe g) := by
  intro σ H as ρ h D D' eR hR hq k
  refine se σ H as ρ h _ _ _ eR hR hq (fun x h1 v as1 H1 hq1 l1 r1 rv => ?_) (k.x eR)
  split at hq1
  · rename_i ρ1 e1
    exact sg v x σ H1 as1 ρ h1 ρ1 _ (eR.later l1) r1 rv e1 fun σ' eR' _ => k.nx _ _ _ _ _ hq1 l1 r1 eR'
  · exact hq1.elim
theorem SS.set (i : Nat) {x : Str} {pos' : Pos} (hN : X.N.Nodup) (hi : X.N[i]? = some x) (hx : Loc X.env.scope x) (he : SE X W e fe) (hs : swapsWith e (some (.Name x pos')) pos.line X.env = pure false := by rfl) (hf : X.fn x = true ∨ X.env.scope.names.lookup x = some .local := by first | exact .inl rfl | exact .inr rfl | assumption) :
    SS X W (.Assign [.Name x pos'] e pos) (sAsg fe (gNm i)) := by
  obtain ⟨_, p, s⟩ := he
  refine ⟨_, ps_set hN hi hx p hs hf, sp_asg (sl := [i]) s fun v x σ H as ρ h ρ' Q eR hR r e k => ?_⟩
  simp only [gNm, Option.some.injEq] at e
  subst e
  exact k _ (eR.set i r) fun vs hv => wipe_set (hv i (by simp))
theorem SS.asg {tg : Expr} {g : WG} {sl : List Nat} (he : SE X W e fe) (hg : SG X tg g sl) (hs : swapsWithSole [tg] e pos.line X.env = pure false := by rfl) (hw : swappedStores [tg] e X.env = pure none := by rfl)
    (h1 : (assignEach [tg] X.env).map (·.2) = [assign tg X.env] := by rfl) : SS X W (.Assign [tg] e pos) (sAsg fe g) := by
  obtain ⟨_, p, s⟩ := he
  obtain ⟨_, p2, s2⟩ := hg
  exact ⟨_, ps_asg p p2 hs hw h1, sp_asg s s2⟩
/-- a, b = x, y (local names) -/
def sPar (i j : Nat) (ga : WA) : WS := fun ρ h D => ga ρ h (fun xs h1 => match xs with
  | [x, y] => D.nx ((ρ.set i (some x)).set j (some y)) h1
  | _ => False) (exOf D ρ)
theorem SS.par (i j : Nat) {x y : Str} {b : Expr} {ga : WA} {px py pt : Pos} {kt k2 pt2} (hc : X.calm = true) (hN : X.N.Nodup) (hi : X.N[i]? = some x) (hj : X.N[j]? = some y) (hij : i ≠ j)
    (hx : X.env.scope.names.lookup x = some .local) (hy : X.env.scope.names.lookup y = some .local) (ha : SA X W [a, b] ga)
    (hw : swappedStores [.Tuple [.Name x px, .Name y py] kt pt] (.Tuple [a, b] k2 pt2) X.env = pure (some [x, y]))
    (hs : swapsWithSole [.Tuple [.Name x px, .Name y py] kt pt] (.Tuple [a, b] k2 pt2) pos.line X.env = pure false := by rfl) :
    SS X W (.Assign [.Tuple [.Name x px, .Name y py] kt pt] (.Tuple [a, b] k2 pt2) pos) (sPar i j ga) := by
  obtain ⟨_, p, s⟩ := ha
  refine ⟨_, ps_par hc hN hi hj hij hx hy p hw hs, fun σ H as ρ h D D' eR hR hq k => ?_⟩
  refine s σ H as ρ h _ _ _ eR hR hq (fun xs h1 vs as1 H1 hq1 l1 r1 rv => ?_) (k.x eR)
  split at hq1
  · obtain ⟨v, w, rfl, r, r'⟩ := relAll2 rv
    exact ⟨v, w, rfl, k.nx _ _ _ _ _ hq1 l1 r1 (((eR.later l1).set i r).set j r')⟩
  · exact hq1.elim
def sPar3 (i j l : Nat) (ga : WA) : WS := fun ρ h D => ga ρ h (fun xs h1 => match xs with
  | [x, y, z] => D.nx (((ρ.set i (some x)).set j (some y)).set l (some z)) h1
  | _ => False) (exOf D ρ)
/-- o[i] = e, o a list of the store -/
def sSub (fe fo fi : WE) : WS := fun ρ h D => fe ρ h (fun y h1 => fo ρ h1 (fun x h2 => fi ρ h2 (fun z h3 => match x, z with
  | .loc n, .d (.int k) => match h3[n]? with
    | some (.lst xs) => match ixN xs.length k with
      | some j => D.nx ρ (h3.set n (.lst (xs.set j y)))
      | none => False
    | _ => False
  | _, _ => False) (exOf D ρ)) (exOf D ρ)) (exOf D ρ)
theorem STo.kx {as : List Addr} {H : Hp} {D : Nx} {D' : Ends} (k : STo X W as H D D') {ρ : En} {σ : L2.St} (eR : EnvR X.K as H ρ σ) {as1 : List Addr} {H1 : Hp} (l : Later as H as1 H1) : XTo X W as1 H1 σ (exOf D ρ) := (k.later l).x (eR.later l)
theorem SS.sub {o i : Expr} {fo fi : WE} {pos' : Pos} (he : SE X W e fe) (ho : SE X W o fo) (hi : SE X W i fi)
    (ha : ∀ v, assign (.Subscript o i pos') X.env v = (do
      let ov ← holding [v] (eval o X.env)
      let iv ← holding [v, ov] (eval i X.env)
      standAt pos'
      holding [v, ov, iv] (setItem ov iv v)
      release [v, ov, iv] []) := by intro _; rfl) (hs : swapsWithSole [.Subscript o i pos'] e pos.line X.env = pure false := by rfl) (hw : swappedStores [.Subscript o i pos'] e X.env = pure none := by rfl)
    (h1 : (assignEach [.Subscript o i pos'] X.env).map (·.2) = [assign (.Subscript o i pos') X.env] := by rfl) : SS X W (.Assign [.Subscript o i pos'] e pos) (sSub fe fo fi) := by
  obtain ⟨_, pe, se⟩ := he
  obtain ⟨_, po, so⟩ := ho
  obtain ⟨_, pi, si⟩ := hi
  refine ⟨_, ps_asg pe (pg_sub po pi set_list ha) hs hw h1, fun σ H as ρ h D D' eR hR hq k => ?_⟩
  refine se σ H as ρ h _ _ _ eR hR hq (fun y h1 v as1 H1 hq1 l1 r1 rv => ?_) (k.x eR)
  refine so σ H1 as1 ρ h1 _ _ _ (eR.later l1) r1 hq1 (fun x h2 u as2 H2 hq2 l2 r2 ru => ?_) (k.kx eR l1)
  have l12 := l1.trans l2
  refine si σ H2 as2 ρ h2 _ _ _ (eR.later l12) r2 hq2 (fun z h3 w as3 H3 hq3 l3 r3 rw' => ?_) (k.kx eR l12)
  have l13 := l12.trans l3
  split at hq3
  · rename_i n kk
    split at hq3
    · rename_i xs en
      split at hq3
      · rename_i j ej
        have ru3 := ru.later l3
        cases ru3 with | loc hb =>
        rw [rel_int rw']
        obtain ⟨b, hb', vs, o1, o2⟩ := r3.at en
        rw [hb] at hb'
        cases hb'
        have rv3 := (rv.later l2).later l3
        refine ⟨_, vs, kk, j, rfl, rfl, o1, by rw [o2.length]; exact ej, ?_⟩
        have lw : Later as3 H3 as3 (upd H3 _ (.lst (vs.set j v))) := Later.write _ (List.mem_of_getElem? hb)
        exact k.nx _ _ _ _ _ hq3 (l13.trans lw) (r3.write hb (o2.set j rv3)) (eR.later (l13.trans lw))
      · exact hq3.elim
    · exact hq3.elim
  · exact hq3.elim
def sDrop (fe : WE) : WS := fun ρ h D => fe ρ h (fun _ h1 => D.nx ρ h1) (exOf D ρ)
theorem SS.expr (he : SE X W e fe) (hs : swapsWith e none pos.line X.env = pure false := by rfl) : SS X W (.Expr e pos) (sDrop fe) := by
  obtain ⟨_, p, s⟩ := he
  refine ⟨_, ps_expr p hs, fun σ H as ρ h D D' eR hR hq k => ?_⟩
  exact s σ H as ρ h _ _ _ eR hR hq (fun y h1 w as1 H1 hq1 l1 r1 rw' => k.nx _ _ _ _ _ hq1 l1 r1 (eR.later l1)) (k.x eR)
def sRet (fe : WE) : WS := fun ρ h D => fe ρ h D.rt (exOf D ρ)
theorem SS.ret (he : SE X W e fe) : SS X W (.Return (some e) pos) (sRet fe) := by
  obtain ⟨_, p, s⟩ := he
  refine ⟨_, ps_ret p, fun σ H as ρ h D D' eR hR hq k => ?_⟩
  exact s σ H as ρ h _ _ _ eR hR hq (fun y h1 w as1 H1 hq1 l1 r1 rw' => k.rt _ _ _ _ _ hq1 l1 r1 rw') (k.x eR)
theorem SS.pass : SS X W (.Pass pos) sNext := ⟨_, ps_pass, fun σ H as ρ h D D' eR hR hq k => k.nx _ _ _ _ _ hq (Later.refl _ _) hR eR⟩
def sBrk : WS := fun ρ h D => D.bk ρ h
theorem SS.brk : SS X W (.Break pos) sBrk := ⟨_, ps_break, fun σ H as ρ h D D' eR hR hq k => k.bk _ _ _ _ _ hq (Later.refl _ _) hR eR⟩
def sIf (t : WT) (f g : WS) : WS := fun ρ h D => t ρ h (fun b h1 => if b = true then f ρ h1 D else g ρ h1 D) (exOf D ρ)
theorem SS.ifS (hc : ST X W c t) (hb : SB X W body f) (ho : SB X W orelse g) : SS X W (.If c body orelse pos) (sIf t f g) := by
  obtain ⟨_, pc, sc⟩ := hc
  obtain ⟨_, pb, sb⟩ := hb
  obtain ⟨_, po, so⟩ := ho
  refine ⟨_, ps_if pc pb po, fun σ H as ρ h D D' eR hR hq k => ?_⟩
  refine sc σ H as ρ h _ _ _ eR hR hq (fun b h1 as1 H1 hq1 l1 r1 => ?_) (k.x eR)
  cases b with
  | true => exact iteT (sb σ H1 as1 ρ h1 D D' (eR.later l1) r1 hq1 (k.later l1))
  | false => exact iteF (so σ H1 as1 ρ h1 D D' (eR.later l1) r1 hq1 (k.later l1))
/-- while -/
def sWhile (t : WT) (f : WS) : WS := fun ρ h D => ∃ I : Nat → En → Ho → Prop, (∃ m, I m ρ h) ∧ ∀ m ρ h, I m ρ h → t ρ h (fun b h1 => if b = true then
    f ρ h1 { D with nx := fun ρ' h' => ∃ m', m' < m ∧ I m' ρ' h', ct := fun ρ' h' => ∃ m', m' < m ∧ I m' ρ' h', bk := D.nx } else D.nx ρ h1) (exOf D ρ)
theorem SS.whileS (hp : PassesOwn (model X.prog X.w) X.A X.env X.xe) (hc : ST X W c t) (hb : SB X W body f) : SS X W (.While c body [] pos) (sWhile t f) := by
  obtain ⟨_, pc, sc⟩ := hc
  obtain ⟨_, pb, sb⟩ := hb
  refine ⟨_, ps_while hp pc pb, fun σ H as ρ h D D' eR hR hq k => ?_⟩
  obtain ⟨I, ⟨m0, i0⟩, turn⟩ := hq
  refine ⟨fun m σ' H' => ∃ as' ρ' h', Later as H as' H' ∧ HeapR X.K as' H' h' ∧ EnvR X.K as' H' ρ' σ' ∧ I m ρ' h', ⟨m0, as, ρ, h, Later.refl _ _, hR, eR, i0⟩, ?_⟩
  rintro m σ1 H1 ⟨as1, ρ1, h1, l1, r1, eR1, i1⟩
  refine sc σ1 H1 as1 ρ1 h1 _ _ _ eR1 r1 (turn m ρ1 h1 i1) (fun b h2 as2 H2 hq2 l2 r2 => ?_) ((k.later l1).x eR1)
  have l12 := l1.trans l2
  cases b with
  | true =>
    refine iteT ⟨fun σ' H' => ∃ m', m' < m ∧ ∃ as' ρ' h', Later as H as' H' ∧ HeapR X.K as' H' h' ∧ EnvR X.K as' H' ρ' σ' ∧ I m' ρ' h', fun _ _ z => z, ?_⟩
    refine sb σ1 H2 as2 ρ1 h2 _ _ (eR1.later l2) r2 hq2 ⟨?_, ?_, ?_, ?_, ?_⟩
    · rintro ρ3 h3 σ3 as3 H3 ⟨m', hm, i3⟩ l3 r3 eR3
      exact ⟨m', hm, as3, ρ3, h3, l12.trans l3, r3, eR3, i3⟩
    · intro ρ3 h3 σ3 as3 H3 q l3 r3 eR3
      exact k.nx _ _ _ _ _ q (l12.trans l3) r3 eR3
    · rintro ρ3 h3 σ3 as3 H3 ⟨m', hm, i3⟩ l3 r3 eR3
      exact ⟨m', hm, as3, ρ3, h3, l12.trans l3, r3, eR3, i3⟩
    · intro y h3 v as3 H3 q l3 r3 rv
      exact k.rt _ _ _ _ _ q (l12.trans l3) r3 rv
    · intro x ρ3 h3 cls dd σ3 as3 H3 q l3 r3 eR3 xr
      exact k.ex _ _ _ _ _ _ _ _ q (l12.trans l3) r3 eR3 xr
  | false => exact iteF (k.nx _ _ _ _ _ hq2 l12 r2 (eR1.later l2))
/-- for -/
def forGo (g : WG) (f : WS) (N : Nx) (st : Ho → Prop) : List D → En → Ho → Prop
  | [], ρ, h => N.nx ρ h
  | x :: xs, ρ, h => match g x h ρ with
    | some ρ1 => f ρ1 h { N with nx := fun ρ2 h2 => st h2 ∧ forGo g f N st xs ρ2 h2, ct := fun ρ2 h2 => st h2 ∧ forGo g f N st xs ρ2 h2, bk := N.nx }
    | none => False
def sFor (wi : WI) (g : WG) (f : WS) : WS := fun ρ h D => wi ρ h (fun xs st h1 => forGo g f D st xs ρ h1) (exOf D ρ)
theorem SS.forS {tg it : Expr} {wi : WI} {g : WG} {sl : List Nat} (hp : PassesOwn (model X.prog X.w) X.A X.env X.xe) (hc : X.calm = true) (hi : SI X W tg it wi) (hg : SG X tg g sl) (hb : SB X W body f)
    (hs : ∀ x, foldedSetIterable it X.env x = pure x := by intro _; rfl) : SS X W (.For tg it body [] pos) (sFor wi g f) := by
  obtain ⟨_, pi, si⟩ := hi
  obtain ⟨_, pg, sg⟩ := hg
  obtain ⟨_, pb, sb⟩ := hb
  refine ⟨_, ps_for hp hc pi pg pb hs, fun σ H as ρ h D D' eR hR hq k => ?_⟩
  refine si σ H as ρ h _ _ _ eR hR hq (fun xs st h1 as1 H1 J hq1 st1 l1 r1 wk => ?_) (k.x eR)
  refine ⟨fun i m σ' H' => m = xs.length - i ∧ i ≤ xs.length ∧ ∃ as' ρ' h', Later as1 H1 as' H' ∧ HeapR X.K as' H' h' ∧ EnvR X.K as' H' ρ' σ' ∧ st h' ∧ forGo g f D st (xs.drop i) ρ' h',
    ⟨xs.length, by simp, Nat.zero_le _, as1, ρ, h1, Later.refl _ _, r1, eR.later l1, st1, hq1⟩, ?_⟩
  rintro i m σ2 H2 ⟨rfl, hi, as2, ρ2, h2, l2, r2, eR2, st2, fg⟩
  obtain ⟨w1, w2, w3⟩ := wk i as2 H2 h2 l2 r2 st2
  have l12 := l1.trans l2
  by_cases hlt : i < xs.length
  · refine .inr ⟨w1 hlt, fun σ' H' => i + 1 ≤ xs.length ∧ ∃ as' ρ' h', Later as1 H1 as' H' ∧ HeapR X.K as' H' h' ∧ EnvR X.K as' H' ρ' σ' ∧ st h' ∧ forGo g f D st (xs.drop (i + 1)) ρ' h',
      fun σ' H' z => ⟨xs.length - (i + 1), by omega, rfl, z.1, z.2⟩, fun v H3 y => ?_⟩
    obtain ⟨l3, r3, rv⟩ := w3 v H3 y xs[i] (List.getElem?_eq_getElem hlt)
    rw [List.drop_eq_getElem_cons hlt] at fg
    unfold forGo at fg
    split at fg
    · rename_i ρ3 e3
      have l23 := l2.trans l3
      have l13 := l12.trans l3
      refine sg v _ σ2 H3 as2 ρ2 h2 ρ3 _ (eR2.later l3) r3 rv e3 fun σ3 eR3 _ => ?_
      refine sb σ3 H3 as2 ρ3 h2 _ _ eR3 r3 fg ⟨?_, ?_, ?_, ?_, ?_⟩
      · rintro ρ4 h4 σ4 as4 H4 ⟨q1, q2⟩ l4 r4 eR4
        exact ⟨hlt, as4, ρ4, h4, l23.trans l4, r4, eR4, q1, q2⟩
      · intro ρ4 h4 σ4 as4 H4 q l4 r4 eR4
        exact k.nx _ _ _ _ _ q (l13.trans l4) r4 eR4
      · rintro ρ4 h4 σ4 as4 H4 ⟨q1, q2⟩ l4 r4 eR4
        exact ⟨hlt, as4, ρ4, h4, l23.trans l4, r4, eR4, q1, q2⟩
      · intro y h4 v as4 H4 q l4 r4 rv
        exact k.rt _ _ _ _ _ q (l13.trans l4) r4 rv
      · intro x ρ4 h4 cls dd σ4 as4 H4 q l4 r4 eR4 xr
        exact k.ex _ _ _ _ _ _ _ _ q (l13.trans l4) r4 eR4 xr
    · exact fg.elim
  · have e : i = xs.length := by omega
    subst e
    rw [List.drop_length] at fg
    unfold forGo at fg
    exact .inl ⟨w2 rfl, k.nx _ _ _ _ _ fg l12 r2 eR2⟩
end
end V2
set_option Elab.async false
set_option linter.all false
set_option maxRecDepth 100000
set_option maxHeartbeats 4000000
namespace V2
open PySem PySem.Spec PyProof.Rows L2
open PySem.W (Frag)
/-! ### defs and their calls -/
abbrev WF := List D → Ho → KD → XD → Prop
/-- the promise over data -/
def spD (K : Frag) (mg : Str → Option Value) (m : Nat) (F : WF) : Sp := fun vs H Q E => ∃ as xs h Q0 E0, vs.length = m ∧ RelAll K as H vs xs ∧ HeapR K as H h ∧ F xs h Q0 E0 ∧
  (∀ y h' v as1 H1, Q0 y h' → Later as H as1 H1 → HeapR K as1 H1 h' → Rel K as1 H1 v y → Q v H1) ∧
  (∀ x h' cls dd as1 H1, E0 x h' → Later as H as1 H1 → HeapR K as1 H1 h' → ExR K mg as1 H1 cls dd x → E cls dd H1)
structure FnG (P : Program) (w : World) (K : Frag) (mg : Str → Option Value) (base : Heap) (k : Nat) (f : Addr) (fd : FuncData) (ps : List Str) (F : WF) : Prop where
  run : ∀ (A : Around) (outer : List Env) (s : Shared) (H : Hp) (args : Args) (us : List Value) (vs : List V) (Q : VK) (E : XK), Room k A → A.guards = some [] → Env0 P w K mg base A outer s H → BindsTo s fd args (ps.zip us) → Vals vs us →
    spD K mg ps.length F vs H Q E → codeAny (model P w) A (.call (.ref f) args) (CR (L2.CX P w) outer P w H s Q E) s
theorem FnG.mono {P : Program} {w : World} {K : Frag} {mg : Str → Option Value} {base : Heap} {j k : Nat} {f : Addr} {fd : FuncData} {ps : List Str} {F : WF} (g : FnG P w K mg base j f fd ps F) (h : j ≤ k) : FnG P w K mg base k f fd ps F :=
  ⟨fun A outer s H args us vs Q E hr => g.run A outer s H args us vs Q E (hr.mono h)⟩
/-- another reading that asks more -/
theorem FnG.imp {P : Program} {w : World} {K : Frag} {mg : Str → Option Value} {base : Heap} {k : Nat} {f : Addr} {fd : FuncData} {ps : List Str} {F G : WF} (g : FnG P w K mg base k f fd ps F) (h : ∀ xs ho Q E, G xs ho Q E → F xs ho Q E) : FnG P w K mg base k f fd ps G :=
  ⟨fun A outer s H args us vs Q E hr hg e0 hb hv ⟨as, xs, ho, Q0, E0, h1, h2, h3, h4, h5, h6⟩ => g.run A outer s H args us vs Q E hr hg e0 hb hv ⟨as, xs, ho, Q0, E0, h1, h2, h3, h _ _ _ _ h4, h5, h6⟩⟩
def bodyN (rt : KD) (E : XD) : Nx := { nx := fun _ h => rt (.d .none) h, rt := rt, bk := fun _ _ => False, ct := fun _ _ => False, ex := fun x _ h => E x h }
/-- a def of n names, m of them parameters -/
def mir (n m : Nat) (f : WS) : WF := fun xs h Q E => xs.length = m ∧ f (xs.map some ++ List.replicate (n - m) none) h (bodyN Q E)
theorem env_start {K : Frag} {as : List Addr} {H : Hp} {N : List Str} {vs : List V} {xs : List D} (r : RelAll K as H vs xs) : EnvR K as H (xs.map some ++ List.replicate (N.length - xs.length) none) (L2.start N vs) := by
  unfold L2.start
  refine ⟨by simp [r.length], fun i x e => ?_⟩
  have hl := r.length
  by_cases hi : i < xs.length
  · rw [List.getElem?_append_left (by simpa using hi), List.getElem?_map] at e
    cases q : xs[i]? with
    | none => rw [q] at e; cases e
    | some y =>
      rw [q] at e
      cases e
      obtain ⟨v, e1, e2⟩ := r.get q
      exact ⟨v, by rw [List.getElem?_append_left (by simpa [hl] using hi), List.getElem?_map, e1]; rfl, e2⟩
  · rw [List.getElem?_append_right (by simpa using hi), List.getElem?_replicate] at e
    split at e <;> cases e
section
variable {P : Program} {w : World} {K : Frag} {mg : Str → Option Value} {base : Heap}
theorem fnG_of {x qual : Str} {st : Stmt} {f : Addr} {fd : FuncData} {N ps : List Str} {k : Nat} {fb : WS} (F : Fun K x qual st f fd) (S : FnScope N ps (defScope st))
    (hb : ∀ (cdv : Value) (A : Around) (outer : List Env) (s : Shared) (H : Hp) (E : XK), Room k (A.deeper (envOfC qual (defScope st) s.heap.objs.size f cdv)) → A.guards = some [] →
      SB (cxOf (L2.CX P w) P w K mg base N qual (defScope st) f cdv A outer s H E) (fun cls d _ H => E cls d H) (defBody st) fb) :
    FnG P w K mg base (k + 1) f fd ps (mir N.length ps.length fb) := by
  obtain ⟨oc, od, kV, doc, pm, an, cdv, ct, osl, rfl, lk, hcd⟩ := F.ex
  refine ⟨fun A outer s H args us vs Q E hr hgu e0 hbind rv hsp => ?_⟩
  obtain ⟨as, xs, ho, Q0, E0, hm, rel, hp, ⟨hxl, hf⟩, kq, kx⟩ := hsp
  have hpar : ∀ y ∈ ps.zip us, (defScope st).names.lookup y.1 = some .local ∨ ((defScope st).names.lookup y.1 = some .cell ∧ ((cellsFrom (s.heap.objs.size + 1) (defScope st).names []).lookup y.1).isSome = true) := by
    intro y hy
    rcases S.par y.1 (List.of_mem_zip hy).1 with q | q
    · exact .inl q
    · exact .inr ⟨q, PySem.W.cellsFrom_some _ _ _ (.inl q)⟩
  have inK := e0.mod.kin.keeps (fun b o e => (e0.bs b o e).1)
  refine codeAny_call_function hr.depth (inK _ _ lk) rfl S.co S.gen rfl (PySem.W.codeRec_of inK hcd) (hbind _ _ _ _ ?_)
  refine wpAny_newFunctionEnv_cells S.kind hpar fun env eenv s1 ic => ?_
  subst eenv
  refine ⟨(e0.mod.nolimit.keeps fun b o e => (e0.bs b o e).1).keeps ic.toInCall.keep, codeAny_func ?_⟩
  obtain ⟨t, pt, spt⟩ := hb cdv A outer s H E (hr.deeper _) hgu
  have J : Inv (cxOf (L2.CX P w) P w K mg base N qual (defScope st) f cdv A outer s H E) [] (L2.start N vs) H s1 := inv_start S hr.hd e0 hm rv ic
  have en := env_start (N := N) rel
  rw [hxl] at en
  refine wpAny_mono (pt.run [] s1 _ H { nx := fun _ H' => Q .non H', rt := Q } J (spt _ H as _ ho _ _ en hp hf ⟨?_, ?_, ?_, ?_, ?_⟩)) (fun fl s' hs => ?_) fun e s' hs => hs
  · intro ρ h' σ as1 H1 q l r _
    exact kq _ _ _ _ _ q l r (.d .non)
  · exact fun _ _ _ _ _ q _ _ _ => q.elim
  · exact fun _ _ _ _ _ q _ _ _ => q.elim
  · exact fun y h' v as1 H1 q l r rr => kq _ _ _ _ _ q l r rr
  · exact fun x ρ h' cls dd σ as1 H1 q l r _ xr => kx _ _ _ _ _ _ q l r xr
  · cases fl with
    | ret u =>
      obtain ⟨v, σ', H', J', rv', q⟩ := hs
      exact ⟨v, H', J'.os, J'.bare, J'.base, J'.hok, rv', q⟩
    | next =>
      obtain ⟨σ', H', J', q⟩ := hs
      exact ⟨.non, H', J'.os, J'.bare, J'.base, J'.hok, rfl, q⟩
    | brk =>
      obtain ⟨_, _, _, q⟩ := hs
      exact False.elim q
    | cont =>
      obtain ⟨_, _, _, q⟩ := hs
      exact False.elim q
end
def fFn (F : WF) (ga : WA) : WE := fun ρ h Q E => ga ρ h (fun xs h1 => F xs h1 Q E) E
section
variable {X : Cx} {W : WX} {k : Nat} {f : Addr} {fd : FuncData} {ps : List Str} {F : WF} {x : Str} {p pos : Pos} {e : Expr} {es : List Expr} {ga : WA}
theorem run_fnG {pins : List (Addr × Obj)} {σ : L2.St} {H : Hp} {s : Shared} {Q : VK} {args : Args} {us : List Value} {vs : List V} (G : FnG X.prog X.w X.K X.mg X.base k f fd ps F) (hr : Room k X.A) (hgu : X.A.guards = some []) (tk : Takes X W)
    (I : Inv X pins σ H s) (hb : BindsTo s fd args (ps.zip us)) (r : Vals vs us) (h : spD X.K X.mg ps.length F vs H Q (fun cls d H' => W cls d σ H')) : wpAny (model X.prog X.w) X.A (call (.ref f) args.pos args.kw) (EP X pins σ Q) X.xe s := by
  refine wpAny_call (codeAny_mono (G.run X.A X.stack s H args us vs Q _ hr hgu I.env0 hb r h) fun r s' hq => ?_)
  cases r with
  | error e => exact passAt tk σ pins H s e s' I hq
  | ok fl =>
    cases fl with
    | ret u => exact I.after hq
    | next => exact hq.elim
    | brk => exact hq.elim
    | cont => exact hq.elim
def tFn (X : Cx) (W : WX) (m : Nat) (F : WF) (t : TA) : TE := fun σ H Q => t σ H fun vs H1 => spD X.K X.mg m F vs H1 Q (fun cls d H' => W cls d σ H')
theorem sp_fn {t : TA} {m : Nat} (hlen : ∀ xs ho Q E, F xs ho Q E → xs.length = m) (sa : SpA X W t ga) : SpE X W (tFn X W m F t) (fFn F ga) := by
  intro σ H as ρ h Q E QV eR hR hq kq kx
  refine sa σ H as ρ h _ E _ eR hR hq (fun xs h1 vs as1 H1 hq1 l1 r1 rv => ?_) kx
  exact ⟨as1, xs, h1, Q, E, by rw [rv.length]; exact hlen _ _ _ _ hq1, rv, r1, hq1, fun y h' v as2 H2 q l r rr => kq.later l1 y h' v as2 H2 q l r rr, fun x h' cls dd as2 H2 q l r xr => kx.later l1 x h' cls dd as2 H2 q l r xr⟩
/-- f(e, ..) -/
theorem SE.call (G : FnG X.prog X.w X.K X.mg X.base k f fd ps F) (hlen : ∀ xs ho Q E, F xs ho Q E → xs.length = ps.length) (hr : Room k X.A) (hgu : X.A.guards = some []) (tk : Takes X W) (hg : Gl X x) (hm : X.mg x = some (.ref f)) (hk : PySem.W.keepIn X.K (.ref f) = true)
    (hb : Binds X.K fd ps []) (ha : SA X W (e :: es) ga) (hdb : (x == ("__debug__" : Str)) = false := by decide) (he : starEach (e :: es) X.env = (false, eval e X.env) :: starEach es X.env := by rfl)
    (hpl : (backTo pos (starEach es X.env)).any (·.1) = false := by rfl) : SE X W (.Call (.Name x p) (e :: es) [] pos) (fFn F ga) := by
  obtain ⟨t, pa, sa⟩ := ha
  refine ⟨tFn X W ps.length F t, ⟨fun pins s σ H Q I hw => ?_⟩, sp_fn hlen sa⟩
  refine wpAny_Call_Name_kw (ld_glob I hg hm ?_ hdb)
  refine PySem.W.callWith_K (h₀ := X.base) I.ok.mod.kin hk (thn (pa.run pos pins s σ H _ I hw) fun us s1 ⟨vs, H1, I1, r, q⟩ => ⟨I1.kIn, ?_⟩) he hpl
  have hl : us.length = ps.length := by
    obtain ⟨as, xs, h, Q0, E0, hm', _⟩ := q
    rw [← r.length, hm']
  have b := hb s1 us I1.kIn (by rw [List.append_nil]; exact hl)
  rw [List.append_nil] at b
  exact run_fnG (args := ⟨us, []⟩) G hr hgu tk I1 b r q
/-! keywords -/
def SKw (X : Cx) (W : WX) (kws : List Keyword) (g : WA) : Prop := ∃ t, PK X kws t ∧ SpA X W t g
theorem SKw.nil : SKw X W [] aNil := ⟨_, pk_nil, fun _ _ _ _ _ _ _ _ _ hR hq k _ => k _ _ _ _ _ hq (Later.refl _ _) hR .nil⟩
theorem SKw.cons {nm : Option Str} {kpos : Pos} {fe : WE} {kws : List Keyword} {g : WA} (he : SE X W e fe) (hr : SKw X W kws g) : SKw X W (⟨nm, e, kpos⟩ :: kws) (aCons fe g) := by
  obtain ⟨te, pe, se⟩ := he
  obtain ⟨ta, pa, sa⟩ := hr
  refine ⟨_, pk_cons pe pa, fun σ H as ρ h Q E QV eR hR hq k kx => ?_⟩
  refine se σ H as ρ h _ E _ eR hR hq (fun x h1 v as1 H1 hq1 l1 r1 rv => ?_) kx
  refine sa σ H1 as1 ρ h1 _ E _ (eR.later l1) r1 hq1 (fun xs h2 vs as2 H2 hq2 l2 r2 rvs => ?_) (kx.later l1)
  exact k _ _ _ _ _ hq2 (l1.trans l2) r2 (.cons (rv.later l2) rvs)
/-- a permutation of the keywords into the parameters' order: place i of the parameters is keyword at ix[i] -/
def pick {α : Type} (ix : List Nat) (xs : List α) : List α := ix.filterMap fun i => xs[i]?
theorem RelAll.pick {K : Frag} {as : List Addr} {H : Hp} {vs : List V} {xs : List D} (r : RelAll K as H vs xs) : ∀ ix : List Nat, RelAll K as H (V2.pick ix vs) (V2.pick ix xs)
  | [] => .nil
  | i :: ix => by
    have ih := RelAll.pick r ix
    unfold V2.pick at ih ⊢
    rw [List.filterMap_cons, List.filterMap_cons]
    cases q : xs[i]? with
    | none =>
      have : vs[i]? = none := by
        rw [List.getElem?_eq_none_iff] at q ⊢
        rw [r.length]; exact q
      rw [this]
      exact ih
    | some y =>
      obtain ⟨v, e1, e2⟩ := r.get q
      rw [e1]
      exact .cons e2 ih
theorem vals_pick {vs : List V} {us : List Value} (r : Vals vs us) : ∀ ix : List Nat, Vals (V2.pick ix vs) (V2.pick ix us)
  | [] => .nil
  | i :: ix => by
    have ih := vals_pick r ix
    unfold V2.pick at ih ⊢
    rw [List.filterMap_cons, List.filterMap_cons]
    cases q : vs[i]? with
    | none =>
      have : us[i]? = none := by
        rw [List.getElem?_eq_none_iff] at q ⊢
        rw [← r.length]; exact q
      rw [this]
      exact ih
    | some y =>
      obtain ⟨v, e1, e2⟩ := r.get q
      rw [e1]
      exact .cons e2 ih
/-- how keywords bind: all parameters by keywords ks -/
def KwB (K : Frag) (fd : FuncData) (ps ks : List Str) (ix : List Nat) : Prop := ∀ (s : Shared) (us : List Value), K.In s.heap → us.length = ks.length → BindsTo s fd ⟨[], ks.zip us⟩ (ps.zip (V2.pick ix us))
def fFnK (ix : List Nat) (n : Nat) (F : WF) (ga : WA) : WE := fun ρ h Q E => ga ρ h (fun xs h1 => xs.length = n ∧ F (V2.pick ix xs) h1 Q E) E
/-- f(k = e, ..), all by keywords -/
theorem SE.callK {kws : List Keyword} {g : WA} {ks : List Str} {ix : List Nat} (G : FnG X.prog X.w X.K X.mg X.base k f fd ps F) (hlen : ∀ xs ho Q E, F xs ho Q E → xs.length = ps.length) (hr : Room k X.A) (hgu : X.A.guards = some []) (tk : Takes X W) (hg : Gl X x) (hm : X.mg x = some (.ref f))
    (hk : PySem.W.keepIn X.K (.ref f) = true) (hb : KwB X.K fd ps ks ix) (ha : SKw X W kws g)
    (hall : (backToKw pos (keywordEach kws X.env)).all (·.1.isSome) = true := by rfl) (hks : (backToKw pos (keywordEach kws X.env)).filterMap (·.1) = ks := by rfl)
    (hdb : (x == ("__debug__" : Str)) = false := by decide)
    (hpl : ((backTo pos (starEach [] X.env)).any (·.1) || (backToKw pos (keywordEach kws X.env)).any (·.1.isNone)) = false := by rfl) : SE X W (.Call (.Name x p) [] kws pos) (fFnK ix ks.length F g) := by
  obtain ⟨t, pa, sa⟩ := ha
  refine ⟨fun σ H Q => t σ H fun vs H1 => vs.length = ks.length ∧ spD X.K X.mg ps.length F (V2.pick ix vs) H1 Q (fun cls d H' => W cls d σ H'), ⟨fun pins s σ H Q I hw => ?_⟩, ?_⟩
  · refine wpAny_Call_Name_kw (ld_glob I hg hm ?_ hdb)
    refine PySem.W.callWith_KW0 (h₀ := X.base) I.ok.mod.kin hk hall (thn (pa.run pos pins s σ H _ I hw) fun us s1 ⟨vs, H1, I1, r, hl, q⟩ => ⟨I1.kIn, ?_⟩) hpl
    rw [hks]
    have b := hb s1 us I1.kIn (by rw [← r.length]; exact hl)
    exact run_fnG (args := ⟨[], ks.zip us⟩) G hr hgu tk I1 b (vals_pick r ix) q
  · intro σ H as ρ h Q E QV eR hR hq kq kx
    refine sa σ H as ρ h _ E _ eR hR hq (fun xs h1 vs as1 H1 hq1 l1 r1 rv => ?_) kx
    have rp := rv.pick ix
    refine ⟨by rw [rv.length, hq1.1], as1, _, h1, Q, E, by rw [rp.length]; exact hlen _ _ _ _ hq1.2, rp, r1, hq1.2, fun y h' v as2 H2 q l r rr => kq.later l1 y h' v as2 H2 q l r rr, fun x h' cls dd as2 H2 q l r xr => kx.later l1 x h' cls dd as2 H2 q l r xr⟩
end
theorem mir_len {n m : Nat} {f : WS} : ∀ xs ho Q E, mir n m f xs ho Q E → xs.length = m := fun _ _ _ _ h => h.1
end V2
set_option Elab.async false
set_option linter.all false
set_option maxRecDepth 100000
set_option maxHeartbeats 4000000
namespace V2
open PySem PySem.Spec PyProof.Rows L2
open PySem.W (Frag)
/-! ### the reading over data, as a reading of the layer (the same in every context of one K, mg) -/
def cE (K : Frag) (mg : Str → Option Value) (W : WX) (f : WE) : TE := fun σ H QV => ∃ as ρ h Q E, EnvR K as H ρ σ ∧ HeapR K as H h ∧ f ρ h Q E ∧
  (∀ y h' v as1 H', Q y h' → Later as H as1 H' → HeapR K as1 H' h' → Rel K as1 H' v y → QV v H') ∧ (∀ x h' cls dd as1 H', E x h' → Later as H as1 H' → HeapR K as1 H' h' → ExR K mg as1 H' cls dd x → W cls dd σ H')
theorem SE.c {X : Cx} {W : WX} {e : Expr} {f : WE} (h : SE X W e f) : PE X e (cE X.K X.mg W f) := by
  obtain ⟨t, pt, st⟩ := h
  exact ⟨fun pins s σ H Q I ⟨as, ρ, ho, Q0, E0, h1, h2, h3, h4, h5⟩ => pt.run pins s σ H Q I (st σ H as ρ ho Q0 E0 Q h1 h2 h3 h4 h5)⟩
def cT (K : Frag) (mg : Str → Option Value) (W : WX) (f : WT) : TT := fun σ H QV => ∃ as ρ h Q E, EnvR K as H ρ σ ∧ HeapR K as H h ∧ f ρ h Q E ∧
  (∀ y h' as1 H', Q y h' → Later as H as1 H' → HeapR K as1 H' h' → QV y H') ∧ (∀ x h' cls dd as1 H', E x h' → Later as H as1 H' → HeapR K as1 H' h' → ExR K mg as1 H' cls dd x → W cls dd σ H')
theorem ST.c {X : Cx} {W : WX} {e : Expr} {f : WT} (h : ST X W e f) : PT X e (cT X.K X.mg W f) := by
  obtain ⟨t, pt, st⟩ := h
  exact ⟨fun pins s σ H Q I ⟨as, ρ, ho, Q0, E0, h1, h2, h3, h4, h5⟩ => pt.run pins s σ H Q I (st σ H as ρ ho Q0 E0 Q h1 h2 h3 h4 h5)⟩
def cG (K : Frag) (g : WG) (sl : List Nat) : TG := fun v σ H Q => ∃ as x ρ h ρ', EnvR K as H ρ σ ∧ HeapR K as H h ∧ Rel K as H v x ∧ g x h ρ = some ρ' ∧
    (∀ σ', EnvR K as H ρ' σ' → (∀ vs : List Nat, (∀ i ∈ sl, i ∈ vs) → L2.wipe σ' vs = L2.wipe σ vs) → Q σ' H)
theorem SG.c {X : Cx} {tg : Expr} {g : WG} {sl : List Nat} (h : SG X tg g sl) : PG X tg (cG X.K g sl) := by
  obtain ⟨t, pt, st⟩ := h
  exact ⟨fun pins s σ H v u Q I r ⟨as, x, ρ, ho, ρ', h1, h2, h3, h4, h5⟩ => pt.run pins s σ H v u Q I r (st v x σ H as ρ ho ρ' Q h1 h2 h3 h4 h5)⟩
/-! ### list comprehensions of one clause -/
def noX : XD := fun _ _ => False
/-- nothing leaves -/
def WF0 : WX := fun _ _ _ _ => False
/-- the turns: the items so far stand at place n -/
def lcGo (g : WG) (tt : WT) (te : WE) (st : Ho → Prop) (n : Nat) (ρ : En) (Q : Ho → Prop) : List D → Ho → Prop
  | [], h => Q h
  | x :: xs, h => match g x h ρ with
    | some ρ1 => tt ρ1 h (fun b h1 => if b = true then te ρ1 h1 (fun y h2 => match h2[n]? with
        | some (.lst acc) => acc.length < sizeLine ∧ st (h2.set n (.lst (acc ++ [y]))) ∧ lcGo g tt te st n ρ Q xs (h2.set n (.lst (acc ++ [y])))
        | _ => False) noX else st h1 ∧ lcGo g tt te st n ρ Q xs h1) noX
    | none => False
/-- the new list is a place -/
def fLcL (wi : WI) (g : WG) (tt : WT) (te : WE) (own : List Nat) : WE := fun ρ h Q E => wi ρ h (fun xs st h1 =>
  st (h1 ++ [.lst []]) ∧ lcGo g tt te st h1.length (wipeD ρ own) (fun h2 => Q (.loc h1.length) h2) xs (h1 ++ [.lst []])) E
/-- no place n stands in the store -/
def noRefD (n : Nat) : D → Bool
  | .loc m => m != n
  | .pr m _ => m != n
  | _ => true
def noRef (n : Nat) (h : Ho) : Bool := h.all fun o => match o with
  | .lst xs => xs.all (noRefD n)
  | .keys _ => true
  | .di kvs => kvs.all fun z => noRefD n z.2
  | .dt kvs => kvs.all fun z => noRefD n z.2
  | .lk _ => true
/-- the new list is data: the store behind is as long as ahead, and nothing in it leads to the list -/
def fLcV (wi : WI) (g : WG) (tt : WT) (te : WE) (own : List Nat) : WE := fun ρ h Q E => wi ρ h (fun xs st h1 =>
  st (h1 ++ [.lst []]) ∧ lcGo g tt te st h1.length (wipeD ρ own) (fun h2 => ∃ hh acc ps, h2 = hh ++ [.lst acc] ∧ hh.length = h1.length ∧ (hh = h1 ∨ noRef h1.length hh = true) ∧ allD acc = some ps ∧ Q (.d (.list ps)) hh) xs (h1 ++ [.lst []])) E
def tTrue : WT := fun _ h Q _ => Q true h
section
variable {X : Cx} {W : WX} {elt tg it : Expr} {ifs : List Expr} {scope : Scope} {own : List (Str × Nat)} {pos : Pos} {wi : WI} {g : WG} {sl : List Nat} {tt : WT} {te : WE}
def STs (X : Cx) (W : WX) (ifs : List Expr) (f : WT) : Prop := ∃ t, PTs X ifs t ∧ SpT X W t f
theorem STs.nil : STs X W [] tTrue := ⟨_, pts_nil, fun _ _ _ _ _ _ _ _ _ hR hq k _ => k _ _ _ _ hq (Later.refl _ _) hR⟩
theorem STs.one {c : Expr} {f : WT} (h : ST X W c f) : STs X W [c] f := let ⟨_, p, s⟩ := h; ⟨_, pts_one p, s⟩
theorem STs.c {f : WT} (h : STs X W ifs f) : PTs X ifs (cT X.K X.mg W f) := by
  obtain ⟨t, pt, st⟩ := h
  exact ⟨fun pins s σ H Q I ⟨as, ρ, ho, Q0, E0, h1, h2, h3, h4, h5⟩ => pt.run pins s σ H Q I (st σ H as ρ ho Q0 E0 Q h1 h2 h3 h4 h5)⟩
theorem wipe_wipe (σ : L2.St) (vs : List Nat) : L2.wipe (L2.wipe σ vs) vs = L2.wipe σ vs := by
  have key : ∀ (ws us : List Nat), (∀ i ∈ ws, i ∈ us) → ∀ τ, L2.wipe (L2.wipe τ ws) us = L2.wipe τ us := by
    intro ws
    induction ws with
    | nil => intro us _ τ; rfl
    | cons w ws ih =>
      intro us hs τ
      show L2.wipe ((L2.wipe τ ws).set w none) us = _
      rw [wipe_set (hs w (by simp)), ih us (fun i hi => hs i (List.mem_cons_of_mem _ hi))]
  exact key vs vs (fun _ h => h) σ
/-- the walk of the turns, in the layer -/
theorem lc_walk {K : Frag} {mg : Str → Option Value} {as1 : List Addr} {H1 : Hp} {h1 : Ho} {σ : L2.St} {ρ : En} {xs : List D} {st : Ho → Prop} {J : It} {Qf : Ho → Prop} {QV : VK} {ow : List Nat} (hsl : ∀ i ∈ sl, i ∈ ow)
    (r1 : HeapR K as1 H1 h1) (eR : EnvR K as1 H1 ρ σ) (wk : Walks K as1 H1 xs st J) (st1 : st (h1 ++ [.lst []])) (go : lcGo g tt te st h1.length (wipeD ρ ow) Qf xs (h1 ++ [.lst []]))
    (kq : ∀ p as2 H2 h2, H1 p = none → Qf h2 → Later as1 H1 as2 H2 → HeapR K as2 H2 h2 → as2[h1.length]? = some p → QV (.ref p) H2) :
    ∀ p, H1 p = none → ∃ Wm : Nat → Nat → Hp → Prop, (∃ m, Wm 0 m (upd H1 p (.lst []))) ∧ ∀ i m H, Wm i m H →
      (J.stop i H ∧ QV (.ref p) H) ∨ (J.go i H ∧ ∃ Nx : Hp → Prop, (∀ H', Nx H' → ∃ m', m' < m ∧ Wm (i + 1) m' H') ∧ ∀ x H', J.yld i H x H' → cG K g sl x (L2.wipe σ ow) H' fun σ2 H2 => L2.wipe σ2 ow = L2.wipe σ ow ∧ cT K mg WF0 tt σ2 H2 fun b H3 =>
        if b = true then cE K mg WF0 te σ2 H3 fun y H4 => ∃ acc, H4 p = some (.lst acc) ∧ acc.length < sizeLine ∧ Nx (upd H4 p (.lst (acc ++ [y]))) else Nx H3) := by
  intro p hp
  obtain ⟨rp, ep⟩ := r1.place (vs := []) (xs := []) hp .nil
  have lp : Later as1 H1 (as1 ++ [p]) (upd H1 p (.lst [])) := Later.place _ hp
  refine ⟨fun i m H => m = xs.length - i ∧ i ≤ xs.length ∧ ∃ as2 h2, Later as1 H1 as2 H ∧ as2[h1.length]? = some p ∧ HeapR K as2 H h2 ∧ st h2 ∧ lcGo g tt te st h1.length (wipeD ρ ow) Qf (xs.drop i) h2,
    ⟨xs.length, by simp, Nat.zero_le _, _, _, lp, ep, rp, st1, go⟩, ?_⟩
  rintro i m H ⟨rfl, hi, as2, h2, l2, e2, r2, st2, go2⟩
  obtain ⟨w1, w2, w3⟩ := wk i as2 H h2 l2 r2 st2
  by_cases hlt : i < xs.length
  · refine .inr ⟨w1 hlt, fun H' => i + 1 ≤ xs.length ∧ ∃ as3 h3, Later as1 H1 as3 H' ∧ as3[h1.length]? = some p ∧ HeapR K as3 H' h3 ∧ st h3 ∧ lcGo g tt te st h1.length (wipeD ρ ow) Qf (xs.drop (i + 1)) h3,
      fun H' z => ⟨xs.length - (i + 1), by omega, rfl, z.1, z.2⟩, fun v H' y => ?_⟩
    obtain ⟨l3, r3, rv⟩ := w3 v H' y xs[i] (List.getElem?_eq_getElem hlt)
    rw [List.drop_eq_getElem_cons hlt] at go2
    unfold lcGo at go2
    split at go2
    · rename_i ρ1 e1
      have l13 := l2.trans l3
      refine ⟨as2, _, _, h2, ρ1, (eR.later l13).wipe ow, r3, rv, e1, fun σ2 eR2 hw => ⟨?_, ?_⟩⟩
      · rw [hw ow hsl, wipe_wipe]
      · refine ⟨as2, ρ1, h2, _, _, eR2, r3, go2, fun b h3 as3 H3 q3 l4 r4 => ?_, fun _ _ _ _ _ _ z => z.elim⟩
        cases b with
        | false =>
          refine iteF ⟨hlt, as3, h3, l13.trans l4, l4.at e2, r4, ?_⟩
          exact q3
        | true =>
          refine iteT ⟨as3, ρ1, h3, _, _, eR2.later l4, r4, q3, fun y h4 w as4 H4 q4 l5 r5 rw' => ?_, fun _ _ _ _ _ _ z => z.elim⟩
          split at q4
          · rename_i acc ea
            have e4 := l5.at (l4.at e2)
            obtain ⟨b, hb, vs, o1, o2⟩ := r5.at ea
            rw [e4] at hb
            cases hb
            have lw : Later as4 H4 as4 (upd H4 p (.lst (vs ++ [w]))) := Later.write _ (List.mem_of_getElem? e4)
            exact ⟨vs, o1, by rw [o2.length]; exact q4.1, hlt, as4, _, ((l13.trans l4).trans l5).trans lw, e4, r5.write e4 (o2.append (.cons rw' .nil)), q4.2.1, q4.2.2⟩
          · exact q4.elim
    · exact go2.elim
  · have e : i = xs.length := by omega
    subst e
    rw [List.drop_length] at go2
    unfold lcGo at go2
    exact .inl ⟨w2 rfl, kq p as2 H h2 hp go2 l2 r2 e2⟩
variable (hc : X.calm = true) (hN : X.N.Nodup) (hi : SI X W tg it wi) (ok : BlkOk X.N X.env.scope scope own) (hsl : ∀ i ∈ sl, i ∈ own.map (·.2))
    (hg : ∀ (s : Shared) (H : Hp) (C : Addr) (cl : List (Str × Addr)) (fp : List Addr), SG (X.blk s H scope (compEnvC scope cl C X.env) fp) tg g sl)
    (ht : ∀ (s : Shared) (H : Hp) (C : Addr) (cl : List (Str × Addr)) (fp : List Addr), STs (X.blk s H scope (compEnvC scope cl C X.env) fp) WF0 ifs tt)
    (he : ∀ (s : Shared) (H : Hp) (C : Addr) (cl : List (Str × Addr)) (fp : List Addr), SE (X.blk s H scope (compEnvC scope cl C X.env) fp) WF0 elt te)
include hc hN hi ok hsl hg ht he
theorem sp_lc {t : TI} (st' : ∀ σ H as ρ h Q E (R : It → Hp → Prop), EnvR X.K as H ρ σ → HeapR X.K as H h → wi ρ h Q E →
    (∀ xs st h1 as1 H1 (J : It), Q xs st h1 → st h1 → Later as H as1 H1 → HeapR X.K as1 H1 h1 → Walks X.K as1 H1 xs st J → R J H1) → XTo X W as H σ E → t σ H R) :
    SpE X W (tLc t (cG X.K g sl) (cT X.K X.mg WF0 tt) (cE X.K X.mg WF0 te) (own.map (·.2))) (fLcL wi g tt te (own.map (·.2))) ∧
    SpE X W (tLc t (cG X.K g sl) (cT X.K X.mg WF0 tt) (cE X.K X.mg WF0 te) (own.map (·.2))) (fLcV wi g tt te (own.map (·.2))) := by
  constructor
  · intro σ H as ρ h Q E QV eR hR hq k kx
    refine st' σ H as ρ h _ E _ eR hR hq (fun xs st h1 as1 H1 J q1 s1 l1 r1 wk => ?_) kx
    refine lc_walk hsl r1 (eR.later l1) wk q1.1 q1.2 fun p as2 H2 h2 hp q2 l2 r2 e2 => ?_
    exact k _ _ _ _ _ q2 (l1.trans l2) r2 (.loc e2)
  · intro σ H as ρ h Q E QV eR hR hq k kx
    refine st' σ H as ρ h _ E _ eR hR hq (fun xs st h1 as1 H1 J q1 s1 l1 r1 wk => ?_) kx
    refine lc_walk hsl r1 (eR.later l1) wk q1.1 q1.2 fun p as2 H2 h2 hp q2 l2 r2 e2 => ?_
    obtain ⟨hh, acc, ps, rfl, hlen, hno, hps, q⟩ := q2
    -- the last place is taken away
    have hal : as2.length = hh.length + 1 := by rw [r2.len]; simp
    have al1 : as1.length = h1.length := r1.len
    obtain ⟨mo, hmo⟩ := l2.more
    have hmo1 : mo.length = 1 := by
      have := congrArg List.length hmo
      rw [List.length_append] at this
      omega
    obtain ⟨p', rfl⟩ : ∃ p', mo = [p'] := by
      cases mo with
      | nil => simp at hmo1
      | cons a t => cases t with
        | nil => exact ⟨a, rfl⟩
        | cons _ _ => simp at hmo1
    have ep : p' = p := by
      rw [hmo, ← al1] at e2
      simpa using e2
    subst ep
    subst hmo
    have hpn : p' ∉ as1 := fun hm => by
      obtain ⟨u, e⟩ := r1.there hm
      rw [hp] at e
      cases e
    obtain ⟨b, hb, vs, o1, o2⟩ := r2.at (n := hh.length) (o := .lst acc) (by simp)
    have ebp : b = p' := by
      rw [hlen, ← al1] at hb
      simpa using hb.symm
    subst ebp
    have l2' : Later as1 H1 as1 H2 := ⟨⟨[], by simp⟩, fun q o e n => ⟨(l2.keep q o e n).1, n⟩⟩
    have back : Later (as1 ++ [b]) H2 as1 H2 → True := fun _ => trivial
    have dvBack : ∀ {v : V} {d : PyData}, Dv X.K (as1 ++ [b]) H2 v d → Dv X.K as1 H2 v d := by
      have key : ∀ (q : Addr) (o : HO), H2 q = some o → q ∉ as1 ++ [b] → H2 q = some o ∧ q ∉ as1 := fun q o e n => ⟨e, fun m => n (List.mem_append_left _ m)⟩
      intro v d hd
      have tupB : ∀ {a : Addr} {ys : List V}, TupR X.K (as1 ++ [b]) H2 a ys → TupR X.K as1 H2 a ys := fun z => z.elim (fun z => .inl ⟨z.1, fun m => z.2 (List.mem_append_left _ m)⟩) .inr
      have lstB : ∀ {a : Addr} {ys : List V}, LstR X.K (as1 ++ [b]) H2 a ys → LstR X.K as1 H2 a ys := fun z => z.elim (fun z => .inl ⟨z.1, fun m => z.2 (List.mem_append_left _ m)⟩) .inr
      exact Dv.rec (motive_1 := fun v d _ => Dv X.K as1 H2 v d) (motive_2 := fun vs ds _ => DvAll X.K as1 H2 vs ds) .non (fun b => .bl b) (fun i => .int i) (fun x => .str x) (fun s _ ih => .lst (lstB s) ih) (fun s _ ih => .tup (tupB s) ih) .nil (fun _ _ ih1 ih2 => .cons ih1 ih2) hd
    have dvsBack : ∀ (ds : List PyData) (vs : List V), DvAll X.K (as1 ++ [b]) H2 vs ds → DvAll X.K as1 H2 vs ds := by
      intro ds
      induction ds with
      | nil => intro vs hd; cases hd; exact .nil
      | cons d ds ih => intro vs hd; cases hd with | cons z1 z2 => exact .cons (dvBack z1) (ih _ z2)
    have relBack : ∀ {v : V} {x : D}, Rel X.K (as1 ++ [b]) H2 v x → noRefD h1.length x = true → Rel X.K as1 H2 v x := by
      intro v x rx hn
      cases rx with
      | d rx => exact .d (dvBack rx)
      | @loc a m hm =>
        simp only [noRefD, bne_iff_ne, ne_eq] at hn
        have hlt := (List.getElem?_eq_some_iff.mp hm).1
        simp at hlt
        have : m < as1.length := by omega
        rw [List.getElem?_append_left this] at hm
        exact .loc hm
      | tp z1 z2 z3 z4 => exact .tp z1 z2 (fun m => z3 (List.mem_append_left _ m)) (dvsBack _ _ z4)
      | ob z1 z2 z3 z4 z5 => exact .ob z1 z2 (fun m => z3 (List.mem_append_left _ m)) z4 (dvsBack _ _ z5)
      | @pr t a m v q z1 hm z3 =>
        simp only [noRefD, bne_iff_ne, ne_eq] at hn
        have hlt := (List.getElem?_eq_some_iff.mp hm).1
        simp at hlt
        have : m < as1.length := by omega
        rw [List.getElem?_append_left this] at hm
        exact .pr (z1.elim (fun z => .inl ⟨z.1, fun m => z.2 (List.mem_append_left _ m)⟩) .inr) hm (dvBack z3)
    have allBack : ∀ {vs : List V} {xs : List D}, RelAll X.K (as1 ++ [b]) H2 vs xs → (∀ x ∈ xs, noRefD h1.length x = true) → RelAll X.K as1 H2 vs xs := by
      intro vs xs ra
      induction ra with
      | nil => intro _; exact .nil
      | cons r t ih => intro hn; exact .cons (relBack r (hn _ (by simp))) (ih fun x hx => hn x (List.mem_cons_of_mem _ hx))
    have relClean : ∀ {v : V} {x : D}, Rel X.K as1 H1 v x → noRefD h1.length x = true := by
      intro v x rvx
      have hlen := r1.len
      cases rvx with
      | d _ => rfl
      | tp _ _ _ _ => rfl
      | ob _ _ _ _ _ => rfl
      | @pr t a m v q _ hm _ =>
        have := (List.getElem?_eq_some_iff.mp hm).1
        simp only [noRefD, bne_iff_ne, ne_eq]
        omega
      | @loc a m hm =>
        have := (List.getElem?_eq_some_iff.mp hm).1
        simp only [noRefD, bne_iff_ne, ne_eq]
        omega
    have cleanI : ∀ (i : Nat) (kvs : List (Int × D)), hh[i]? = some (.di kvs) → ∀ z ∈ kvs, noRefD h1.length z.2 = true := by
      intro i kvs e z hz
      rcases hno with rfl | hno
      · obtain ⟨a, ha, us, u1, u2⟩ := r1.at e
        obtain ⟨v, rv⟩ := u2.mem z hz
        exact relClean rv
      · unfold noRef at hno
        rw [List.all_eq_true] at hno
        have := hno _ (List.mem_of_getElem? e)
        simp only [List.all_eq_true] at this
        exact this z hz
    have cleanT : ∀ (i : Nat) (kvs : List (List Int × D)), hh[i]? = some (.dt kvs) → ∀ z ∈ kvs, noRefD h1.length z.2 = true := by
      intro i kvs e z hz
      rcases hno with rfl | hno
      · obtain ⟨a, ha, u0, us, u1, u2⟩ := r1.at e
        obtain ⟨v, rv⟩ := u2.mem z hz
        exact relClean rv
      · unfold noRef at hno
        rw [List.all_eq_true] at hno
        have := hno _ (List.mem_of_getElem? e)
        simp only [List.all_eq_true] at this
        exact this z hz
    have hclean : ∀ (i : Nat) (ys : List D), hh[i]? = some (.lst ys) → ∀ x ∈ ys, noRefD h1.length x = true := by
      intro i ys e x hx
      rcases hno with rfl | hno
      · -- the store as it was: each place within is an old one
        obtain ⟨a, ha, us, u1, u2⟩ := r1.at e
        obtain ⟨j, hj, ej⟩ := List.mem_iff_getElem.mp hx
        obtain ⟨v, _, rvx⟩ := u2.get (i := j) (x := x) (by rw [List.getElem?_eq_getElem hj, ej])
        cases rvx with
        | d _ => rfl
        | tp _ _ _ _ => rfl
        | ob _ _ _ _ _ => rfl
        | @pr t a m v q _ hm _ =>
          have := (List.getElem?_eq_some_iff.mp hm).1
          simp only [noRefD, bne_iff_ne, ne_eq]
          omega
        | @loc a m hm =>
          have := (List.getElem?_eq_some_iff.mp hm).1
          simp only [noRefD, bne_iff_ne, ne_eq]
          omega
      · unfold noRef at hno
        rw [List.all_eq_true] at hno
        have := hno _ (List.mem_of_getElem? e)
        simp only [List.all_eq_true] at this
        exact this x hx
    have r2' : HeapR X.K as1 H2 hh := by
      refine ⟨by omega, r1.nd, fun i o a e1 e2 => ?_⟩
      have hi' : i < as1.length := (List.getElem?_eq_some_iff.mp e2).1
      have q2 := r2.ob i o a (by rw [List.getElem?_append_left (by omega)]; exact e1) (by rw [List.getElem?_append_left hi']; exact e2)
      cases o with
      | lst ys =>
        obtain ⟨us, u1, u2⟩ := q2
        exact ⟨us, u1, allBack u2 (hclean i ys e1)⟩
      | keys ks =>
        obtain ⟨h0, xs, u1, u2, u3⟩ := q2
        exact ⟨h0, xs, u1, u2, fun z hz => (u3 z hz).imp (fun t => ⟨t.1, fun hm => t.2 (List.mem_append_left _ hm)⟩) id⟩
      | di kvs =>
        obtain ⟨xs, u1, u2⟩ := q2
        exact ⟨xs, u1, u2.imp fun z hz v r => relBack r (cleanI i kvs e1 z hz)⟩
      | dt kvs =>
        obtain ⟨u0, xs, u1, u2⟩ := q2
        exact ⟨u0, xs, u1, u2.imp (fun b ys t => t.imp (fun t => ⟨t.1, fun hm => t.2 (List.mem_append_left _ hm)⟩) id) fun z hz v r => relBack r (cleanT i kvs e1 z hz)⟩
      | lk u => exact q2
    have dv := o2.ofAllD hps
    have dvl : DvAll X.K as1 H2 vs ps := by
      have := DvAll.rec (motive_1 := fun _ _ _ => True) (motive_2 := fun vs ds _ => DvAll X.K as1 H2 vs ds) (K := X.K) (as := as1 ++ [b]) (H := H2) trivial (fun _ => trivial) (fun _ => trivial) (fun _ => trivial) (fun _ _ _ => trivial) (fun _ _ _ => trivial) .nil (fun h1 _ _ ih2 => .cons (dvBack h1) ih2) dv
      exact this
    exact k _ _ _ _ _ q (l1.trans l2') r2' (.d (.lst (.inl ⟨.inl o1, hpn⟩) dvl))
theorem SE.lcV (hs : ∀ x, foldedSetIterable it X.env x = pure x := by intro _; rfl) : SE X W (.ListComp elt [⟨tg, it, ifs, 0⟩] scope pos) (fLcV wi g tt te (own.map (·.2))) := by
  obtain ⟨t, pi, st'⟩ := id hi
  exact ⟨_, pe_lc hc hN pi ok (fun s H C cl fp => (hg s H C cl fp).c) (fun s H C cl fp => (ht s H C cl fp).c) (fun s H C cl fp => (he s H C cl fp).c) hs, (sp_lc hc hN hi ok hsl hg ht he st').2⟩
theorem SS.setLcV {i : Nat} {y : Str} {py spos : Pos} (hy : X.N[i]? = some y) (hyl : X.env.scope.names.lookup y = some .local) (hsw : swapsWith (.ListComp elt [⟨tg, it, ifs, 0⟩] scope pos) (some (.Name y py)) spos.line X.env = pure true)
    (hs : ∀ x, foldedSetIterable it X.env x = pure x := by intro _; rfl) : SS X W (.Assign [.Name y py] (.ListComp elt [⟨tg, it, ifs, 0⟩] scope pos) spos) (sAsg (fLcV wi g tt te (own.map (·.2))) (gNm i)) := by
  obtain ⟨t, pi, st'⟩ := id hi
  refine ⟨_, ps_setLc hc hN hy hyl hsw pi ok (fun s H C cl fp => (hg s H C cl fp).c) (fun s H C cl fp => (ht s H C cl fp).c) (fun s H C cl fp => (he s H C cl fp).c) hs, sp_asg (sl := [i]) (sp_lc hc hN hi ok hsl hg ht he st').2 fun v x σ H as ρ h ρ' Q eR hR r e k => ?_⟩
  simp only [gNm, Option.some.injEq] at e
  subst e
  exact k _ (eR.set i r) fun vs hv => wipe_set (hv i (by simp))
end
end V2
set_option Elab.async false
set_option linter.all false
set_option maxRecDepth 100000
set_option maxHeartbeats 4000000
namespace V2
open PySem PySem.Spec PyProof.Rows L2
open PySem.W (Frag)
open PySem.Builtin PySem.Builtin.ObjectAttr
/-! ### own exceptions over Exception -/
/-- own classes, then Exception's chain -/
inductive Refs : List Value → Prop
  | nil : Refs [.type "Exception", .type "BaseException", .type "object"]
  | cons (c : Addr) {r : List Value} : Refs r → Refs (.ref c :: r)
theorem Refs.pass (self : Value) : ∀ {l : List Value}, Refs l → refuseLoop self "__setattr__" l = pure ()
  | _, .nil => F.store_Exception.passes self
  | _, .cons _ r => by rw [refuseLoop_ref]; exact Refs.pass self r
theorem Refs.has (n : String) : ∀ {l : List Value}, Refs l → l.contains (.type n) = ([.type "Exception", .type "BaseException", .type "object"] : List Value).contains (.type n)
  | _, .nil => rfl
  | _, .cons _ r => by rw [List.contains_cons, Refs.has n r]; rfl
theorem Refs.ne : ∀ {l : List Value}, Refs l → l.isEmpty = false
  | _, .nil => rfl
  | _, .cons _ _ => rfl
section
variable {prog : Program} {w : World} {A : Around} {E : Value → Shared → Prop} {R : Result → Shared → Prop} {hp : Heap} {g : Array GenState} {d : Drawn} {t : Nat} {os : OsState}
/-- self.name = v on an exception that has no dict yet -/
theorem refs_osa {K : Frag} {name : Str} {tk : Tok} {v : Value} {x C : Addr} {fv : Array Value} {cd : ClassData} (inK : K.In hp) (ox : hp.get? x = some { cls := .ref C, data := .fields fv }) (ecd : PySem.W.clsIn K C = some cd) (rf : Refs cd.mro)
    (edict : cd.hasDict = true) (noF : PySem.W.findIn K (.ref C) name = some none)
    (fin : ∀ h' tk' dx, (∀ b o, b ≠ x → hp.get? b = some o → h'.get? b = some o) → hp.objs.size ≤ dx → dx ≠ x → h'.get? x = some { cls := .ref C, dict := some dx, data := .fields fv } →
      h'.Ns1 dx (fun y => if y = name then some v else none) → R (.ok (.ret .none)) ⟨h', g, d, tk', os⟩) :
    codeAny (model prog w) A (.call (.builtin "object.__setattr__") ⟨[.ref x, .str name tk, v], []⟩) R ⟨hp, g, d, t, os⟩ := by
  have inst : PySem.W.InstAt hp x { cls := .ref C, data := .fields fv } C none := ⟨ox, rfl, rfl, trivial⟩
  have so := F.store_object
  have isob : cd.mro.contains (.type "object") = true := (rf.has "object").trans (by decide +kernel)
  have apart : x ≠ hp.objs.size := Nat.ne_of_lt (Heap.lt_size ox)
  have lob : PySem.W.Looks (model prog w) hp (isInstance (.ref x) (.type "object")) true := inst.type.andThen (PySem.W.looks_mroIn inK (by unfold PySem.W.mroIn; rw [ecd, Option.bind_some, if_neg (by rw [rf.ne]; decide), isob]))
  refine codeAny_call_builtin so.slot.plain so.entry (@PySem.W.check_slot (model prog w) _ _ ⟨hp, g, d, t, os⟩ "object.__setattr__" "object" "__setattr__" (.ref x) [.str name tk, v] [] _ so.kind so.split lob (so.args (.ref x) (.str name tk) v) ?_)
  have lm : PySem.W.Looks (model prog w) hp (mroOf (.ref C)) cd.mro := (PySem.W.looks_clsIn inK ecd).andThen .now
  have l3 : PySem.W.Looks (model prog w) hp (storeTaker? none) none := .now
  have lcd : PySem.W.Looks (model prog w) hp (classData C) cd := PySem.W.looks_clsIn inK ecd
  rw [PySem.W.osa_eq, refuse_eq]
  refine wpAny_bind (wpAny_bind (inst.type.at (wpAny_bind (lm.at ?_))))
  rw [rf.pass _]
  refine wpAny_pure (wpAny_bind (inst.type.at (wpAny_bind ((PySem.W.looks_findIn inK noF).at (wpAny_bind (l3.at ?_))))))
  show wpAny _ _ (storeInOwnDict (.ref x) (.ref C) (.str name tk) name v false) _ _ _
  obtain ⟨cn, cb, cm, cns, cq, chd, csn, csb, cab, ccol, cdel⟩ := cd
  dsimp only at edict
  subst edict
  unfold storeInOwnDict ownDictForStores
  repeat (first | with_reducible refine HandSPX.store_in_new ?_ ?_ | with_reducible refine wpAny_loadPart_at ox ?_ | with_reducible refine lcd.at ?_ | wp_step)
  · exact ⟨_, #[], _, (Heap.get?_update_ne _ _ _ _ apart.symm).trans (Heap.get?_push_at rfl rfl), rfl, fun e he => absurd he (by simp), fun _ => rfl⟩
  · intro h' tk' hn' hs
    have ox1 : (hp.push { cls := .type "dict", data := .dict #[] }).get? x = some { cls := .ref C, data := .fields fv } := Heap.get?_push_of_some _ ox
    refine fin h' tk' hp.objs.size (fun b o hb ho => ?_) (Nat.le_refl _) apart.symm ?_ hn'
    · exact (hs.2 b (Nat.ne_of_lt (Heap.lt_size ho))).trans ((Heap.get?_update_ne _ _ _ _ hb).trans (Heap.get?_push_of_some _ ho))
    · exact (hs.2 x apart).trans (Heap.get?_update_self _ ox1 rfl)
end
/-- what __init__(self, fld) leaves of a fresh exception at x -/
structure InitBehind (fld : Str) (h h' : Heap) (x C dx t1 : Addr) (v : Value) : Prop where
  keep : ∀ b o, b ≠ x → h.get? b = some o → h'.get? b = some o
  obj : h'.get? x = some { cls := .ref C, dict := some dx, data := .fields #[.ref t1, .none, .none, .none, .bool false, .none] }
  dbig : h.objs.size ≤ dx
  dne : dx ≠ x
  ns : h'.Ns1 dx (fun y => if y = fld then some v else none)
/-- a made exception -/
structure MadeX (fld : Str) (h h' : Heap) (e C d : Addr) (v : Value) : Prop where
  keep : ∀ b o, h.get? b = some o → h'.get? b = some o
  new : h.objs.size ≤ e
  obj : ∃ oe vs, h'.get? e = some oe ∧ oe.cls = .ref C ∧ oe.dict = some d ∧ oe.data = .fields vs ∧ vs[1]? = some .none
  dbig : h.objs.size ≤ d
  dne : d ≠ e
  ns : h'.Ns1 d (fun y => if y = fld then some v else none)
/-- what the written part says of a class -/
structure XCls (K : Frag) (mg : Str → Option Value) (cn : Str) (C : Addr) : Prop where
  gC : mg cn = some (.ref C)
  cls : ∃ nm q N bs bm sn sub ab col dd k0 k1 k2 k3 k5, K.lookup C = some (excClassObj nm q C N bs bm true sn sub ab col dd k0 k1 k2 k3 k5 "Exception.__new__") ∧ Refs bm
  kC : PySem.W.keepIn K (.ref C) = true
  exC : PySem.W.subIn K (.ref C) (.type "BaseException") = some true
  tyC : PySem.W.typeIn K (.ref C) = some (.type "type")
  hdC : PySem.W.hasDictIn K C = true
/-- with an __init__ at fI that stores one field -/
structure XOwn (K : Frag) (mg : Str → Option Value) (cn : Str) (C fI : Addr) (fld : Str) : Prop extends XCls K mg cn C where
  sa : PySem.W.findIn K (.ref C) "__setattr__" = some (some (.builtin "object.__setattr__"))
  noN : PySem.W.findIn K (.ref C) fld = some none
  iC : PySem.W.findIn K (.ref C) "__init__" = some (some (.ref fI))
  tC : PySem.W.typeIn K (.ref fI) = some (.type "function")
  init : ∀ {prog : Program} {w : World} {A : Around} {R : Result → Shared → Prop} {s : Shared} {x t0 : Addr} {v : Value}, K.In s.heap → s.heap.NoLimit → s.heap.get? x = some (HandSPX.excO C t0) → A.depth < recursionLimit →
    (∀ h' tk dx, InitBehind fld s.heap h' x C dx t0 v → R (.ok (.ret .none)) { s with heap := h', toks := tk }) → codeAny (model prog w) A (.call (.ref fI) ⟨[.ref x, v], []⟩) R s
theorem one_fits (v : Value) : [v].length ≤ sizeLine := by
  rw [sizeLine_eq]
  exact (by decide : 1 ≤ 16777216)
section
variable {prog : Program} {w : World} {A : Around} {E : Value → Shared → Prop} {R : Result → Shared → Prop} {s : Shared} {K : Frag} {mg : Str → Option Value} {C fI : Addr} {cn fld : Str}
theorem x_made (T : XOwn K mg cn C fI fld) {v : Value} (inK : K.In s.heap) (hlim : s.heap.NoLimit) (hroom : A.depth + 1 < recursionLimit)
    (hq : ∀ h' tk e d, MadeX fld s.heap h' e C d v → R (.ok (.ret (.ref e))) { s with heap := h', toks := tk }) : codeAny (model prog w) A (.call (.ref C) ⟨[v], []⟩) R s := by
  obtain ⟨nm, q, N, bs, bm, sn, sub, ab, col, dd, k0, k1, k2, k3, k5, hC, hbm⟩ := T.cls
  obtain ⟨hp, gg, dr, tk, os⟩ := s
  have up : ∀ b o, hp.get? b = some o → ((hp.push (PySem.W.kdv_tup [v])).push (HandSPX.excO C hp.objs.size)).get? b = some o := fun b o e => Heap.get?_push_of_some _ (Heap.get?_push_of_some _ e)
  have there : ((hp.push (PySem.W.kdv_tup [v])).push (HandSPX.excO C hp.objs.size)).get? (hp.objs.size + 1) = some (HandSPX.excO C hp.objs.size) := by heap_get
  refine HandSPX.call_own F.excBase_Exception (fun n => hbm.has n) (inK _ _ hC) (PySem.W.looks_findIn inK T.iC) (fun self => PySem.W.bind_fn inK self T.tC) (one_fits v) ?_
  refine T.init (s := ⟨(hp.push (PySem.W.kdv_tup [v])).push (HandSPX.excO C hp.objs.size), gg, dr, tk, os⟩) (inK.keeps up) (hlim.keeps up) there ?_ fun h' tk' dx ⟨k', hx, dn, dne, hns⟩ => ?_
  · show A.depth + 1 < recursionLimit
    exact hroom
  · have old : ∀ b o, hp.get? b = some o → h'.get? b = some o := fun b o e => k' b o (Nat.ne_of_lt (Nat.lt_succ_of_lt (Heap.lt_size e))) (up b o e)
    have z : hp.objs.size + 1 + 1 ≤ dx := by
      have q := dn
      simp only [Heap.size_push] at q
      exact q
    exact ⟨rfl, hq h' tk' (hp.objs.size + 1) dx ⟨old, Nat.le_succ _, ⟨_, _, hx, rfl, rfl, rfl, rfl⟩, (by show hp.objs.size ≤ dx; omega), dne, hns⟩⟩
end
theorem relO_one {v : V} {v' : Value} {fld : Str} (r : RelV v v') (f : Str) : RelO (List.lookup f [(fld, v)]) (if f = fld then some v' else none) := by
  by_cases hw : f = fld
  · subst hw
    rw [if_pos rfl]
    have q : List.lookup f [(f, v)] = some v := by simp [List.lookup]
    rw [q]
    exact r
  · rw [if_neg hw]
    have qw : (f == fld) = false := by simpa using hw
    have q2 : List.lookup f [(fld, v)] = none := by simp [List.lookup, qw]
    rw [q2]
    trivial
section
variable {X : Cx} {W : WX} {C fI : Addr} {cn fld : Str}
def tMkX (C : Addr) (fld : Str) (ta : TA) : L2.St → Hp → XK → Prop := fun σ H Q => ta σ H fun vs H1 => ∃ v, vs = [v] ∧ ∀ d, H1 d = none → Q (.ref C) (some d) (upd H1 d (.xd [(fld, v)]))
theorem pmk_x {a : Expr} {ta : TA} {p pos : Pos} {k : Nat} (T : XOwn X.K X.mg cn C fI fld) (hr : Room k X.A) (ha : PA X [a] ta) (hg : Gl X cn) (hdb : (cn == ("__debug__" : Str)) = false := by decide)
    (he : starEach (a :: []) X.env = (false, eval a X.env) :: starEach [] X.env := by rfl) (hpl : (backTo pos (starEach [] X.env)).any (·.1) = false := by rfl) : PMk X (.Call (.Name cn p) [a] [] pos) (tMkX C fld ta) := by
  intro pins s σ H Q I h
  refine wpAny_Call_Name_kw (ld_glob I hg T.gC ?_ hdb)
  refine PySem.W.callWith_K (h₀ := X.base) I.ok.mod.kin T.kC (thn (ha.run pos pins s σ H _ I h) fun us s1 hh => ?_) he hpl
  obtain ⟨vs, H1, I1, r1, v, ev, q1⟩ := hh
  subst ev
  refine ⟨I1.kIn, ?_⟩
  obtain ⟨u, rfl, rv⟩ := vals1 r1
  show wpAny _ _ (call (.ref C) [u]) _ _ _
  have nol := I1.nolimit
  obtain ⟨hp, g, dr, tk, os⟩ := s1
  refine wpAny_call (x_made T I1.kIn nol (by have := hr.dp; omega) fun h' tk' e d M => ?_)
  show MkP X pins σ Q (.ref e) ⟨h', g, dr, tk', os⟩
  obtain ⟨oe, fv, hoe, hc, hd, hdat, h1⟩ := M.obj
  obtain ⟨G', g1, g2⟩ := restrict h' fun b => decide (b ≠ e)
  have gk : ∀ b, b ≠ e → G'.get? b = h'.get? b := fun b hb => g1 b (decide_eq_true hb)
  have ge : G'.get? e = none := g2 e (by simp)
  have old : ∀ b o, hp.get? b = some o → G'.get? b = some o := fun b o q => (gk b (Nat.ne_of_lt (Nat.lt_of_lt_of_le (Heap.lt_size q) M.new))).trans (M.keep b o q)
  have ob : ObjOk X.prog X.w (upd H1 d (.xd [(fld, v)])) G' d (.xd [(fld, v)]) := ⟨_, M.ns.at (fun o q => (gk d M.dne).trans q), fun f => relO_one rv f⟩
  have J : Inv X pins σ (upd H1 d (.xd [(fld, v)])) ⟨G', g, dr, tk', os⟩ := I1.laid (t' := tk') old M.dbig ob
  refine ⟨e, oe, fv, ⟨G', g, dr, tk', os⟩, _, .ref C, some d, rfl, J, fun b o q => ?_, ge, hoe, ⟨hc, hd⟩, hdat, h1, ?_, rfl, I1.bare, raises_own T.exC T.tyC, q1 d (I1.hok.fresh M.dbig)⟩
  · by_cases hb : b = e
    · have q' : G'.get? b = some o := q
      rw [hb, ge] at q'
      cases q'
    · exact (gk b hb).symm.trans q
  · rw [upd_ne (Ne.symm M.dne)]
    exact I1.hok.fresh M.new
/-- raise C(e) -/
def sRaise (cn fld : Str) (ga : WA) : WS := fun ρ h D => ga ρ h (fun xs h1 => match xs with
  | [y] => D.ex ⟨cn, some (fld, y)⟩ ρ h1
  | _ => False) (exOf D ρ)
theorem SS.raise {a : Expr} {ga : WA} {p pos pos2 : Pos} {k : Nat} (hc : X.calm = true) (T : XOwn X.K X.mg cn C fI fld) (hr : Room k X.A) (tk : Takes X W) (ha : SA X W [a] ga) (hg : Gl X cn) (hdb : (cn == ("__debug__" : Str)) = false := by decide)
    (he : starEach (a :: []) X.env = (false, eval a X.env) :: starEach [] X.env := by rfl) (hpl : (backTo pos (starEach [] X.env)).any (·.1) = false := by rfl) :
    SS X W (.Raise (some (.Call (.Name cn p) [a] [] pos)) none pos2) (sRaise cn fld ga) := by
  obtain ⟨ta, pa, sa⟩ := ha
  refine ⟨_, ps_raise hc tk (pmk_x T hr pa hg hdb he hpl), fun σ H as ρ h D D' eR hR hq k => ?_⟩
  refine sa σ H as ρ h _ _ _ eR hR hq (fun xs h1 vs as1 H1 hq1 l1 r1 rv => ?_) (k.x eR)
  split at hq1
  · obtain ⟨v, rfl, r⟩ := relAll1 rv
    refine ⟨v, rfl, fun d hd => ?_⟩
    have l2 : Later as1 H1 as1 (upd H1 d (.xd [(fld, v)])) := Later.new _ hd
    have hda : d ∉ as1 := fun hm => by
      obtain ⟨u, e⟩ := r1.there hm
      rw [hd] at e
      cases e
    exact k.ex _ _ _ _ _ _ _ _ hq1 (l1.trans l2) (r1.new _ hd) (eR.later (l1.trans l2)) ⟨C, T.gC, rfl, d, v, rfl, hda, upd_same, r.later l2⟩
  · exact hq1.elim
end
/-! ### def __init__(self, fld): self.fld = fld -/
namespace XI
def iA (fld : Str) (p1 p2 : Pos) : Arguments := { posonlyargs := [], args := [{ arg := "self", annotation := none, pos := p1 }, { arg := fld, annotation := none, pos := p2 }], vararg := none, kwonlyargs := [], kw_defaults := [], kwarg := none, defaults := [] }
def iB (fld : Str) (q1 q2 q3 q4 : Pos) : List Stmt := [.Assign [.Attribute (.Name "self" q1) fld q2] (.Name fld q3) q4]
def iS (fld : Str) : Scope := { kind := .function, names := [(PySem.Str.ofString "self", .local), (fld, .local)], isGenerator := false, isCoroutine := false, more := [] }
end XI
def XInit (K : Frag) (fI : Addr) (fld qn : Str) : Prop := ∃ (oc : Value) (od : Option Addr) (doc pm : Value) (an : Option Addr) (cdv ct : Value) (osl : Array (Option Value)) (p1 p2 q1 q2 q3 q4 : Pos),
  K.lookup fI = some ⟨oc, od, .func (PySem.W.fnOf "__init__" qn (XI.iA fld p1 p2) (XI.iB fld q1 q2 q3 q4) (XI.iS fld) .none .none doc pm an cdv ct), osl⟩ ∧ PySem.W.codeIn K cdv qn = true
def XBind (fld : Str) : Prop := ∀ (qn : Str) (p1 p2 q1 q2 q3 q4 : Pos) (doc pm : Value) (an : Option Addr) (cdv ct a b : Value),
  bindArgs (PySem.W.fnOf "__init__" qn (XI.iA fld p1 p2) (XI.iB fld q1 q2 q3 q4) (XI.iS fld) .none .none doc pm an cdv ct) ⟨[a, b], []⟩ = pure ([(("self" : Str), a), (fld, b)] : List (Str × Value))
theorem xbind_word : XBind "word" := fun _ _ _ _ _ _ _ _ _ _ _ _ _ _ => by first | rfl | with_unfolding_all rfl
theorem read_local {M : Model} {s : Shared} {name : Str} {scope : Scope} {L a : Addr} {cd : Value} {m : Str → Option Value} {x : Str} {pos : Pos} {v : Value} {Q : Value → Shared → Prop} {A : Around} {E : Value → Shared → Prop} (hn : s.heap.Ns L m) (hv : m x = some v) (h : Q v s)
    (hk : scope.kind = .function) (hl : (envOfC name scope L a cd).kindOf x = some .local) (hd : (x == ("__debug__" : Str)) = false) : wpAny M A (eval (.Name x pos) (envOfC name scope L a cd)) Q E s :=
  wpAny_Name (wpAny_loadName_local hk hl hn hv h) hd
theorem x_init {K : Frag} {mg : Str → Option Value} {cn : Str} {C fI : Addr} {fld qn : Str} (T : XCls K mg cn C) (sa : PySem.W.findIn K (.ref C) "__setattr__" = some (some (.builtin "object.__setattr__"))) (noN : PySem.W.findIn K (.ref C) fld = some none)
    (fn : XInit K fI fld qn) (hbA : XBind fld) (hne : fld ≠ "self") (hdbg : (fld == ("__debug__" : Str)) = false)
    {prog : Program} {w : World} {A : Around} {R : Result → Shared → Prop} {s : Shared} {x t0 : Addr} {v : Value} (inK : K.In s.heap) (hlim : s.heap.NoLimit) (hx : s.heap.get? x = some (HandSPX.excO C t0)) (hroom : A.depth < recursionLimit)
    (hq : ∀ h' tk dx, InitBehind fld s.heap h' x C dx t0 v → R (.ok (.ret .none)) { s with heap := h', toks := tk }) : codeAny (model prog w) A (.call (.ref fI) ⟨[.ref x, v], []⟩) R s := by
  obtain ⟨oc, od, doc, pm, an, cdv, ct, osl, p1, p2, q1, q2, q3, q4, ho, hcd⟩ := fn
  obtain ⟨nm, q, N, bs, bm, sn, sub, ab, col, dd, k0, k1, k2, k3, k5, hC, hbm⟩ := T.cls
  have hcl : PySem.W.clsIn K C = some { name := nm, bases := bs, mro := .ref C :: bm, ns := N, qualname := q, hasDict := true, slotNames := sn, subclasses := sub, abstract := ab, collection := col, hasDel := false } := by unfold PySem.W.clsIn; rw [hC] <;> rfl
  have hns' : (("self" : Str) == fld) = false := by simpa using fun e => hne e.symm
  have hns2 : (fld == ("self" : Str)) = false := by simpa using hne
  have kS : (envOfC qn (XI.iS fld) s.heap.objs.size fI cdv).kindOf ("self" : Str) = some .local := rfl
  have kF : (envOfC qn (XI.iS fld) s.heap.objs.size fI cdv).kindOf fld = some .local := by
    show List.lookup fld [(PySem.Str.ofString "self", NameKind.local), (fld, NameKind.local)] = some .local
    have e2 : (fld == PySem.Str.ofString "self") = false := hns2
    simp [List.lookup, e2]
  refine Att.call_fn (binds := [("self", .ref x), (fld, v)]) inK hlim ho hcd hroom (BindsTo.of_eq ?b1) ?b2 (fun s₁ IC => ?_) rfl rfl rfl
  case b1 => exact hbA qn p1 p2 q1 q2 q3 q4 doc pm an cdv ct (.ref x) v
  case b2 =>
    have e1 : List.lookup (PySem.Str.ofString "self") (XI.iS fld).names = some .local := rfl
    have e2 : List.lookup fld (XI.iS fld).names = some .local := kF
    simp [e1, e2]
  obtain ⟨h₁, tk₁, rfl⟩ := IC.toInCall.same
  have kp : ∀ b o, s.heap.get? b = some o → h₁.get? b = some o := IC.toInCall.keep
  have hn := IC.toInCall.ns
  have inK1 : K.In h₁ := inK.keeps kp
  show wpAny _ _ (execs _ _) _ _ _
  refine wpAny_execs_cons (plainObj_wpAny_Assign_Attribute ?_)
  refine read_local (v := v) hn ?v1 (read_local (v := .ref x) hn ?v2 ?_ rfl kS (by decide)) rfl kF hdbg
  case v1 => simp [bindL, kS, kF]
  case v2 =>
    have e1 : ¬ PySem.Str.ofString "self" = fld := fun e => hne e.symm
    simp [bindL, kS, kF, e1]
  refine PySem.W.set_plain inK1 (ox := HandSPX.excO C t0) (od := none) ⟨kp _ _ hx, rfl, rfl, trivial⟩ sa ?_
  refine refs_osa inK1 (kp _ _ hx) hcl (.cons C hbm) rfl noN (fun h₃ tk₃ dx k₃ dn dne hx₃ hn₃ => ?_)
  show wpAny _ _ (execs _ _) _ _ _
  have z : s.heap.objs.size < h₁.objs.size := hn.lt
  exact wpAny_execs_nil (hq h₃ tk₃ dx ⟨fun b o hb e => k₃ b o hb (kp b o e), hx₃, by show s.heap.objs.size ≤ dx; have : h₁.objs.size ≤ dx := dn; omega, dne, hn₃⟩)
/-- all that is asked of a class with such an __init__ -/
theorem XOwn.mk' {K : Frag} {mg : Str → Option Value} {cn : Str} {C fI : Addr} {fld qn : Str} (T : XCls K mg cn C) (sa : PySem.W.findIn K (.ref C) "__setattr__" = some (some (.builtin "object.__setattr__"))) (noN : PySem.W.findIn K (.ref C) fld = some none)
    (iC : PySem.W.findIn K (.ref C) "__init__" = some (some (.ref fI))) (tC : PySem.W.typeIn K (.ref fI) = some (.type "function")) (fn : XInit K fI fld qn) (hbA : XBind fld) (hne : fld ≠ "self") (hdbg : (fld == ("__debug__" : Str)) = false) : XOwn K mg cn C fI fld :=
  { T with sa := sa, noN := noN, iC := iC, tC := tC, init := x_init T sa noN fn hbA hne hdbg }
end V2
set_option Elab.async false
set_option linter.all false
set_option maxRecDepth 100000
set_option maxHeartbeats 4000000
namespace V2
open PySem PySem.Spec PyProof.Rows L2
open PySem.W (Frag)
/-! ### try: body, except c as n: suite -/
theorem EnvR.none {K : Frag} {as : List Addr} {H : Hp} {ρ : En} {σ : L2.St} (h : EnvR K as H ρ σ) (i : Nat) (o : Option V) : EnvR K as H (ρ.set i none) (σ.set i o) := by
  refine ⟨by rw [List.length_set, List.length_set]; exact h.1, fun j y e => ?_⟩
  by_cases hj : i = j
  · subst hj
    by_cases hl : i < ρ.length
    · rw [List.getElem?_set_self hl] at e; cases e
    · rw [List.getElem?_eq_none (by simpa using hl)] at e; cases e
  · rw [List.getElem?_set_ne hj] at e
    obtain ⟨w, h1, h2⟩ := h.2 j y e
    exact ⟨w, by rw [List.getElem?_set_ne hj]; exact h1, h2⟩
/-- what a suite wants behind: nothing may leave it -/
def sufN (i : Nat) (D : Nx) : Nx := { nx := fun ρ h => D.nx (ρ.set i none) h, rt := D.rt, bk := fun ρ h => D.bk (ρ.set i none) h, ct := fun ρ h => D.ct (ρ.set i none) h, ex := fun _ _ _ => False }
/-- the suite's soundness: slot i holds the exception x, at a -/
def SSuite (X : Cx) (i : Nat) (suite : List Stmt) (sf : Ex → WS) : Prop :=
  ∀ (a : Addr) (oe : Obj) (cls : Value) (d : Option Addr) (pn : List (Addr × Obj)), Zc cls d oe → (∃ vs, oe.data = .fields vs) →
    ∃ t, PSs (X.suite a ((a, oe) :: pn)) suite t ∧ ∀ x σ H as ρ h D D', EnvR X.K as H ρ σ → σ[i]? = some (some (.ref a)) → HeapR X.K as H h → ExR X.K X.mg as H cls d x → sf x ρ h D → STo X WF0 as H D D' → t D' σ H
/-- the canonical reading of a suite -/
def cSu (K : Frag) (mg : Str → Option Value) (i : Nat) (sf : Ex → WS) (X : Cx) (a : Addr) (cls : Value) (d : Option Addr) : TS := fun D' σ H => ∃ x as ρ h D, EnvR K as H ρ σ ∧ σ[i]? = some (some (.ref a)) ∧ HeapR K as H h ∧ ExR K mg as H cls d x ∧ sf x ρ h D ∧ STo X WF0 as H D D'
theorem pss_mono {X : Cx} {b : List Stmt} {t u : TS} (h : PSs X b t) (i : ∀ D σ H, u D σ H → t D σ H) : PSs X b u := ⟨fun pins s σ H D I q => h.run pins s σ H D I (i D σ H q)⟩
/-! ### in a suite: the held exception's field, and what it is one of -/
abbrev XE' := Ex → WE
section
variable (X : Cx) (i : Nat)
/-- slot i holds the exception -/
def Hold (a : Addr) (cls : Value) (d : Option Addr) (x : Ex) (σ : L2.St) (as : List Addr) (H : Hp) : Prop := σ[i]? = some (some (.ref a)) ∧ ExR X.K X.mg as H cls d x
def SXE (e : Expr) (fe : XE') : Prop := ∀ (a : Addr) (oe : Obj) (cls : Value) (d : Option Addr) (pn : List (Addr × Obj)), Zc cls d oe → (∃ vs, oe.data = .fields vs) →
  ∃ t, PE (X.suite a ((a, oe) :: pn)) e t ∧ ∀ x σ H as ρ h Q E QV, EnvR X.K as H ρ σ → HeapR X.K as H h → Hold X i a cls d x σ as H → fe x ρ h Q E → KTo X as H Q QV → t σ H QV
def SXT (e : Expr) (fe : Ex → WT) : Prop := ∀ (a : Addr) (oe : Obj) (cls : Value) (d : Option Addr) (pn : List (Addr × Obj)), Zc cls d oe → (∃ vs, oe.data = .fields vs) →
  ∃ t, PT (X.suite a ((a, oe) :: pn)) e t ∧ ∀ x σ H as ρ h Q E QV, EnvR X.K as H ρ σ → HeapR X.K as H h → Hold X i a cls d x σ as H → fe x ρ h Q E → TTo X as H Q QV → t σ H QV
def SXW (e : Expr) (fe : Ex → WT) : Prop := ∀ (a : Addr) (oe : Obj) (cls : Value) (d : Option Addr) (pn : List (Addr × Obj)), Zc cls d oe → (∃ vs, oe.data = .fields vs) →
  ∃ t, PW (X.suite a ((a, oe) :: pn)) e t ∧ ∀ x σ H as ρ h Q E QV, EnvR X.K as H ρ σ → HeapR X.K as H h → Hold X i a cls d x σ as H → fe x ρ h Q E → TTo X as H Q QV → t σ H QV
def SXA (e : List Expr) (fe : Ex → WA) : Prop := ∀ (a : Addr) (oe : Obj) (cls : Value) (d : Option Addr) (pn : List (Addr × Obj)), Zc cls d oe → (∃ vs, oe.data = .fields vs) →
  ∃ t, PA (X.suite a ((a, oe) :: pn)) e t ∧ ∀ x σ H as ρ h Q E QV, EnvR X.K as H ρ σ → HeapR X.K as H h → Hold X i a cls d x σ as H → fe x ρ h Q E → ATo X as H Q QV → t σ H QV
end
section
variable {X : Cx} {i : Nat} {a' : Expr} {n : Str} {pos p : Pos} {e b : Expr} {es rest : List Expr} {fe fb : XE'} {ga : Ex → WA} {ft gt : Ex → WT}
theorem Hold.later {a : Addr} {cls : Value} {d : Option Addr} {x : Ex} {σ : L2.St} {as as1 : List Addr} {H H1 : Hp} (l : Later as H as1 H1) (h : Hold X i a cls d x σ as H) : Hold X i a cls d x σ as1 H1 := ⟨h.1, h.2.later l⟩
/-- e.f, e of the class cn -/
def xFld (cn f : Str) : XE' := fun x _ h Q _ => x.cls = cn ∧ ∃ y, x.fld = some (f, y) ∧ Q y h
theorem SXE.fld {C : Addr} {cn : Str} (T : XfC X.K C) (gC : X.mg cn = some (.ref C)) (f : Str) (hno : PySem.W.findIn X.K (.ref C) f = some none) (hN : X.N[i]? = some n) (hv : Vis X.env.scope n) (hd : (n == ("__debug__" : Str)) = false := by decide) (hcd : (n == ("__classdict__" : Str)) = false := by decide)
    (hb : attributeBase (.Name n p) f X.env (eval (.Name n p) X.env) = eval (.Name n p) X.env := by rfl) : SXE X i (.Attribute (.Name n p) f pos) (xFld cn f) := by
  intro a oe cls d pn hz hf
  refine ⟨_, pe_xf T hno hz hf (pe_var (i := i) hN hv hd hcd) hb, fun x σ H as ρ h Q E QV eR hR ho hq k => ?_⟩
  obtain ⟨ec, y, ef, q⟩ := hq
  obtain ⟨C', g1, g2, g3⟩ := ho.2
  rw [ec, gC] at g1
  cases g1
  rw [ef] at g3
  obtain ⟨dd, v, e1, e2, e3, e4⟩ := g3
  refine ⟨.ref a, ho.1, rfl, g2, dd, _, v, e1, e3, by simp [List.lookup], k.q hR q e4⟩
theorem SXA.nil : SXA X i [] (fun _ => aNil) := fun a oe cls d pn hz hd => ⟨_, pa_nil, fun x σ H as ρ h Q E QV eR hR _ hq k => k _ _ _ _ _ hq (Later.refl _ _) hR .nil⟩
theorem SXA.cons (he : SXE X i e fe) (ha : SXA X i es ga) (hs : starEach (e :: es) X.env = (false, eval e X.env) :: starEach es X.env := by rfl) : SXA X i (e :: es) (fun x => aCons (fe x) (ga x)) := by
  intro a oe cls d pn hz hd
  obtain ⟨_, pe, se⟩ := he a oe cls d pn hz hd
  obtain ⟨_, pa, sa⟩ := ha a oe cls d pn hz hd
  refine ⟨_, pa_cons pe pa hs, fun x σ H as ρ h Q E QV eR hR ho hq k => ?_⟩
  refine se x σ H as ρ h _ E _ eR hR ho hq (fun y h1 v as1 H1 hq1 l1 r1 rv => ?_)
  refine sa x σ H1 as1 ρ h1 _ E _ (eR.later l1) r1 (ho.later l1) hq1 (fun xs h2 vs as2 H2 hq2 l2 r2 rvs => ?_)
  exact k _ _ _ _ _ hq2 (l1.trans l2) r2 (.cons (rv.later l2) rvs)
theorem SXE.tup {x1} (ha : SXA X i es ga) : SXE X i (.Tuple es x1 pos) (fun x => fTup (ga x)) := by
  intro a oe cls d pn hz hd
  obtain ⟨_, pa, sa⟩ := ha a oe cls d pn hz hd
  refine ⟨_, pe_tup pa, fun x σ H as ρ h Q E QV eR hR ho hq k => ?_⟩
  refine sa x σ H as ρ h _ E _ eR hR ho hq (fun xs h1 vs as1 H1 hq1 l1 r1 rv => ?_)
  split at hq1
  · rename_i ps ep
    have dv := rv.ofAllD ep
    exact ⟨by rw [dv.length]; exact hq1.1, fun p hp => (k.later l1).newTup r1 hq1.2 dv hp⟩
  · exact hq1.elim
theorem SXE.lst (ha : SXA X i es ga) : SXE X i (.List es pos) (fun x => fLst (ga x)) := by
  intro a oe cls d pn hz hd
  obtain ⟨_, pa, sa⟩ := ha a oe cls d pn hz hd
  refine ⟨_, pe_lst pa, fun x σ H as ρ h Q E QV eR hR ho hq k => ?_⟩
  refine sa x σ H as ρ h _ E _ eR hR ho hq (fun xs h1 vs as1 H1 hq1 l1 r1 rv => ?_)
  split at hq1
  · rename_i ps ep
    have dv := rv.ofAllD ep
    exact ⟨by rw [dv.length]; exact hq1.1, fun p hp => (k.later l1).newLst r1 hq1.2 dv hp⟩
  · exact hq1.elim
theorem SXT.val (he : SXE X i e fe) (hp : ∀ whole, isTrue e X.env whole = (do let v ← whole; standAt e.pos; holding [v] (truthy v)) := by intro _; rfl) : SXT X i e (fun x => tVal (fe x)) := by
  intro a oe cls d pn hz hd
  obtain ⟨_, pe, se⟩ := he a oe cls d pn hz hd
  refine ⟨_, pt_val pe hp, fun x σ H as ρ h Q E QV eR hR ho hq k => ?_⟩
  refine se x σ H as ρ h _ E _ eR hR ho hq (fun y h1 v as1 H1 hq1 l1 r1 rv => ?_)
  split at hq1
  · rw [rel_bl rv]
    exact ⟨_, rfl, k _ _ _ _ hq1 l1 r1⟩
  · exact hq1.elim
theorem SXW.pt (h : SXW X i e ft) : SXT X i e ft := fun a oe cls d pn hz hd => let ⟨_, p, s⟩ := h a oe cls d pn hz hd; ⟨_, p.pt, s⟩
theorem SXE.bin {op : CmpOp} {rV : Cx → R2} {r : WR2} (ho' : ∀ X', OpR X' (compareOp op) (rV X')) (c : Cp2 X (rV X) r) (hK : ∀ X' : Cx, X'.K = X.K → rV X' = rV X) (he : SXE X i e fe) (hb : SXE X i b fb) (hm : behindInMarks op b = false) : SXE X i (.Compare e [op] [b] pos) (fun x => fBin r (fe x) (fb x)) := by
  intro a oe cls d pn hz hd
  obtain ⟨_, pe, se⟩ := he a oe cls d pn hz hd
  obtain ⟨_, pb, sb⟩ := hb a oe cls d pn hz hd
  refine ⟨_, pe_cmpR (ho' _) pe pb hm, fun x σ H as ρ h Q E QV eR hR ho hq k => ?_⟩
  rw [hK (X.suite a ((a, oe) :: pn)) rfl]
  refine se x σ H as ρ h _ E _ eR hR ho hq (fun y h1 v as1 H1 hq1 l1 r1 rv => ?_)
  refine sb x σ H1 as1 ρ h1 _ E _ (eR.later l1) r1 (ho.later l1) hq1 (fun z h2 w as2 H2 hq2 l2 r2 rw' => ?_)
  exact c y z h2 Q v w as2 H2 QV (rv.later l2) rw' r2 hq2 (k.later (l1.trans l2))
end
end V2
set_option Elab.async false
set_option linter.all false
set_option maxRecDepth 100000
set_option maxHeartbeats 4000000
namespace V2
open PySem PySem.Spec PyProof.Rows L2
open PySem.W (Frag)
/-- the script as data -/
def scriptD (ns : List Int) : D := .d (.list (ns.map PyData.int))
/-- the law over data: it says True, nothing is raised -/
def Says (F : WF) (ns : List Int) : Prop := F [scriptD ns] [] (fun y _ => y = .d (.bool true)) noX
end V2
set_option Elab.async false
set_option linter.all false
set_option maxRecDepth 100000
set_option maxHeartbeats 4000000
namespace V2
open PySem PySem.Spec PyProof.Rows L2
open PySem.W (Frag)
/-- a def's facts as they are found in the written part -/
structure DefAt (K : Frag) (mg : Str → Option Value) (x : Str) (st : Stmt) (f : Addr) (fd : FuncData) : Prop where
  F : Fun K x x st f fd
  gl : mg x = some (.ref f)
  kp : PySem.W.keepIn K (.ref f) = true
section
variable {P : Program} {w : World} {K : Frag} {mg : Str → Option Value} {base : Heap}
/-- a call's facts in short -/
theorem SE.fn {X : Cx} {W : WX} {k j : Nat} {f : Addr} {fd : FuncData} {ps : List Str} {F : WF} {x : Str} {st : Stmt} {p pos : Pos} {e : Expr} {es : List Expr} {ga : WA} (D : DefAt X.K X.mg x st f fd) (G : FnG X.prog X.w X.K X.mg X.base j f fd ps F)
    (hlen : ∀ xs ho Q E, F xs ho Q E → xs.length = ps.length) (hr : Room k X.A) (hj : j ≤ k) (hgu : X.A.guards = some []) (tk : Takes X W) (hg : Gl X x) (hb : Binds X.K fd ps []) (ha : SA X W (e :: es) ga) (hdb : (x == ("__debug__" : Str)) = false := by decide)
    (he : starEach (e :: es) X.env = (false, eval e X.env) :: starEach es X.env := by rfl) (hpl : (backTo pos (starEach es X.env)).any (·.1) = false := by rfl) : SE X W (.Call (.Name x p) (e :: es) [] pos) (fFn F ga) :=
  .call G hlen (hr.mono hj) hgu tk hg D.gl D.kp hb ha hdb he hpl
theorem SE.fnK {X : Cx} {W : WX} {k j : Nat} {f : Addr} {fd : FuncData} {ps : List Str} {F : WF} {x : Str} {st : Stmt} {p pos : Pos} {kws : List Keyword} {g : WA} {ks : List Str} {ix : List Nat} (D : DefAt X.K X.mg x st f fd) (G : FnG X.prog X.w X.K X.mg X.base j f fd ps F)
    (hlen : ∀ xs ho Q E, F xs ho Q E → xs.length = ps.length) (hr : Room k X.A) (hj : j ≤ k) (hgu : X.A.guards = some []) (tk : Takes X W) (hg : Gl X x) (hb : KwB X.K fd ps ks ix) (ha : SKw X W kws g)
    (hall : (backToKw pos (keywordEach kws X.env)).all (·.1.isSome) = true := by rfl) (hks : (backToKw pos (keywordEach kws X.env)).filterMap (·.1) = ks := by rfl) (hdb : (x == ("__debug__" : Str)) = false := by decide)
    (hpl : ((backTo pos (starEach [] X.env)).any (·.1) || (backToKw pos (keywordEach kws X.env)).any (·.1.isNone)) = false := by rfl) : SE X W (.Call (.Name x p) [] kws pos) (fFnK ix ks.length F g) :=
  .callK G hlen (hr.mono hj) hgu tk hg D.gl D.kp hb ha hall hks hdb hpl
end
end V2
namespace V2
open PySem PySem.Spec PyProof.Rows L2
open PySem.W (Frag)
section
variable {P : Program} {w : World} {K : Frag} {mg : Str → Option Value} {base : Heap} {N : List Str} {qual : Str} {sc : Scope} {f : Addr} {cdv : Value} {A : Around} {outer : List Env} {s : Shared} {H : Hp} {E : XK}
/-- in a def's body: what it lets out is taken; nothing stands in a loop's way -/
theorem tkD : Takes (cxOf (L2.CX P w) P w K mg base N qual sc f cdv A outer s H E) (fun cls d _ H' => E cls d H') := takes_of rfl rfl rfl rfl
theorem poD : PassesOwn (model P w) (cxOf (L2.CX P w) P w K mg base N qual sc f cdv A outer s H E).A (cxOf (L2.CX P w) P w K mg base N qual sc f cdv A outer s H E).env (cxOf (L2.CX P w) P w K mg base N qual sc f cdv A outer s H E).xe := passes_of rfl
theorem tk0 {X : Cx} : Takes X WF0 := takes0
end
end V2
namespace V2
open PySem PySem.Spec PyProof.Rows L2
open PySem.W (Frag)
/-- a clause that takes one class, and is reached by it alone -/
def only (cn : Str) (s : Str) : Option Bool := if s = cn then some true else none
end V2
set_option Elab.async false
set_option linter.all false
set_option maxRecDepth 100000
set_option maxHeartbeats 4000000
/-! ## Going through a reading, step by step -/
namespace V2
open PySem PySem.Spec PyProof.Rows L2
open PySem.W (Frag)
inductive GetAt : Nat → En → D → Prop
  | zero {d : D} {l : En} : GetAt 0 (some d :: l) d
  | succ {n : Nat} {a : Option D} {l : En} {d : D} : GetAt n l d → GetAt (n + 1) (a :: l) d
inductive SetAt : Nat → En → D → En → Prop
  | zero {a : Option D} {d : D} {l : En} : SetAt 0 (a :: l) d (some d :: l)
  | succ {n : Nat} {a : Option D} {d : D} {l l' : En} : SetAt n l d l' → SetAt (n + 1) (a :: l) d (a :: l')
theorem GetAt.eq {n : Nat} {l : En} {d : D} (h : GetAt n l d) : l[n]? = some (some d) := by
  induction h with
  | zero => rfl
  | succ _ ih => rw [List.getElem?_cons_succ]; exact ih
theorem SetAt.eq {n : Nat} {l l' : En} {d : D} (h : SetAt n l d l') : l.set n (some d) = l' := by
  induction h with
  | zero => rfl
  | succ _ ih => rw [List.set_cons_succ, ih]
inductive Pad : Nat → En → Prop
  | zero : Pad 0 []
  | succ {n : Nat} {l : En} : Pad n l → Pad (n + 1) (none :: l)
inductive Pre : List D → En → En → Prop
  | nil {l : En} : Pre [] l l
  | cons {x : D} {xs : List D} {l l' : En} : Pre xs l l' → Pre (x :: xs) l (some x :: l')
theorem Pad.eq {n : Nat} {l : En} (p : Pad n l) : l = List.replicate n none := by
  induction p with
  | zero => rfl
  | succ _ ih => rw [List.replicate_succ, ih]
theorem Pre.eq {xs : List D} {l l' : En} (p : Pre xs l l') : xs.map some ++ l = l' := by
  induction p with
  | nil => rfl
  | cons _ ih => rw [List.map_cons, List.cons_append, ih]
section
variable {ρ ρ1 ρ2 ρ3 : En} {h : Ho} {Q : KD} {E : XD} {d x y z : D} {fa fb : WE} {ga : WA} {r : WR2} {nx : En → Ho → Prop} {rt : KD} {bk ct : En → Ho → Prop} {ex : Ex → En → Ho → Prop} {f g : WS} {i j : Int} {t u : WT} {b : Bool} {QA : List D → Ho → Prop} {QT : Bool → Ho → Prop}
theorem i_var {n : Nat} (e : GetAt n ρ d) (k : Q d h) : fVar n ρ h Q E := by
  unfold fVar
  rw [e.eq]
  exact k
theorem i_c {p : PyData} (k : Q (.d p) h) : fC p ρ h Q E := k
theorem i_nil (k : QA [] h) : aNil ρ h QA E := k
theorem i_cons (k : fa ρ h (fun x h1 => ga ρ h1 (fun xs h2 => QA (x :: xs) h2) E) E) : aCons fa ga ρ h QA E := k
theorem i_bin (k : fa ρ h (fun x h1 => fb ρ h1 (fun y h2 => r x y h2 Q) E) E) : fBin r fa fb ρ h Q E := k
theorem i_ints {C : Int → Int → Prop} {gg : Int → Int → PyData} (c : C i j) (k : Q (.d (gg i j)) h) : rInts C gg (.d (.int i)) (.d (.int j)) h Q := ⟨c, k⟩
theorem i_ints0 {gg : Int → Int → PyData} (k : Q (.d (gg i j)) h) : rInts (fun _ _ => True) gg (.d (.int i)) (.d (.int j)) h Q := ⟨trivial, k⟩
theorem i_add (k : Q (.d (.int (i + j))) h) : rAdd2 (.d (.int i)) (.d (.int j)) h Q := k
theorem i_eqi (k : Q (.d (.bool (decide (i = j)))) h) : rEq2 (.d (.int i)) (.d (.int j)) h Q := k
theorem i_nei (k : Q (.d (.bool (!decide (i = j)))) h) : rNe2 (.d (.int i)) (.d (.int j)) h Q := k
theorem i_eqs {i j : Str} (k : Q (.d (.bool (decide (i = j)))) h) : rEq2 (.d (.str i)) (.d (.str j)) h Q := k
theorem i_nes {i j : Str} (k : Q (.d (.bool (!decide (i = j)))) h) : rNe2 (.d (.str i)) (.d (.str j)) h Q := k
theorem i_eqd {p q : PyData} (ex : datum h x = some p) (ey : datum h y = some q) (hp : SeqAt.shaped p = true) (hq : SeqAt.shaped q = true) (ni : (∀ i, x ≠ .d (.int i)) ∧ ∀ i, x ≠ .d (.str i)) (k : Q (.d (.bool (PyData.eqv p q))) h) : rEq2 x y h Q := by
  unfold rEq2
  split
  · exact (ni.1 _ rfl).elim
  · exact (ni.2 _ rfl).elim
  · rw [ex, ey]
    exact ⟨hp, hq, k⟩
theorem i_ned {p q : PyData} (ex : datum h x = some p) (ey : datum h y = some q) (hp : SeqAt.shaped p = true) (hq : SeqAt.shaped q = true) (ni : (∀ i, x ≠ .d (.int i)) ∧ ∀ i, x ≠ .d (.str i)) (k : Q (.d (.bool (!PyData.eqv p q))) h) : rNe2 x y h Q := by
  unfold rNe2
  split
  · exact (ni.1 _ rfl).elim
  · exact (ni.2 _ rfl).elim
  · rw [ex, ey]
    exact ⟨hp, hq, k⟩
theorem i_un {gg : Int → PyData} (k : fa ρ h (fun x h1 => ∃ i, x = .d (.int i) ∧ Q (.d (gg i)) h1) E) : fUn gg fa ρ h Q E := by
  have e : (fun (x : D) (h1 : Ho) => ∃ i, x = .d (.int i) ∧ Q (.d (gg i)) h1) = (fun x h1 => match x with
      | .d (.int i) => Q (.d (gg i)) h1
      | _ => False) := by
    funext x h1
    apply propext
    constructor
    · rintro ⟨i, rfl, q⟩; exact q
    · split
      · exact fun q => ⟨_, rfl, q⟩
      · exact False.elim
  rw [e] at k
  exact k
theorem i_val (k : fa ρ h (fun x h1 => ∃ b, x = .d (.bool b) ∧ QT b h1) E) : tVal fa ρ h QT E := by
  have e : (fun (x : D) (h1 : Ho) => ∃ b, x = .d (.bool b) ∧ QT b h1) = (fun x h1 => match x with
      | .d (.bool b) => QT b h1
      | _ => False) := by
    funext x h1
    apply propext
    constructor
    · rintro ⟨i, rfl, q⟩; exact q
    · split
      · exact fun q => ⟨_, rfl, q⟩
      · exact False.elim
  rw [e] at k
  exact k
theorem i_isb {P : Bool → Prop} (k : P b) : ∃ b', D.d (.bool b) = .d (.bool b') ∧ P b' := ⟨b, rfl, k⟩
theorem i_isi {P : Int → Prop} (k : P i) : ∃ i', D.d (.int i) = .d (.int i') ∧ P i' := ⟨i, rfl, k⟩
theorem i_isr {P : Int → Prop} (k : P i) : ∃ i', [D.d (.int i)] = [.d (.int i')] ∧ P i' := ⟨i, rfl, k⟩
theorem i_and2 (k : t ρ h (fun b h1 => if b = true then u ρ h1 QT E else QT false h1) E) : tAnd2 t u ρ h QT E := k
theorem i_or2 (k : t ρ h (fun b h1 => if b = true then QT true h1 else u ρ h1 QT E) E) : tOr2 t u ρ h QT E := k
theorem i_not2 (k : t ρ h (fun b h1 => QT (!b) h1) E) : tNot2 t ρ h QT E := k
theorem i_fif (k : t ρ h (fun b h1 => if b = true then fa ρ h1 Q E else fb ρ h1 Q E) E) : fIf t fa fb ρ h Q E := k
theorem i_ifT {p q : Prop} (e : b = true) (k : p) : if b = true then p else q := by rw [if_pos e]; exact k
theorem i_ifF {p q : Prop} (e : b = false) (k : q) : if b = true then p else q := by rw [e, if_neg (by decide)]; exact k
theorem i_ite {p q : Prop} (k1 : b = true → p) (k2 : b = false → q) : if b = true then p else q := by
  cases b with
  | true => rw [if_pos rfl]; exact k1 rfl
  | false => rw [if_neg (by decide)]; exact k2 rfl
inductive AllD : List D → List PyData → Prop
  | nil : AllD [] []
  | cons {p : PyData} {xs : List D} {ps : List PyData} : AllD xs ps → AllD (.d p :: xs) (p :: ps)
theorem AllD.eq {xs : List D} {ps : List PyData} (a : AllD xs ps) : allD xs = some ps := by
  induction a with
  | nil => rfl
  | cons _ ih => simp only [allD, ih, Option.map_some, Option.bind_some]
theorem allD_iff : ∀ {xs : List D} {ps : List PyData}, allD xs = some ps → AllD xs ps
  | [], ps, e => by cases e; exact .nil
  | .d p :: xs, ps, e => by
    simp only [allD, Option.map_eq_some_iff] at e
    obtain ⟨qs, e1, rfl⟩ := e
    exact .cons (allD_iff e1)
  | .loc _ :: xs, ps, e => by cases e
  | .tp _ :: xs, ps, e => by cases e
  | .ob _ _ :: xs, ps, e => by cases e
  | .pr _ _ :: xs, ps, e => by cases e
theorem m_allD {P : List PyData → Ho → Prop} : (fun (xs : List D) (h1 : Ho) => ∃ ps, AllD xs ps ∧ P ps h1) = (fun xs h1 => match allD xs with
    | some ps => P ps h1
    | none => False) := by
  funext xs h1
  apply propext
  constructor
  · rintro ⟨ps, a, q⟩
    rw [a.eq]
    exact q
  · split
    · rename_i ps e
      exact fun q => ⟨ps, allD_iff e, q⟩
    · exact False.elim
theorem i_tup (k : ga ρ h (fun xs h1 => ∃ ps, AllD xs ps ∧ ps.length ≤ sizeLine ∧ Q (.d (.tuple ps)) h1) E) : fTup ga ρ h Q E := by
  rw [m_allD (P := fun ps h1 => ps.length ≤ sizeLine ∧ Q (.d (.tuple ps)) h1)] at k
  exact k
theorem i_lst (k : ga ρ h (fun xs h1 => ∃ ps, AllD xs ps ∧ ps.length ≤ sizeLine ∧ Q (.d (.list ps)) h1) E) : fLst ga ρ h Q E := by
  rw [m_allD (P := fun ps h1 => ps.length ≤ sizeLine ∧ Q (.d (.list ps)) h1)] at k
  exact k
theorem i_all {xs : List D} {ps : List PyData} {P : List PyData → Prop} (a : AllD xs ps) (l : ps.length ≤ sizeLine) (k : P ps) : ∃ ps, AllD xs ps ∧ ps.length ≤ sizeLine ∧ P ps := ⟨ps, a, l, k⟩
theorem i_loc (k : ga ρ h (fun xs h1 => xs.length ≤ sizeLine ∧ Q (.loc h1.length) (h1 ++ [.lst xs])) E) : fLoc ga ρ h Q E := k
/-- subscripts -/
theorem i_ix {xs : List D} (e : items h x = some xs) (ea : L2.atI xs i = some y) (k : Q y h) : rIx2 x (.d (.int i)) h Q := by
  simp only [rIx2, e, ea]
  exact k
/-- calls -/
theorem i_call {r : WR} (k : ga ρ h (fun xs h1 => r xs h1 Q) E) : fCall r ga ρ h Q E := k
theorem i_fn {F : WF} (k : ga ρ h (fun xs h1 => F xs h1 Q E) E) : fFn F ga ρ h Q E := k
theorem i_fnk {F : WF} {ix : List Nat} {n : Nat} (k : ga ρ h (fun xs h1 => xs.length = n ∧ ∃ ys, V2.pick ix xs = ys ∧ F ys h1 Q E) E) : fFnK ix n F ga ρ h Q E := by
  have e : (fun (xs : List D) (h1 : Ho) => xs.length = n ∧ ∃ ys, V2.pick ix xs = ys ∧ F ys h1 Q E) = (fun xs h1 => xs.length = n ∧ F (V2.pick ix xs) h1 Q E) := by
    funext xs h1
    apply propext
    exact ⟨fun ⟨a, ys, e, q⟩ => ⟨a, by rw [e]; exact q⟩, fun ⟨a, q⟩ => ⟨a, _, rfl, q⟩⟩
  rw [e] at k
  exact k
theorem i_pk1 {P : List D → Prop} (k : P [x]) : [x].length = 1 ∧ ∃ ys, V2.pick [0] [x] = ys ∧ P ys := ⟨rfl, _, rfl, k⟩
theorem i_pk2 {P : List D → Prop} (k : P [y, x]) : [x, y].length = 2 ∧ ∃ ys, V2.pick [1, 0] [x, y] = ys ∧ P ys := ⟨rfl, _, rfl, k⟩
theorem i_abs (k : Q (.d (.int (if i < 0 then -i else i))) h) : rAbs [.d (.int i)] h Q := k
theorem i_toint (k : Q (.d (.int i)) h) : rInt1 [.d (.int i)] h Q := k
theorem i_gcd (k : Q (.d (.int (Nat.gcd i.natAbs j.natAbs : Nat))) h) : rGcd2 [.d (.int i), .d (.int j)] h Q := k
theorem i_len {xs : List D} (e : items h x = some xs) (k : Q (.d (.int xs.length)) h) : rLen [x] h Q := by
  simp only [rLen, e]
  exact k
theorem i_repr {p : PyData} (hs : p.showable = true) (hd : p.depth < 60) (hz : p.shown.length ≤ sizeLine) (k : Q (.d (.str p.shown)) h) : rRepr [.d p] h Q := ⟨hs, hd, hz, k⟩
theorem i_fand (k : fa ρ h (fun x h1 => ∃ b, x = .d (.bool b) ∧ if b = true then fb ρ h1 Q E else Q (.d (.bool false)) h1) E) : fAnd fa fb ρ h Q E := by
  have e : (fun (x : D) (h1 : Ho) => ∃ b, x = .d (.bool b) ∧ if b = true then fb ρ h1 Q E else Q (.d (.bool false)) h1) = (fun x h1 => match x with
      | .d (.bool true) => fb ρ h1 Q E
      | .d (.bool false) => Q (.d (.bool false)) h1
      | _ => False) := by
    funext x h1
    apply propext
    constructor
    · rintro ⟨b, rfl, q⟩
      cases b with
      | true => simpa using q
      | false => simpa using q
    · split
      · exact fun q => ⟨true, rfl, by simpa using q⟩
      · exact fun q => ⟨false, rfl, by simpa using q⟩
      · exact False.elim
  rw [e] at k
  exact k
/-- statements -/
theorem i_mir {xs : List D} {n m : Nat} {l : En} (hl : xs.length = m) (p : Pad (n - m) l) (q : Pre xs l ρ) (k : f ρ h ⟨fun _ h => Q (.d .none) h, Q, fun _ _ => False, fun _ _ => False, fun x _ h => E x h⟩) : mir n m f xs h Q E := by
  refine ⟨hl, ?_⟩
  rw [← p.eq, q.eq]
  exact k
theorem i_next (k : nx ρ h) : sNext ρ h ⟨nx, rt, bk, ct, ex⟩ := k
theorem i_ret (k : fa ρ h rt (fun x h => ex x ρ h)) : sRet fa ρ h ⟨nx, rt, bk, ct, ex⟩ := k
theorem i_drop (k : fa ρ h (fun _ h1 => nx ρ h1) (fun x h => ex x ρ h)) : sDrop fa ρ h ⟨nx, rt, bk, ct, ex⟩ := k
theorem i_brk (k : bk ρ h) : sBrk ρ h ⟨nx, rt, bk, ct, ex⟩ := k
theorem i_if (k : t ρ h (fun b h1 => if b = true then f ρ h1 ⟨nx, rt, bk, ct, ex⟩ else g ρ h1 ⟨nx, rt, bk, ct, ex⟩) (fun x h => ex x ρ h)) : sIf t f g ρ h ⟨nx, rt, bk, ct, ex⟩ := k
theorem i_asgn {n : Nat} (k : fa ρ h (fun x h1 => ∃ ρ1, SetAt n ρ x ρ1 ∧ nx ρ1 h1) (fun x h => ex x ρ h)) (hn : n < ρ.length) : sAsg fa (gNm n) ρ h ⟨nx, rt, bk, ct, ex⟩ := by
  have e : (fun (x : D) (h1 : Ho) => ∃ ρ1, SetAt n ρ x ρ1 ∧ nx ρ1 h1) = fun x h1 => nx (ρ.set n (some x)) h1 := by
    funext x h1
    apply propext
    constructor
    · rintro ⟨ρ1, s, q⟩
      rw [s.eq]
      exact q
    · intro q
      refine ⟨_, ?_, q⟩
      clear k q
      induction n generalizing ρ with
      | zero =>
        cases ρ with
        | nil => exact absurd hn (by simp)
        | cons a l => exact .zero
      | succ n ih =>
        cases ρ with
        | nil => exact absurd hn (by simp)
        | cons a l => exact .succ (ih (by simpa using hn))
  rw [e] at k
  exact k
theorem i_set {n : Nat} {P : En → Prop} (s : SetAt n ρ x ρ1) (k : P ρ1) : ∃ ρ1, SetAt n ρ x ρ1 ∧ P ρ1 := ⟨ρ1, s, k⟩
/-- a, b = a pair -/
theorem i_asg2 {n m : Nat} (k : fa ρ h (fun x h1 => ∃ p q ρ1 ρ2, x = .d (.tuple [p, q]) ∧ SetAt n ρ (.d p) ρ1 ∧ SetAt m ρ1 (.d q) ρ2 ∧ nx ρ2 h1) (fun x h => ex x ρ h)) (mo : ∀ (P P' : KD), (∀ x h, P x h → P' x h) → fa ρ h P (fun x h => ex x ρ h) → fa ρ h P' (fun x h => ex x ρ h)) : sAsg fa (gTp 2 (gsCons (gNm n) (gsCons (gNm m) gsNil))) ρ h ⟨nx, rt, bk, ct, ex⟩ := by
  refine mo _ _ (fun x h1 => ?_) k
  rintro ⟨p, q, ρ1, ρ2, rfl, s1, s2, hq⟩
  have e : gTp 2 (gsCons (gNm n) (gsCons (gNm m) gsNil)) (.d (.tuple [p, q])) h1 ρ = some ρ2 := by
    simp only [gTp, items, List.map_cons, List.map_nil, List.length_cons, List.length_nil, if_true, gsCons, gNm, gsNil, Option.bind_some, s1.eq, s2.eq]
  rw [e]
  exact hq
theorem mo_var {n : Nat} (P P' : KD) (p : ∀ x h, P x h → P' x h) : fVar n ρ h P E → fVar n ρ h P' E := by
  unfold fVar
  split
  · exact p _ _
  · exact id
theorem i_asg2v {n m l : Nat} {p q : PyData} (e : GetAt l ρ (.d (.tuple [p, q]))) (s1 : SetAt n ρ (.d p) ρ1) (s2 : SetAt m ρ1 (.d q) ρ2) (k : nx ρ2 h) : sAsg (fVar l) (gTp 2 (gsCons (gNm n) (gsCons (gNm m) gsNil))) ρ h ⟨nx, rt, bk, ct, ex⟩ :=
  i_asg2 (i_var e ⟨p, q, ρ1, ρ2, rfl, s1, s2, k⟩) fun P P' hp => mo_var P P' hp
theorem i_par {n m : Nat} (k : ga ρ h (fun xs h1 => ∃ x y ρ1 ρ2, xs = [x, y] ∧ SetAt n ρ x ρ1 ∧ SetAt m ρ1 y ρ2 ∧ nx ρ2 h1) (fun x h => ex x ρ h)) (hn : n < ρ.length) (hm : m < ρ.length) : sPar n m ga ρ h ⟨nx, rt, bk, ct, ex⟩ := by
  have st : ∀ (n : Nat) (ρ : En) (x : D), n < ρ.length → SetAt n ρ x (ρ.set n (some x)) := by
    intro n
    induction n with
    | zero =>
      intro ρ x hn
      cases ρ with
      | nil => exact absurd hn (by simp)
      | cons a l => exact .zero
    | succ n ih =>
      intro ρ x hn
      cases ρ with
      | nil => exact absurd hn (by simp)
      | cons a l => exact .succ (ih _ _ (by simpa using hn))
  have e : (fun (xs : List D) (h1 : Ho) => ∃ x y ρ1 ρ2, xs = [x, y] ∧ SetAt n ρ x ρ1 ∧ SetAt m ρ1 y ρ2 ∧ nx ρ2 h1) = (fun xs h1 => match xs with
      | [x, y] => nx ((ρ.set n (some x)).set m (some y)) h1
      | _ => False) := by
    funext xs h1
    apply propext
    constructor
    · rintro ⟨x, y, ρ1, ρ2, rfl, s1, s2, hq⟩
      simp only
      rw [s1.eq, s2.eq]
      exact hq
    · split
      · intro hq
        exact ⟨_, _, _, _, rfl, st _ _ _ hn, st _ _ _ (by simpa using hm), hq⟩
      · exact False.elim
  rw [e] at k
  exact k
theorem i_pair {n m : Nat} {P : En → Prop} (s1 : SetAt n ρ x ρ1) (s2 : SetAt m ρ1 y ρ2) (k : P ρ2) : ∃ x' y' ρ1 ρ2, [x, y] = [x', y'] ∧ SetAt n ρ x' ρ1 ∧ SetAt m ρ1 y' ρ2 ∧ P ρ2 := ⟨x, y, ρ1, ρ2, rfl, s1, s2, k⟩
theorem i_par3 {n m l : Nat} (k : ga ρ h (fun xs h1 => ∃ x y z ρ1 ρ2 ρ3, xs = [x, y, z] ∧ SetAt n ρ x ρ1 ∧ SetAt m ρ1 y ρ2 ∧ SetAt l ρ2 z ρ3 ∧ nx ρ3 h1) (fun x h => ex x ρ h)) (hn : n < ρ.length) (hm : m < ρ.length) (hl : l < ρ.length) : sPar3 n m l ga ρ h ⟨nx, rt, bk, ct, ex⟩ := by
  have st : ∀ (n : Nat) (ρ : En) (x : D), n < ρ.length → SetAt n ρ x (ρ.set n (some x)) := by
    intro n
    induction n with
    | zero =>
      intro ρ x hn
      cases ρ with
      | nil => exact absurd hn (by simp)
      | cons a l => exact .zero
    | succ n ih =>
      intro ρ x hn
      cases ρ with
      | nil => exact absurd hn (by simp)
      | cons a l => exact .succ (ih _ _ (by simpa using hn))
  have e : (fun (xs : List D) (h1 : Ho) => ∃ x y z ρ1 ρ2 ρ3, xs = [x, y, z] ∧ SetAt n ρ x ρ1 ∧ SetAt m ρ1 y ρ2 ∧ SetAt l ρ2 z ρ3 ∧ nx ρ3 h1) = (fun xs h1 => match xs with
      | [x, y, z] => nx (((ρ.set n (some x)).set m (some y)).set l (some z)) h1
      | _ => False) := by
    funext xs h1
    apply propext
    constructor
    · rintro ⟨x, y, z, ρ1, ρ2, ρ3, rfl, s1, s2, s3, hq⟩
      simp only
      rw [s1.eq, s2.eq, s3.eq]
      exact hq
    · split
      · intro hq
        exact ⟨_, _, _, _, _, _, rfl, st _ _ _ hn, st _ _ _ (by simpa using hm), st _ _ _ (by simpa using hl), hq⟩
      · exact False.elim
  rw [e] at k
  exact k
theorem i_trip {n m l : Nat} {P : En → Prop} (s1 : SetAt n ρ x ρ1) (s2 : SetAt m ρ1 y ρ2) (s3 : SetAt l ρ2 z ρ3) (k : P ρ3) : ∃ x' y' z' ρ1 ρ2 ρ3, [x, y, z] = [x', y', z'] ∧ SetAt n ρ x' ρ1 ∧ SetAt m ρ1 y' ρ2 ∧ SetAt l ρ2 z' ρ3 ∧ P ρ3 := ⟨x, y, z, ρ1, ρ2, ρ3, rfl, s1, s2, s3, k⟩
theorem i_raise {cn fld : Str} (k : ga ρ h (fun xs h1 => ∃ y, xs = [y] ∧ ex ⟨cn, some (fld, y)⟩ ρ h1) (fun x h => ex x ρ h)) : sRaise cn fld ga ρ h ⟨nx, rt, bk, ct, ex⟩ := by
  have e : (fun (xs : List D) (h1 : Ho) => ∃ y, xs = [y] ∧ ex ⟨cn, some (fld, y)⟩ ρ h1) = (fun xs h1 => match xs with
      | [y] => ex ⟨cn, some (fld, y)⟩ ρ h1
      | _ => False) := by
    funext xs h1
    apply propext
    constructor
    · rintro ⟨j, rfl, hq⟩; exact hq
    · split
      · exact fun hq => ⟨_, rfl, hq⟩
      · exact False.elim
  rw [e] at k
  exact k
theorem i_one {P : D → Prop} (k : P x) : ∃ y, [x] = [y] ∧ P y := ⟨x, rfl, k⟩
/-- for -/
theorem for_ind {st : Ho → Prop} {wg : WG} {xs : List D} (I : Nat → En → Ho → Prop)
    (hs : ∀ k x ρ h (G : En → Ho → Prop), xs[k]? = some x → I k ρ h → (∀ ρ2 h2, I (k + 1) ρ2 h2 → G ρ2 h2) → ∃ ρ1, wg x h ρ = some ρ1 ∧ f ρ1 h ⟨fun ρ2 h2 => st h2 ∧ G ρ2 h2, rt, nx, fun ρ2 h2 => st h2 ∧ G ρ2 h2, ex⟩)
    (he : ∀ ρ h, I xs.length ρ h → nx ρ h) (h0 : I 0 ρ h) : forGo wg f ⟨nx, rt, bk, ct, ex⟩ st xs ρ h := by
  have aux : ∀ (ys : List D) (k : Nat), (∀ j, ys[j]? = xs[k + j]?) → k + ys.length = xs.length → ∀ ρ h, I k ρ h → forGo wg f ⟨nx, rt, bk, ct, ex⟩ st ys ρ h := by
    intro ys
    induction ys with
    | nil => intro k _ hl ρ h hi; exact he ρ h (by rw [← hl]; simpa using hi)
    | cons y ys ih =>
      intro k hj hl ρ h hi
      obtain ⟨ρ1, e1, e2⟩ := hs k y ρ h (fun ρ2 h2 => forGo wg f ⟨nx, rt, bk, ct, ex⟩ st ys ρ2 h2) (by rw [← Nat.add_zero k, ← hj 0]; rfl) hi (fun ρ2 h2 i2 => ih (k + 1) (fun j => by rw [Nat.add_assoc, Nat.add_comm 1 j, ← hj (j + 1)]; rfl) (by rw [← hl, List.length_cons]; omega) ρ2 h2 i2)
      unfold forGo
      rw [e1]
      exact e2
  exact aux xs 0 (fun j => by rw [Nat.zero_add]) (by simp) ρ h h0
theorem i_for {wi : WI} {wg : WG} (k : wi ρ h (fun xs st h1 => forGo wg f ⟨nx, rt, bk, ct, ex⟩ st xs ρ h1) (fun x h => ex x ρ h)) : sFor wi wg f ρ h ⟨nx, rt, bk, ct, ex⟩ := k
theorem i_range1 {QI : List D → (Ho → Prop) → Ho → Prop} (k : ga ρ h (fun ys h1 => ∃ j, ys = [.d (.int j)] ∧ -(2 ^ 62) ≤ j ∧ j < 2 ^ 62 ∧ QI (rangeD 0 j.toNat) (fun _ => True) h1) E) : iRange1 ga ρ h QI E := by
  have e : (fun (ys : List D) (h1 : Ho) => ∃ j, ys = [.d (.int j)] ∧ -(2 ^ 62) ≤ j ∧ j < 2 ^ 62 ∧ QI (rangeD 0 j.toNat) (fun _ => True) h1) = (fun ys h1 => match ys with
      | [.d (.int j)] => -(2 ^ 62) ≤ j ∧ j < 2 ^ 62 ∧ QI (rangeD 0 j.toNat) (fun _ => True) h1
      | _ => False) := by
    funext ys h1
    apply propext
    constructor
    · rintro ⟨j, rfl, hq⟩; exact hq
    · split
      · exact fun hq => ⟨_, rfl, hq⟩
      · exact False.elim
  rw [e] at k
  exact k
theorem i_iseq {QI : List D → (Ho → Prop) → Ho → Prop} {xs : List D} {n : Nat} (e : GetAt n ρ x) (ei : items h x = some xs) (k : QI xs (stay x xs) h) : iSeq (fVar n) ρ h QI E := by
  refine i_var e ?_
  simp only [ei]
  exact k
/-- comprehensions whose list is data: test and item leave the store alone -/
theorem lc_ind {st : Ho → Prop} {wg : WG} {tt : WT} {te : WE} {hb : Ho} {QH : Ho → Prop} {xs : List D} (I : Nat → List D → Prop) (hst : ∀ h, st h)
    (hs : ∀ k x acc, xs[k]? = some x → I k acc → ∃ ρ1 b, wg x (hb ++ [.lst acc]) ρ = some ρ1 ∧ (∀ P : Bool → Ho → Prop, P b (hb ++ [.lst acc]) → tt ρ1 (hb ++ [.lst acc]) P noX) ∧
      (b = true → ∃ y, (∀ P : KD, P y (hb ++ [.lst acc]) → te ρ1 (hb ++ [.lst acc]) P noX) ∧ acc.length < sizeLine ∧ I (k + 1) (acc ++ [y])) ∧ (b = false → I (k + 1) acc))
    (he : ∀ acc, I xs.length acc → QH (hb ++ [.lst acc])) (h0 : I 0 []) : lcGo wg tt te st hb.length ρ QH xs (hb ++ [.lst []]) := by
  have aux : ∀ (ys : List D) (k : Nat), (∀ j, ys[j]? = xs[k + j]?) → k + ys.length = xs.length → ∀ acc, I k acc → lcGo wg tt te st hb.length ρ QH ys (hb ++ [.lst acc]) := by
    intro ys
    induction ys with
    | nil => intro k _ hl acc hi; exact he acc (by rw [← hl]; simpa using hi)
    | cons y ys ih =>
      intro k hj hl acc hi
      obtain ⟨ρ1, b, e1, e2, e3, e4⟩ := hs k y acc (by rw [← Nat.add_zero k, ← hj 0]; rfl) hi
      have ihk := ih (k + 1) (fun j => by rw [Nat.add_assoc, Nat.add_comm 1 j, ← hj (j + 1)]; rfl) (by rw [← hl, List.length_cons]; omega)
      unfold lcGo
      rw [e1]
      refine e2 _ ?_
      cases b with
      | true =>
        rw [if_pos rfl]
        obtain ⟨z, f1, f2, f3⟩ := e3 rfl
        refine f1 _ ?_
        have g1 : (hb ++ [O.lst acc])[hb.length]? = some (.lst acc) := by simp
        have g2 : (hb ++ [O.lst acc]).set hb.length (.lst (acc ++ [z])) = hb ++ [.lst (acc ++ [z])] := by simp
        simp only [g1, g2]
        exact ⟨f2, hst _, ihk _ f3⟩
      | false =>
        rw [if_neg (by decide)]
        exact ⟨hst _, ihk _ (e4 rfl)⟩
  exact aux xs 0 (fun j => by rw [Nat.zero_add]) (by simp) [] h0
end
end V2
set_option Elab.async false
set_option linter.all false
set_option maxRecDepth 100000
set_option maxHeartbeats 4000000
/-! ## Fractions as data -/
namespace V2
open PySem PySem.Spec PyProof.Rows L2
abbrev fr (q : Rat) : PyData := .tuple [.int q.num, .int q.den]
theorem fr_inj {a b : Rat} (h1 : a.num = b.num) (h2 : (a.den : Int) = b.den) : a = b := Rat.ext h1 (by exact_mod_cast h2)
theorem fr_eqv (a b : Rat) : PyData.eqv (fr a) (fr b) = decide (a = b) := by
  by_cases e : a = b
  · subst e
    simp [fr, PyData.eqv, PyData.eqvAll]
  · rw [decide_eq_false e]
    have : ¬ (a.num = b.num ∧ (a.den : Int) = b.den) := fun z => e (fr_inj z.1 z.2)
    simp only [fr, PyData.eqv, PyData.eqvAll, Bool.and_true, Bool.and_eq_false_iff, beq_eq_false_iff_ne, ne_eq]
    by_cases h1 : a.num = b.num
    · exact .inr fun z => this ⟨h1, z⟩
    · exact .inl h1
/-- no greater than n binary figures -/
def Sz (n : Nat) (q : Rat) : Prop := q.num.natAbs < 2 ^ n ∧ q.den < 2 ^ n
theorem log2_lt {k n : Nat} (hk : 0 < n) (h : k < 2 ^ n) : k.log2 < n := by
  by_cases z : k = 0
  · subst z; have e : Nat.log2 0 = 0 := by decide
    rw [e]; exact hk
  · exact (Nat.log2_lt z).mpr h
theorem Sz.mono {n m : Nat} {q : Rat} (s : Sz n q) (h : n ≤ m) : Sz m q :=
  ⟨Nat.lt_of_lt_of_le s.1 (Nat.pow_le_pow_right (by decide) h), Nat.lt_of_lt_of_le s.2 (Nat.pow_le_pow_right (by decide) h)⟩
theorem Sz.neg {n : Nat} {q : Rat} (s : Sz n q) : Sz n (-q) := ⟨by rw [Rat.neg_num, Int.natAbs_neg]; exact s.1, by rw [Rat.neg_den]; exact s.2⟩
theorem mul_lt_pow {a b n m : Nat} (h1 : a < 2 ^ n) (h2 : b < 2 ^ m) : a * b < 2 ^ (n + m) := by
  rw [Nat.pow_add]
  exact Nat.mul_lt_mul'' h1 h2
theorem Sz.mk' {n : Nat} {p : Int} {q : Nat} (z : q ≠ 0) (h1 : p.natAbs < 2 ^ n) (h2 : q < 2 ^ n) : Sz n (mkRat p q) := by
  unfold Sz
  rw [Rat.num_mkRat, Rat.den_mkRat, if_neg z, if_neg z]
  refine ⟨?_, Nat.lt_of_le_of_lt (Nat.div_le_self _ _) h2⟩
  rw [Int.natAbs_ediv_of_dvd (Int.ofNat_dvd_left.2 (Nat.gcd_dvd_right _ _)), Int.natAbs_natCast]
  exact Nat.lt_of_le_of_lt (Nat.div_le_self _ _) h1
theorem den_mul_ne (a b : Rat) : a.den * b.den ≠ 0 := Nat.mul_ne_zero a.den_nz b.den_nz
theorem add_mk (a b : Rat) : a + b = mkRat (a.num * b.den + b.num * a.den) (a.den * b.den) := by
  conv => lhs; rw [← Rat.mkRat_self a, ← Rat.mkRat_self b, Rat.mkRat_add_mkRat _ _ a.den_nz b.den_nz]
theorem mul_mk (a b : Rat) : a * b = mkRat (a.num * b.num) (a.den * b.den) := by
  conv => lhs; rw [← Rat.mkRat_self a, ← Rat.mkRat_self b, Rat.mkRat_mul_mkRat]
theorem Sz.mul {n m : Nat} {a b : Rat} (s : Sz n a) (t : Sz m b) : Sz (n + m) (a * b) := by
  rw [mul_mk]
  exact .mk' (den_mul_ne a b) (by rw [Int.natAbs_mul]; exact mul_lt_pow s.1 t.1) (mul_lt_pow s.2 t.2)
theorem Sz.add {n m : Nat} {a b : Rat} (s : Sz n a) (t : Sz m b) : Sz (n + m + 1) (a + b) := by
  rw [add_mk]
  have h1 : (a.num * b.den).natAbs < 2 ^ (n + m) := by rw [Int.natAbs_mul]; exact mul_lt_pow s.1 t.2
  have h2 : (b.num * a.den).natAbs < 2 ^ (n + m) := by rw [Int.natAbs_mul, Nat.mul_comm]; exact mul_lt_pow s.2 t.1
  have h3 := Int.natAbs_add_le (a.num * b.den) (b.num * a.den)
  have h4 := mul_lt_pow s.2 t.2
  exact .mk' (den_mul_ne a b) (by rw [Nat.pow_succ]; omega) (by rw [Nat.pow_succ]; omega)
theorem Sz.sub {n m : Nat} {a b : Rat} (s : Sz n a) (t : Sz m b) : Sz (n + m + 1) (a - b) := by
  rw [Rat.sub_eq_add_neg]
  exact s.add t.neg
/-! ### the text of data made of ints -/
theorem shown_int_len {i : Int} {n : Nat} (h0 : 0 < n) (h : i.natAbs < 2 ^ n) : (PyData.int i).shown.length ≤ n + 1 := by
  have e := int_text_length_le10 (k := n) h0 (Nat.lt_of_lt_of_le h (Nat.pow_le_pow_left (by decide) n))
  show (Str.ofString (toString i)).length ≤ n + 1
  rw [PySem.ofString_length]; exact e
theorem fr_leaves {q : Rat} {n : Nat} (h0 : 0 < n) (s : Sz n q) : PyData.leavesShort (n + 1) (fr q) = true := by
  simp only [fr, PyData.leavesShort, PyData.leavesShortAll, Bool.and_true, Bool.and_eq_true, decide_eq_true_eq]
  exact ⟨shown_int_len h0 s.1, shown_int_len h0 (by simpa using s.2)⟩
theorem fr_showable {q : Rat} {n : Nat} (h0 : 0 < n) (hn : n ≤ 1920) (s : Sz n q) : (fr q).showable = true := by
  have h1 := log2_lt h0 s.1
  have h2 := log2_lt h0 s.2
  simp only [fr, PyData.showable, PyData.showableAll, Bool.and_true, Bool.and_eq_true, decide_eq_true_eq, Int.natAbs_natCast]
  omega
/-! ### quotients -/
theorem fdiv_nat (i : Int) (k : Nat) : i.fdiv k = i / (k : Int) := Int.fdiv_eq_ediv_of_nonneg i (Int.natCast_nonneg k)
theorem cdiv_nat {i : Int} {k n : Nat} (h0 : k ≠ 0) (hn : 0 < n) (h : k < 2 ^ n) (h2 : n ≤ 9000) : CDivA i (k : Int) := by
  refine ⟨by exact_mod_cast h0, ?_⟩
  rw [Int.natAbs_natCast]
  exact Nat.lt_of_lt_of_le (log2_lt hn h) h2
/-- what is told as top and bottom, in lowest terms -/
theorem low_eq {p : Int} {q : Nat} (h : q ≠ 0) : fr (mkRat p q) = .tuple [.int (p.fdiv (Nat.gcd p.natAbs q : Nat)), .int ((q : Int).fdiv (Nat.gcd p.natAbs q : Nat))] := by
  unfold fr
  rw [Rat.num_mkRat, Rat.den_mkRat, if_neg h, if_neg h, fdiv_nat, fdiv_nat, Nat.gcd_comm q p.natAbs, Int.natCast_ediv]
end V2
set_option Elab.async false
set_option linter.all false
set_option maxRecDepth 100000
set_option maxHeartbeats 4000000
namespace V2
def big : Nat := 4000
open PySem PySem.Spec PyProof.Rows L2
theorem plus_eq (a b : Rat) {g g2 : Nat} {t s' top : Int} (hg : g = Nat.gcd a.den b.den) (ht : t = (a.den : Int).fdiv (g : Nat)) (hs : s' = (b.den : Int).fdiv (g : Nat)) (htop : top = a.num * s' + b.num * t) (hg2 : g2 = Nat.gcd top.natAbs g) :
    fr (a + b) = .tuple [.int (top.fdiv (g2 : Nat)), .int (t * (b.den : Int).fdiv (g2 : Nat))] := by
  have hq := Nat.pos_of_ne_zero a.den_nz
  have hb := Nat.pos_of_ne_zero b.den_nz
  have gp : 0 < g := by rw [hg]; exact Nat.gcd_pos_of_pos_left _ hq
  obtain ⟨q', eq⟩ : g ∣ a.den := by rw [hg]; exact Nat.gcd_dvd_left _ _
  obtain ⟨r', er⟩ : g ∣ b.den := by rw [hg]; exact Nat.gcd_dvd_right _ _
  have e1 : a.den / g = q' := by rw [eq, Nat.mul_div_cancel_left _ gp]
  have e2 : b.den / g = r' := by rw [er, Nat.mul_div_cancel_left _ gp]
  have t1 : t = (q' : Int) := by rw [ht, fdiv_nat, ← Int.natCast_ediv, e1]
  have s1 : s' = (r' : Int) := by rw [hs, fdiv_nat, ← Int.natCast_ediv, e2]
  have aux := Rat.add.aux a b hg rfl rfl
  rw [e1, e2] at aux
  simp only at aux
  have htop' : top = a.num * (r' : Int) + b.num * (q' : Int) := by rw [htop, s1, t1]
  rw [← htop', ← hg2] at aux
  have q'p : 0 < q' := Nat.pos_of_ne_zero fun z => by subst z; simp at eq; omega
  have dn : q' * b.den ≠ 0 := Nat.mul_ne_zero (by omega) (by omega)
  have ev : a + b = mkRat top (q' * b.den) := by
    rw [add_mk, Rat.mkRat_eq_iff (den_mul_ne a b) dn, htop', eq, er]
    simp only [Int.natCast_mul]
    grind
  rw [ev, low_eq dn, ← aux, t1]
  congr 3
  have d2 : g2 ∣ b.den := by rw [hg2]; exact Nat.dvd_trans (Nat.gcd_dvd_right _ _) ⟨r', er⟩
  rw [fdiv_nat, fdiv_nat, ← Int.natCast_ediv, ← Int.natCast_ediv, Nat.mul_div_assoc _ d2, Int.natCast_mul]
theorem times_eq (a b : Rat) {g1 g2 : Nat} (h1 : g1 = Nat.gcd a.num.natAbs b.den) (h2 : g2 = Nat.gcd b.num.natAbs a.den) :
    fr (a * b) = .tuple [.int ((a.num.fdiv (g1 : Nat)) * (b.num.fdiv (g2 : Nat))), .int (((a.den : Int).fdiv (g2 : Nat)) * ((b.den : Int).fdiv (g1 : Nat)))] := by
  show fr (Rat.mul a b) = _
  rw [Rat.mul.eq_1]
  unfold fr
  simp only [Int.divExact_eq_ediv, Nat.divExact_eq_div, fdiv_nat, ← h1, ← h2, Int.natCast_mul, Int.natCast_ediv]
theorem neg_eq (a : Rat) : fr (-a) = .tuple [.int (-a.num), .int a.den] := by
  unfold fr
  rw [Rat.neg_num, Rat.neg_den]
theorem inv_pos (b : Rat) (h : 0 < b.num) : fr b⁻¹ = .tuple [.int b.den, .int b.num] := by
  show fr (Rat.inv b) = _
  rw [Rat.inv.eq_1, dif_neg (by omega), dif_pos h]
  unfold fr
  simp only [Int.natAbs_of_nonneg (Int.le_of_lt h)]
theorem inv_neg (b : Rat) (h : b.num < 0) : fr b⁻¹ = .tuple [.int (-b.den), .int (-b.num)] := by
  show fr (Rat.inv b) = _
  rw [Rat.inv.eq_1, dif_pos h]
  unfold fr
  simp only [Int.ofNat_natAbs_of_nonpos (Int.le_of_lt h)]
theorem Sz.inv {n : Nat} {b : Rat} (s : Sz n b) (h : b ≠ 0) : Sz n b⁻¹ := by
  have hz : b.num ≠ 0 := fun z => h (Rat.num_eq_zero.1 z)
  show Sz n (Rat.inv b)
  rw [Rat.inv.eq_1]
  by_cases c : b.num < 0
  · rw [dif_pos c]
    exact ⟨by show (-(b.den : Int)).natAbs < _; rw [Int.natAbs_neg, Int.natAbs_natCast]; exact s.2, s.1⟩
  · rw [dif_neg c, dif_pos (by omega)]
    exact ⟨by show ((b.den : Int)).natAbs < _; rw [Int.natAbs_natCast]; exact s.2, s.1⟩
theorem Sz.div {n m : Nat} {a b : Rat} (s : Sz n a) (t : Sz m b) (h : b ≠ 0) : Sz (n + m) (a / b) := by
  rw [Rat.div_def]
  exact s.mul (t.inv h)
theorem v_fdiv_le (i : Int) (k : Nat) : (i.fdiv (k : Int)).natAbs ≤ i.natAbs := by
  rw [fdiv_nat]
  exact Int.natAbs_ediv_le_natAbs i k
theorem cmulw {i j : Int} {n : Nat} (hn : 0 < n) (h1 : i.natAbs < 2 ^ n) (h2 : j.natAbs < 2 ^ n) (h : n ≤ 9000) : CMulW i j := by
  have a := log2_lt hn h1
  have b := log2_lt hn h2
  unfold CMulW
  omega
theorem cdiv_gr {i : Int} {m k n : Nat} (h0 : k ≠ 0) (hn : 0 < n) (h : k < 2 ^ n) (h2 : n ≤ 9000) : CDivA i ((Nat.gcd m k : Nat) : Int) :=
  cdiv_nat (fun z => h0 (Nat.eq_zero_of_gcd_eq_zero_right z)) hn (Nat.lt_of_le_of_lt (Nat.gcd_le_right m (Nat.pos_of_ne_zero h0)) h) h2
theorem gcd_ne {m k : Nat} (h0 : k ≠ 0) : Nat.gcd m k ≠ 0 := fun z => h0 (Nat.eq_zero_of_gcd_eq_zero_right z)
theorem gcd_lt {m k n : Nat} (h0 : k ≠ 0) (h : k < 2 ^ n) : Nat.gcd m k < 2 ^ n := Nat.lt_of_le_of_lt (Nat.gcd_le_right m (Nat.pos_of_ne_zero h0)) h
theorem nab (k : Nat) : (k : Int).natAbs = k := Int.natAbs_natCast k
end V2
set_option Elab.async false
set_option linter.all false
set_option maxRecDepth 100000
set_option maxHeartbeats 4000000
/-! ## The drawn numbers -/
namespace V2
open PySem PySem.Spec PyProof.Rows L2
abbrev cell (i : Int) : D := .d (.int i)
/-- the store behind the start of a law: the drawn numbers, and the number that is mixed -/
structure Deal (rest : Ho) (h : Ho) : Prop where
  is : ∃ (cs : List Int) (mix : Int), h = .lst (cs.map cell) :: .lst [.loc 0, cell mix] :: rest ∧ cs.length ≤ 63 ∧ (∀ c ∈ cs, 0 ≤ c) ∧ 0 ≤ mix ∧ mix < 2 ^ 31
theorem shaped_ints (cs : List Int) : SeqAt.shaped (.list (cs.map PyData.int)) = true := by
  have h1 : ∀ cs : List Int, PyData.canLayAll0 (cs.map PyData.int) = true := by
    intro cs
    induction cs with
    | nil => rfl
    | cons c cs ih => simp only [List.map_cons, PyData.canLayAll0, PyData.canLay0, ih, Bool.and_self]
  have h2 : ∀ cs : List Int, PyData.depthAll (cs.map PyData.int) ≤ 63 := by
    intro cs
    induction cs with
    | nil => exact Nat.zero_le _
    | cons c cs ih => simp only [List.map_cons, PyData.depthAll, PyData.depth]; omega
  unfold SeqAt.shaped
  simp only [PyData.canLay0, PyData.depth, Bool.and_eq_true]
  exact ⟨h1 cs, decide_eq_true (Nat.succ_le_succ (h2 cs))⟩
theorem datum_cells {cs : List Int} {rest : Ho} : datum (.lst (cs.map cell) :: rest) (.loc 0) = some (.list (cs.map PyData.int)) := by
  have e : cs.map cell = (cs.map PyData.int).map D.d := by rw [List.map_map]; rfl
  show (allD (cs.map cell)).map PyData.list = _
  rw [e, allD_map]
  rfl
theorem atI_last {α : Type} {xs : List α} {y : α} : L2.atI (xs ++ [y]) (-1) = some y := by
  unfold L2.atI ixN
  rw [if_neg (by decide), if_pos (by rw [List.length_append, List.length_singleton]; omega)]
  simp only [Option.bind_some]
  have : ((-1 : Int) + ((xs ++ [y]).length : Nat)).toNat = xs.length := by rw [List.length_append, List.length_singleton]; omega
  rw [this]
  simp
section
variable {ρ : En} {h hb : Ho} {Q : KD} {E : XD} {fa : WE} {wi : WI} {wg : WG} {tt : WT} {te : WE} {own : List Nat} {st : Ho → Prop} {xs : List D}
theorem i_sl0 {i : Nat} {j : Int} {ps : List PyData} (e : GetAt i ρ (.d (.list ps))) (k : Q (.d (.list (cut ps none (some j)))) h) : fSl (fVar i) oNone (oSome (fC (.int j))) ρ h Q E := i_var e k
theorem i_iseqG {QI : List D → (Ho → Prop) → Ho → Prop} (k : fa ρ h (fun x h1 => ∃ xs, items h1 x = some xs ∧ QI xs (stay x xs) h1) E) : iSeq fa ρ h QI E := by
  have e1 : (fun (x : D) (h1 : Ho) => ∃ xs, items h1 x = some xs ∧ QI xs (stay x xs) h1) = (fun x h1 => match items h1 x with
      | some xs => QI xs (stay x xs) h1
      | none => False) := by
    funext x h1
    apply propext
    constructor
    · rintro ⟨xs, e2, q⟩
      rw [e2]
      exact q
    · split
      · rename_i xs e3
        exact fun q => ⟨_, e3, q⟩
      · exact False.elim
  rw [e1] at k
  exact k
theorem i_lcv (k : wi ρ h (fun xs st h1 => st (h1 ++ [.lst []]) ∧ lcGo wg tt te st h1.length (wipeD ρ own) (fun h2 => ∃ hh acc ps, h2 = hh ++ [.lst acc] ∧ hh.length = h1.length ∧ (hh = h1 ∨ noRef h1.length hh = true) ∧ allD acc = some ps ∧ Q (.d (.list ps)) hh) xs (h1 ++ [.lst []])) E) : fLcV wi wg tt te own ρ h Q E := k
theorem lcv_ind {QL : List PyData → Ho → Prop} (I : Nat → List D → Prop) (hst : ∀ h, st h)
    (hs : ∀ k x acc, xs[k]? = some x → I k acc → ∃ ρ1 b, wg x (hb ++ [.lst acc]) ρ = some ρ1 ∧ (∀ P : Bool → Ho → Prop, P b (hb ++ [.lst acc]) → tt ρ1 (hb ++ [.lst acc]) P noX) ∧
      (b = true → ∃ y, (∀ P : KD, P y (hb ++ [.lst acc]) → te ρ1 (hb ++ [.lst acc]) P noX) ∧ acc.length < sizeLine ∧ I (k + 1) (acc ++ [y])) ∧ (b = false → I (k + 1) acc))
    (he : ∀ acc, I xs.length acc → ∃ ps, AllD acc ps ∧ QL ps hb) (h0 : I 0 []) :
    st (hb ++ [.lst []]) ∧ lcGo wg tt te st hb.length ρ (fun h2 => ∃ hh acc ps, h2 = hh ++ [.lst acc] ∧ hh.length = hb.length ∧ (hh = hb ∨ noRef hb.length hh = true) ∧ allD acc = some ps ∧ QL ps hh) xs (hb ++ [.lst []]) := by
  refine ⟨hst _, lc_ind I hst hs (fun acc hi => ?_) h0⟩
  obtain ⟨ps, a, q⟩ := he acc hi
  exact ⟨hb, acc, ps, rfl, rfl, .inl rfl, a.eq, q⟩
theorem stay_d {p : PyData} {xs : List D} (h : Ho) : stay (.d p) xs h := trivial
def revK (Q : KD) : KD := fun x h1 => match litems h1 x with
  | some xs => Q (.loc h1.length) (h1 ++ [.lst xs.reverse])
  | none => False
theorem i_revloc (k : fa ρ h (revK Q) E) : fRevLoc fa ρ h Q E := k
theorem revK_lst {ps : List PyData} (k : Q (.loc h.length) (h ++ [.lst (ps.map D.d).reverse])) : revK Q (.d (.list ps)) h := k
theorem allD_cells (cs : List Int) : AllD (cs.map cell) (cs.map PyData.int) := by
  induction cs with
  | nil => exact .nil
  | cons c cs ih => exact .cons ih
end
theorem i_asgG {ρ : En} {h : Ho} {fa : WE} {g : WG} {nx : En → Ho → Prop} {rt : KD} {bk ct : En → Ho → Prop} {ex : Ex → En → Ho → Prop} (k : fa ρ h (fun x h1 => ∃ ρ1, g x h1 ρ = some ρ1 ∧ nx ρ1 h1) (fun x h => ex x ρ h)) : sAsg fa g ρ h ⟨nx, rt, bk, ct, ex⟩ := by
  have e1 : (fun (x : D) (h1 : Ho) => ∃ ρ1, g x h1 ρ = some ρ1 ∧ nx ρ1 h1) = (fun x h1 => match g x h1 ρ with
      | some ρ1 => nx ρ1 h1
      | none => False) := by
    funext x h1
    apply propext
    constructor
    · rintro ⟨xs, e2, q⟩
      rw [e2]
      exact q
    · split
      · rename_i xs e3
        exact fun q => ⟨_, e3, q⟩
      · exact False.elim
  rw [e1] at k
  exact k
theorem nil_or_snoc {α : Type} (xs : List α) : xs = [] ∨ ∃ l c, xs = l ++ [c] := by
  rcases List.eq_nil_or_concat xs with h | ⟨l, c, h⟩
  · exact .inl h
  · exact .inr ⟨l, c, by rw [h, List.concat_eq_append]⟩
theorem mix_mul {mix : Int} (h0 : 0 ≤ mix) (h1 : mix < 2 ^ 31) : CMulW mix 48271 := cmulw (n := 31) (by decide) (by omega) (by decide) (by decide)
theorem ni_loc {n : Nat} : (∀ i, D.loc n ≠ .d (.int i)) ∧ ∀ i, D.loc n ≠ .d (.str i) := ⟨fun _ e => (by cases e), fun _ e => (by cases e)⟩
theorem ni_tup {xs : List PyData} : (∀ i, D.d (.tuple xs) ≠ .d (.int i)) ∧ ∀ i, D.d (.tuple xs) ≠ .d (.str i) := ⟨fun _ e => (by cases e), fun _ e => (by cases e)⟩
theorem ints_ne {cs : List Int} (h : cs ≠ []) : PyData.eqv (.list (cs.map PyData.int)) (.list []) = false := by
  cases cs with
  | nil => exact absurd rfl h
  | cons c cs => simp [PyData.eqv, PyData.eqvAll]
section
variable {ρ : En} {h h2 : Ho} {Q : KD} {E : XD} {fo fi fe : WE} {ga : WA} {nx : En → Ho → Prop} {rt : KD} {bk ct : En → Ho → Prop} {ex : Ex → En → Ho → Prop} {f : WS} {t : WT}
theorem i_while (I : Nat → En → Ho → Prop) {m0 : Nat} (h0 : I m0 ρ h) (he : ∀ m ρ h, I m ρ h → nx ρ h)
    (hs : (∀ m ρ h, I m ρ h → nx ρ h) → ∀ m ρ h, I m ρ h → t ρ h (fun b h1 => if b = true then f ρ h1 ⟨fun ρ' h' => ∃ m', m' < m ∧ I m' ρ' h', rt, nx, fun ρ' h' => ∃ m', m' < m ∧ I m' ρ' h', ex⟩ else nx ρ h1) (fun x h => ex x ρ h)) : sWhile t f ρ h ⟨nx, rt, bk, ct, ex⟩ :=
  ⟨I, ⟨m0, h0⟩, hs he⟩
def popK (Q : KD) : KD := fun x h1 => match x with
  | .loc n => match h1[n]? with
    | some (.lst xs) => match xs[xs.length - 1]? with
      | some y => Q y (h1.set n (.lst xs.dropLast))
      | none => False
    | _ => False
  | _ => False
theorem i_pop (k : fo ρ h (popK Q) E) : fPop fo ρ h Q E := k
theorem popK_loc {n : Nat} {xs : List D} {y : D} (e : h[n]? = some (.lst (xs ++ [y]))) (es : h.set n (.lst xs) = h2) (k : Q y h2) : popK Q (.loc n) h := by
  have e1 : (xs ++ [y])[(xs ++ [y]).length - 1]? = some y := by simp
  simp only [popK, e, e1, List.dropLast_concat, es]
  exact k
def appK (ga : WA) (ρ : En) (Q : KD) (E : XD) : KD := fun x h1 => match x with
  | .loc n => match h1[n]? with
    | some (.lst _) => ga ρ h1 (fun ys h2 => match ys, h2[n]? with
      | [y], some (.lst xs) => xs.length < sizeLine ∧ Q (.d .none) (h2.set n (.lst (xs ++ [y])))
      | _, _ => False) E
    | _ => False
  | _ => False
theorem i_append (k : fo ρ h (appK ga ρ Q E) E) : fAppend fo ga ρ h Q E := k
theorem appK_loc {n : Nat} {xs0 : List D} (e : h[n]? = some (.lst xs0)) (k : ga ρ h (fun ys h2 => ∃ y xs, ys = [y] ∧ h2[n]? = some (.lst xs) ∧ xs.length < sizeLine ∧ Q (.d .none) (h2.set n (.lst (xs ++ [y])))) E) : appK ga ρ Q E (.loc n) h := by
  have e1 : (fun (ys : List D) (h2 : Ho) => ∃ y xs, ys = [y] ∧ h2[n]? = some (.lst xs) ∧ xs.length < sizeLine ∧ Q (.d .none) (h2.set n (.lst (xs ++ [y])))) = (fun ys h2 => match ys, h2[n]? with
      | [y], some (.lst xs) => xs.length < sizeLine ∧ Q (.d .none) (h2.set n (.lst (xs ++ [y])))
      | _, _ => False) := by
    funext ys h2
    apply propext
    constructor
    · rintro ⟨y, xs, rfl, e2, q⟩
      simp only [e2]
      exact q
    · split
      · rename_i y xs e3
        exact fun q => ⟨_, _, rfl, e3, q⟩
      · exact False.elim
  rw [e1] at k
  simp only [appK, e]
  exact k
def subK (nx : En → Ho → Prop) (ρ : En) (y x z : D) (h3 : Ho) : Prop := match x, z with
  | .loc n, .d (.int k) => match h3[n]? with
    | some (.lst xs) => match ixN xs.length k with
      | some j => nx ρ (h3.set n (.lst (xs.set j y)))
      | none => False
    | _ => False
  | _, _ => False
theorem i_sub (k : fe ρ h (fun y h1 => fo ρ h1 (fun x h2 => fi ρ h2 (fun z h3 => subK nx ρ y x z h3) (fun x h => ex x ρ h)) (fun x h => ex x ρ h)) (fun x h => ex x ρ h)) : sSub fe fo fi ρ h ⟨nx, rt, bk, ct, ex⟩ := k
theorem subK_loc {n j : Nat} {i : Int} {xs : List D} {y : D} (e : h[n]? = some (.lst xs)) (ej : ixN xs.length i = some j) (es : h.set n (.lst (xs.set j y)) = h2) (k : nx ρ h2) : subK nx ρ y (.loc n) (.d (.int i)) h := by
  simp only [subK, e, ej, es]
  exact k
end
theorem half_mk (a : Rat) : a / 2 = mkRat a.num (2 * a.den) := by
  rw [Rat.mkRat_eq_div, Rat.natCast_mul]
  conv => lhs; rw [← Rat.mkRat_self a, Rat.mkRat_eq_div]
  have := a.den_nz
  grind
theorem Sz.half {n : Nat} {a : Rat} (s : Sz n a) : Sz (n + 1) (a / 2) := by
  rw [half_mk]
  exact .mk' (Nat.mul_ne_zero (by decide) a.den_nz) (Nat.lt_trans s.1 (by rw [Nat.pow_succ]; have := Nat.two_pow_pos n; omega)) (by have := s.2; rw [Nat.pow_succ]; omega)
def halfR : Rat := ⟨1, 2, by decide, by decide⟩
theorem halfR_eq (a : Rat) : a / 2 = halfR * a := by
  have e : halfR = 1 / 2 := by
    unfold halfR
    rw [Rat.mk_eq_mkRat, Rat.mkRat_eq_div]
    simp
  rw [e]
  grind
end V2
set_option Elab.async false
set_option linter.all false
set_option maxRecDepth 100000
set_option maxHeartbeats 4000000
/-! ## More built-in functions and comparisons over data -/
namespace V2
open PySem PySem.Spec PyProof.Rows L2
open PySem.W (Frag)
section
variable {X : Cx} {W : WX} {a b c : Expr} {es : List Expr} {ga : WA} {fa fb fc : WE} {pos p : Pos}
/-! ### list(x), tuple(x): data -/
def rList1 : WR := fun xs h Q => match xs with
  | [x] => match items h x with
    | some ys => match allD ys with
      | some ps => Q (.d (.list ps)) h
      | none => False
    | none => False
  | _ => False
theorem cp_list1 : CpA X (fun xs H Q => ∃ p ys, xs = [.ref p] ∧ (SqL X.K H p ys ∨ SqT X.K H p ys) ∧ ∀ l, H l = none → Q (.ref l) (upd H l (.lst ys))) rList1 := by
  intro xs h Q vs as H QV rv hR hq k
  unfold rList1 at hq
  split at hq
  · split at hq
    · rename_i ys e
      split at hq
      · rename_i ps e2
        obtain ⟨v, rfl, r⟩ := relAll1 rv
        obtain ⟨a, us, rfl, s, ra⟩ := items_rel r hR e
        exact ⟨a, us, rfl, s, fun l hl => k.newLst hR hq (ra.ofAllD e2) hl⟩
      · exact hq.elim
    · exact hq.elim
  · exact hq.elim
def rTup1 : WR := fun xs h Q => match xs with
  | [.d (.tuple ps)] => Q (.d (.tuple ps)) h
  | [x] => match litems h x with
    | some ys => match allD ys with
      | some ps => Q (.d (.tuple ps)) h
      | none => False
    | none => False
  | _ => False
theorem cp_tup1 : CpA X (fun xs H Q => ∃ p ys, xs = [.ref p] ∧ ((SqL X.K H p ys ∧ ∀ l, H l = none → Q (.ref l) (upd H l (.tup ys))) ∨ (SqT X.K H p ys ∧ Q (.ref p) H))) rTup1 := by
  intro xs h Q vs as H QV rv hR hq k
  unfold rTup1 at hq
  split at hq
  · obtain ⟨v, rfl, r⟩ := relAll1 rv
    cases r with | d r =>
    cases r with | tup sx ax =>
    exact ⟨_, _, rfl, .inr ⟨sx.sq, k.qd hR hq (.tup sx ax)⟩⟩
  · split at hq
    · rename_i ys e
      split at hq
      · rename_i ps e2
        obtain ⟨v, rfl, r⟩ := relAll1 rv
        obtain ⟨a, us, rfl, s, ra⟩ := litems_rel r hR e
        exact ⟨a, us, rfl, .inl ⟨s, fun l hl => k.newTup hR hq (ra.ofAllD e2) hl⟩⟩
      · exact hq.elim
    · exact hq.elim
  · exact hq.elim
theorem SE.list1 (hg : Gl X "list") (hm : X.mg "list" = none) (ha : SA X W [a] ga) (he : starEach [a] X.env = (false, eval a X.env) :: starEach [] X.env := by rfl) : SE X W (.Call (.Name "list" p) [a] [] pos) (fCall rList1 ga) := .callTy call_list_of cp_list1 hg hm (by decide +kernel) ha (he := he) (hpl := rfl)
theorem SE.tup1 (hg : Gl X "tuple") (hm : X.mg "tuple" = none) (ha : SA X W [a] ga) (he : starEach [a] X.env = (false, eval a X.env) :: starEach [] X.env := by rfl) : SE X W (.Call (.Name "tuple" p) [a] [] pos) (fCall rTup1 ga) := .callTy call_tuple_of cp_tup1 hg hm (by decide +kernel) ha (he := he) (hpl := rfl)
/-! ### isinstance(x, T), T a built-in class, x data -/
def tyName : PyData → String
  | .none => "NoneType"
  | .bool _ => "bool"
  | .int _ => "int"
  | .str _ => "str"
  | .list _ => "list"
  | .tuple _ => "tuple"
  | .dict _ => "dict"
def fIsi (T : String) (fa : WE) : WE := fun ρ h Q E => fa ρ h (fun x h1 => match x with
  | .d p => ∃ b, kitB (tyName p) T = some b ∧ Q (.d (.bool b)) h1
  | .loc n => (∃ xs, h1[n]? = some (.lst xs)) ∧ ∃ b, kitB "list" T = some b ∧ Q (.d (.bool b)) h1
  | .tp _ => False
  | .ob _ _ => False
  | .pr _ _ => False) E
theorem tyx_lst {K : Frag} {as : List Addr} {H : Hp} {a : Addr} {xs : List V} (h : LstR K as H a xs) : TyX K H (.ref a) (.type "list") := by
  rcases h with ⟨h | ⟨o, h⟩, _⟩ | ⟨o, its, n, e, c, _⟩
  · exact .base (.lst h)
  · exact .base (.frz h)
  · exact .kList e c
theorem tyx_tup {K : Frag} {as : List Addr} {H : Hp} {a : Addr} {xs : List V} (h : TupR K as H a xs) : TyX K H (.ref a) (.type "tuple") := by
  rcases h with ⟨h | ⟨o, h⟩, _⟩ | ⟨o, its, n, e, c, _⟩
  · exact .base (.tup h)
  · exact .fTuple h
  · exact .kTuple e c
theorem tyx_d {K : Frag} {as : List Addr} {H : Hp} {v : V} {p : PyData} (r : Dv K as H v p) : TyX K H v (.type (tyName p)) := by
  cases r with
  | non => exact .base .non
  | bl b => exact .base (.bl b)
  | int i => exact .base (.int i)
  | str x => exact .base (.str x)
  | lst s _ => exact tyx_lst s
  | tup s _ => exact tyx_tup s
theorem SE.isi {T : String} {x : Str} {p1 p2 p3 : Pos} (hg : Gl X "isinstance") (hm : X.mg "isinstance" = none) (hgc : Gl X x) (hmc : X.mg x = none) (hv : bootBuiltins x = some (.type T)) (ha : SE X W a fa)
    (hn : x ≠ "__name__" := by decide) (hdc : (x == ("__debug__" : Str)) = false := by decide)
    (he : starEach [a, .Name x p3] X.env = (false, eval a X.env) :: starEach [.Name x p3] X.env := by rfl) (he2 : starEach [.Name x p3] X.env = (false, eval (.Name x p3) X.env) :: starEach [] X.env := by rfl) (hpl : (backTo pos (starEach [.Name x p3] X.env)).any (·.1) = false := by rfl) :
    SE X W (.Call (.Name "isinstance" p1) [a, .Name x p3] [] pos) (fIsi T fa) := by
  obtain ⟨_, pa, sa⟩ := ha
  refine ⟨_, pe_callB call_isi hg hm (by decide +kernel) (pa_cons pa (pa_cons (pe_bltn (v := .ty T) hgc hmc hv rfl hn hdc) pa_nil he2) he) (he := he) (hpl := hpl), fun σ H as ρ h Q E QV eR hR hq k kx => ?_⟩
  refine sa σ H as ρ h _ E _ eR hR hq (fun y h1 v as1 H1 hq1 l1 r1 rv => ?_) kx
  cases rv with
  | d rv =>
    obtain ⟨b, e, q⟩ := hq1
    exact ⟨v, .ty T, _, _, b, rfl, .ty T, tyx_d rv, kit_ty e, (k.later l1).qd r1 q (.bl b)⟩
  | tp _ _ _ _ => exact hq1.elim
  | ob _ _ _ _ _ => exact hq1.elim
  | pr _ _ _ => exact hq1.elim
  | loc ha =>
    obtain ⟨⟨xs, en⟩, b, e, q⟩ := hq1
    obtain ⟨a2, ha2, ob⟩ := r1.at en
    rw [ha] at ha2
    cases ha2
    obtain ⟨vs, e2, _⟩ := ob
    exact ⟨_, .ty T, _, _, b, rfl, .ty T, .base (.lst e2), kit_ty e, (k.later l1).qd r1 q (.bl b)⟩
/-! ### a op b op c -/
def fChain (r r' : WR2) (fa fb fc : WE) : WE := fun ρ h Q E => fa ρ h (fun x h1 => fb ρ h1 (fun y h2 => r x y h2 (fun z h3 => match z with
  | .d (.bool true) => fc ρ h3 (fun w h4 => r' y w h4 Q) E
  | .d (.bool false) => Q (.d (.bool false)) h3
  | _ => False)) E) E
/-- how a comparison reads: the model's rule and ours -/
def CmpR (X : Cx) (op : CmpOp) (r : WR2) : Prop := ∃ rV, OpR X (compareOp op) rV ∧ Cp2 X rV r
theorem CmpR.lt : CmpR X .Lt (rCmp2 fun i j => decide (i < j)) := ⟨_, op_lt, cp_ints0 fun _ _ _ _ _ => .bl _⟩
theorem CmpR.le : CmpR X .LtE (rCmp2 fun i j => decide (i ≤ j)) := ⟨_, op_le, cp_ints0 fun _ _ _ _ _ => .bl _⟩
theorem CmpR.ge : CmpR X .GtE (rCmp2 fun i j => decide (j ≤ i)) := ⟨_, op_ge, cp_ints0 fun _ _ _ _ _ => .bl _⟩
theorem CmpR.eq (hu : X.A.units + 64 < cLine) : CmpR X .Eq rEq2 := ⟨_, op_eq.or (op_eqD hu), cp_eq⟩
theorem CmpR.ne (hu : X.A.units + 64 < cLine) : CmpR X .NotEq rNe2 := ⟨_, op_ne.or (op_neD hu), cp_ne⟩
/-! ### x in xs: flat items -/
def flatD : D → Bool
  | .d .none => true
  | .d (.bool _) => true
  | .d (.int _) => true
  | .d (.str _) => true
  | _ => false
def valD : D → V
  | .d (.bool b) => .bl b
  | .d (.int i) => .int i
  | .d (.str x) => .str x
  | _ => .non
theorem rel_flat {K : Frag} {as : List Addr} {H : Hp} {v : V} {x : D} (r : Rel K as H v x) (f : flatD x = true) : v = valD x ∧ flatV v = true := by
  cases r with
  | d r =>
    cases r with
    | non => exact ⟨rfl, rfl⟩
    | bl b => exact ⟨rfl, rfl⟩
    | int i => exact ⟨rfl, rfl⟩
    | str x => exact ⟨rfl, rfl⟩
    | lst _ _ => exact absurd (show false = true from f) Bool.false_ne_true
    | tup _ _ => exact absurd (show false = true from f) Bool.false_ne_true
  | loc _ => exact absurd (show false = true from f) Bool.false_ne_true
  | tp _ _ _ _ => exact absurd (show false = true from f) Bool.false_ne_true
  | ob _ _ _ _ _ => exact absurd (show false = true from f) Bool.false_ne_true
  | pr _ _ _ => exact absurd (show false = true from f) Bool.false_ne_true
theorem relAll_flat {K : Frag} {as : List Addr} {H : Hp} : ∀ {vs : List V} {xs : List D}, RelAll K as H vs xs → xs.all flatD = true → vs = xs.map valD ∧ vs.all flatV = true
  | _, _, .nil, _ => ⟨rfl, rfl⟩
  | _, _, .cons r t, f => by
    rw [List.all_cons, Bool.and_eq_true] at f
    obtain ⟨e1, f1⟩ := rel_flat r f.1
    obtain ⟨e2, f2⟩ := relAll_flat t f.2
    refine ⟨by rw [List.map_cons, ← e1, ← e2], ?_⟩
    rw [List.all_cons, f1, f2]
    rfl
def rInD (neg : Bool) : WR2 := fun x y h Q => match items h y with
  | some ys => flatD x = true ∧ ys.all flatD = true ∧ Q (.d (.bool (if neg then !inV (valD x) (ys.map valD) else inV (valD x) (ys.map valD)))) h
  | none => False
theorem cp_in (neg : Bool) : Cp2 X (rIn X.K neg) (rInD neg) := by
  intro x y h Q v w as H QV rx ry hR hq k
  unfold rInD at hq
  split at hq
  · rename_i ys e
    obtain ⟨a, us, rfl, s, ra⟩ := items_rel ry hR e
    obtain ⟨e1, f1⟩ := rel_flat rx hq.1
    obtain ⟨e2, f2⟩ := relAll_flat ra hq.2.1
    refine ⟨a, us, rfl, s, f1, f2, ?_⟩
    rw [e1, e2]
    exact k.qd hR hq.2.2 (.bl _)
  · exact hq.elim
theorem SE.inD (ha : SE X W a fa) (hb : SE X W b fb) (hm : behindInMarks .In b = false := by rfl) : SE X W (.Compare a [.In] [b] pos) (fBin (rInD false) fa fb) := .cmp op_in_seq (cp_in false) ha hb hm
theorem ST.notInD (ha : SE X W a fa) (hb : SE X W b fb) (hm : behindInMarks .NotIn b = false := by rfl) : ST X W (.Compare a [.NotIn] [b] pos) (tVal (fBin (rInD true) fa fb)) := .cmp op_notIn_seq (cp_in true) ha hb hm
/-! ### math.lcm of three -/
end
def rLcm3 : WR := fun xs h Q => match xs with
  | [.d (.int a), .d (.int b), .d (.int c)] => (a.natAbs < 2 ^ big ∧ b.natAbs < 2 ^ big ∧ c.natAbs < 2 ^ big) ∧ Q (.d (.int ((Nat.lcm (Nat.lcm a.natAbs b.natAbs) c.natAbs : Nat) : Int))) h
  | _ => False
theorem i_lcm3 {a b c : Int} {h : Ho} {Q : KD} (hb : a.natAbs < 2 ^ big ∧ b.natAbs < 2 ^ big ∧ c.natAbs < 2 ^ big) (k : Q (.d (.int ((Nat.lcm (Nat.lcm a.natAbs b.natAbs) c.natAbs : Nat) : Int))) h) : rLcm3 [.d (.int a), .d (.int b), .d (.int c)] h Q := ⟨hb, k⟩
/-- no greater than n binary figures -/
def Bd (n : Nat) (i : Int) : Prop := i.natAbs < 2 ^ n
theorem Bd.mono {n m : Nat} {i : Int} (h : Bd n i) (k : n ≤ m) : Bd m i := Nat.lt_of_lt_of_le h (Nat.pow_le_pow_right (by decide) k)
theorem Bd.add {n m : Nat} {i j : Int} (a : Bd n i) (b : Bd m j) : Bd (max n m + 1) (i + j) := by
  have a' := a.mono (Nat.le_max_left n m)
  have b' := b.mono (Nat.le_max_right n m)
  unfold Bd at *
  rw [Nat.pow_succ]
  have := Int.natAbs_add_le i j
  omega
theorem Bd.neg {n : Nat} {i : Int} (a : Bd n i) : Bd n (-i) := by
  unfold Bd at *
  rw [Int.natAbs_neg]; exact a
theorem Bd.sub {n m : Nat} {i j : Int} (a : Bd n i) (b : Bd m j) : Bd (max n m + 1) (i - j) := by
  rw [Int.sub_eq_add_neg]
  exact a.add b.neg
theorem Bd.mul {n m : Nat} {i j : Int} (a : Bd n i) (b : Bd m j) : Bd (n + m) (i * j) := by
  unfold Bd at *
  rw [Int.natAbs_mul]
  exact mul_lt_pow a b
theorem Bd.div {n : Nat} {i : Int} {k : Nat} (a : Bd n i) : Bd n (i.fdiv (k : Int)) := Nat.lt_of_le_of_lt (v_fdiv_le i k) a
theorem cmB {n m : Nat} {i j : Int} (a : Bd n i) (b : Bd m j) (h : n + m < 900000) : CMulW i j := by
  have e1 := log2_lt (Nat.succ_pos n) (a.mono (Nat.le_succ n))
  have e2 := log2_lt (Nat.succ_pos m) (b.mono (Nat.le_succ m))
  unfold CMulW
  omega
end V2
set_option Elab.async false
set_option linter.all false
set_option maxRecDepth 100000
set_option maxHeartbeats 4000000
/-! ## Points as data, and their grid -/
namespace V2
open PySem PySem.Spec PyProof.Rows L2
end V2
set_option Elab.async false
set_option linter.all false
set_option maxRecDepth 100000
set_option maxHeartbeats 4000000
/-! ## Lists that are places beside the drawn numbers -/
namespace V2
open PySem PySem.Spec PyProof.Rows L2
section
variable {rest h : Ho}
theorem Deal.len (d : Deal rest h) : h.length = rest.length + 2 := by
  obtain ⟨cs, m, rfl, _⟩ := d.is
  rfl
theorem Deal.get (d : Deal rest h) (i : Nat) : h[i + 2]? = rest[i]? := by
  obtain ⟨cs, m, rfl, _⟩ := d.is
  rfl
theorem Deal.snoc (d : Deal rest h) (o : O) : Deal (rest ++ [o]) (h ++ [o]) := by
  obtain ⟨cs, m, rfl, q⟩ := d.is
  exact ⟨cs, m, rfl, q⟩
theorem Deal.put (d : Deal rest h) (i : Nat) (o : O) : Deal (rest.set i o) (h.set (i + 2) o) := by
  obtain ⟨cs, m, rfl, q⟩ := d.is
  exact ⟨cs, m, rfl, q⟩
theorem Deal.at' (d : Deal rest h) {i : Nat} {o : O} (e : rest[i]? = some o) : h[i + 2]? = some o := by rw [d.get, e]
theorem Deal.items (d : Deal rest h) {i : Nat} {xs : List D} (e : rest[i]? = some (.lst xs)) : V2.items h (.loc (i + 2)) = some xs := by
  show (match h[i + 2]? with
    | some (.lst xs) => some xs
    | _ => none) = some xs
  rw [d.get, e]
end
section
variable {ρ : En} {h h2 h3 : Ho} {wg : WG} {tt : WT} {te : WE} {st : Ho → Prop} {n : Nat} {QH : Ho → Prop} {xs : List D} {own : List Nat} {wi : WI} {Q : KD} {E : XD}
def accK (st : Ho → Prop) (n : Nat) (G : Ho → Prop) : KD := fun y h2 => match h2[n]? with
  | some (.lst acc) => acc.length < sizeLine ∧ st (h2.set n (.lst (acc ++ [y]))) ∧ G (h2.set n (.lst (acc ++ [y])))
  | _ => False
theorem accK_of {G : Ho → Prop} {acc : List D} {y : D} (e : h2[n]? = some (.lst acc)) (l : acc.length < sizeLine) (hst : st (h2.set n (.lst (acc ++ [y])))) (g : G (h2.set n (.lst (acc ++ [y])))) : accK st n G y h2 := by
  simp only [accK, e]
  exact ⟨l, hst, g⟩
theorem lcg_ind (I : Nat → Ho → Prop)
    (hs : ∀ k x h (G : Ho → Prop), xs[k]? = some x → I k h → (∀ h', I (k + 1) h' → G h') → ∃ ρ1, wg x h ρ = some ρ1 ∧ tt ρ1 h (fun b h1 => if b = true then te ρ1 h1 (accK st n G) noX else st h1 ∧ G h1) noX)
    (he : ∀ h, I xs.length h → QH h) (h0 : I 0 h) : lcGo wg tt te st n ρ QH xs h := by
  have aux : ∀ (ys : List D) (k : Nat), (∀ j, ys[j]? = xs[k + j]?) → k + ys.length = xs.length → ∀ h, I k h → lcGo wg tt te st n ρ QH ys h := by
    intro ys
    induction ys with
    | nil => intro k _ hl h hi; exact he h (by rw [← hl]; simpa using hi)
    | cons y ys ih =>
      intro k hj hl h hi
      have ihk := ih (k + 1) (fun j => by rw [Nat.add_assoc, Nat.add_comm 1 j, ← hj (j + 1)]; rfl) (by rw [← hl, List.length_cons]; omega)
      obtain ⟨ρ1, e1, e2⟩ := hs k y h (fun h' => lcGo wg tt te st n ρ QH ys h') (by rw [← Nat.add_zero k, ← hj 0]; rfl) hi ihk
      unfold lcGo
      rw [e1]
      exact e2
  exact aux xs 0 (fun j => by rw [Nat.zero_add]) (by simp) h h0
theorem i_tTrue {P : Bool → Ho → Prop} (k : P true h) : tTrue ρ h P E := k
end
theorem i_pk3 {x y z : D} {P : List D → Prop} (k : P [z, y, x]) : [x, y, z].length = 3 ∧ ∃ ys, V2.pick [2, 1, 0] [x, y, z] = ys ∧ P ys := ⟨rfl, _, rfl, k⟩
theorem i_pk4 {x y z w : D} {P : List D → Prop} (k : P [w, z, y, x]) : [x, y, z, w].length = 4 ∧ ∃ ys, V2.pick [3, 2, 1, 0] [x, y, z, w] = ys ∧ P ys := ⟨rfl, _, rfl, k⟩
/-- data that can be shown, of some length -/
def Sh (k : Nat) (p : PyData) : Prop := p.showable = true ∧ p.depth ≤ k ∧ PyData.leavesShort 1001 p = true ∧ p.bulk ≤ 4 ^ k
theorem Sh.len {k : Nat} {p : PyData} (s : Sh k p) (hk : k ≤ 5) : p.showable = true ∧ p.depth < 60 ∧ p.shown.length ≤ sizeLine := by
  refine ⟨s.1, by have := s.2.1; omega, ?_⟩
  have h1 := PyData.shown_le_bulk 1001 (by decide) p s.2.2.1
  have h2 := s.2.2.2
  have h3 : 4 ^ k ≤ 4 ^ 5 := Nat.pow_le_pow_right (by decide) hk
  have : sizeLine = 2 ^ 24 := rfl
  have h4 : (1001 + 2) * p.bulk ≤ (1001 + 2) * 4 ^ 5 := Nat.mul_le_mul_left _ (Nat.le_trans h2 h3)
  have : (4 : Nat) ^ 5 = 1024 := by decide
  omega
end V2
set_option Elab.async false
set_option linter.all false
set_option maxRecDepth 100000
set_option maxHeartbeats 4000000
/-! ## More steps through a reading -/
namespace V2
open PySem PySem.Spec PyProof.Rows L2
section
variable {ρ : En} {h : Ho} {Q : KD} {E : XD} {fa fb fc : WE} {x : D} {i j : Int}
theorem i_chain {r r' : WR2} (k : fa ρ h (fun x h1 => fb ρ h1 (fun y h2 => r x y h2 (fun z h3 => ∃ b, z = .d (.bool b) ∧ if b = true then fc ρ h3 (fun w h4 => r' y w h4 Q) E else Q (.d (.bool false)) h3)) E) E) : fChain r r' fa fb fc ρ h Q E := by
  have e : ∀ y : D, (fun (z : D) (h3 : Ho) => ∃ b, z = .d (.bool b) ∧ if b = true then fc ρ h3 (fun w h4 => r' y w h4 Q) E else Q (.d (.bool false)) h3) = (fun z h3 => match z with
      | .d (.bool true) => fc ρ h3 (fun w h4 => r' y w h4 Q) E
      | .d (.bool false) => Q (.d (.bool false)) h3
      | _ => False) := by
    intro y
    funext z h3
    apply propext
    constructor
    · rintro ⟨b, rfl, q⟩
      cases b with
      | true => simpa using q
      | false => simpa using q
    · split
      · exact fun q => ⟨true, rfl, by simpa using q⟩
      · exact fun q => ⟨false, rfl, by simpa using q⟩
      · exact False.elim
  simp only [e] at k
  exact k
def mx (i j : Int) : Int := if j > i then j else i
def mn (i j : Int) : Int := if j < i then j else i
theorem i_max2 (k : Q (.d (.int (mx i j))) h) : rMax2 [.d (.int i), .d (.int j)] h Q := k
theorem i_min2 (k : Q (.d (.int (mn i j))) h) : rMin2 [.d (.int i), .d (.int j)] h Q := k
theorem i_isN (k : Q (.d (.bool (isNon x))) h) : rIsN2 x (.d .none) h Q := k
theorem i_notN (k : Q (.d (.bool (!isNon x))) h) : rNotN2 x (.d .none) h Q := k
end
end V2
set_option Elab.async false
set_option linter.all false
set_option maxRecDepth 100000
set_option maxHeartbeats 4000000
/-! ## What comes behind a statement, by a name -/
namespace V2
open PySem PySem.Spec PyProof.Rows L2
def Go (nx : En → Ho → Prop) (g : WS) (D : Nx) : Prop := ∀ ρ h, g ρ h D → nx ρ h
section
variable {ρ : En} {h : Ho} {nx : En → Ho → Prop} {rt : KD} {bk ct : En → Ho → Prop} {ex : Ex → En → Ho → Prop} {f g : WS} {D : Nx}
theorem i_seqg (k : ∀ nx', Go nx' g ⟨nx, rt, bk, ct, ex⟩ → f ρ h ⟨nx', rt, bk, ct, ex⟩) : sSeq f g ρ h ⟨nx, rt, bk, ct, ex⟩ := k _ fun _ _ q => q
theorem i_go (a : Go nx g D) (k : g ρ h D) : nx ρ h := a _ _ k
theorem i_nesr {i : Str} {Q : KD} (k : Q (.d (.bool false)) h) : rNe2 (.d (.str i)) (.d (.str i)) h Q := by
  refine i_nes ?_
  rw [decide_eq_true rfl]
  exact k
end
end V2
set_option Elab.async false
set_option linter.all false
set_option maxRecDepth 100000
set_option maxHeartbeats 4000000
/-! ## reversed(x) -/
namespace V2
open PySem PySem.Spec PyProof.Rows L2
open PySem.W (Frag)
end V2
set_option Elab.async false
set_option linter.all false
set_option maxRecDepth 100000
set_option maxHeartbeats 4000000
/-! ## a tuple's slice with a step -/
namespace V2
open PySem PySem.Spec PyProof.Rows L2
open PySem.W (Frag)
/-- what xs[lo:hi:c] picks -/
def stepL {α : Type} (xs : List α) (lo hi : Option Int) (c : Int) : List α :=
  (List.range (Builtin.Slice.slicePlaces (Builtin.Slice.sliceAdjust lo hi c xs.length).1 (Builtin.Slice.sliceAdjust lo hi c xs.length).2 c)).filterMap fun (k : Nat) => xs[((Builtin.Slice.sliceAdjust lo hi c xs.length).1 + (k : Int) * c).toNat]?
section
variable {prog : Program} {w : World} {A : Around} {E : Value → Shared → Prop} {s0 : Shared}
theorem applied_step {q : Addr} {v1 v2 v3 : Value} {o1 o2 : Option Int} {c : Int} {n : Nat} {Z : Int × Int × Nat → Shared → Prop} (hq : s0.heap.IsSliceOf q v1 v2 v3) (p1 : IsPart v1 o1) (p2 : IsPart v2 o2) (p3 : IsPart v3 (some c)) (hc : c ≠ 0)
    (hz : Z ((Builtin.Slice.sliceAdjust o1 o2 c n).1, c, Builtin.Slice.slicePlaces (Builtin.Slice.sliceAdjust o1 o2 c n).1 (Builtin.Slice.sliceAdjust o1 o2 c n).2 c) s0) :
    wpAny (model prog w) A (Builtin.Slice.sliceApplied (.ref q) (pure (n : Int))) Z E s0 := by
  obtain ⟨ob, e1, e2, e3⟩ := id hq
  unfold Builtin.Slice.sliceApplied; unfold Builtin.Slice.sliceFields
  refine wpAny_bind (wpAny_bind (wpAny_field e1 e3 (x := v1) rfl (wpAny_bind (wpAny_field e1 e3 (x := v2) rfl (wpAny_bind (wpAny_field e1 e3 (x := v3) rfl (wpAny_pure ?_)))))))
  refine wpAny_bind (HT.slicePart_ p3 ?_)
  have n0 : ¬ ((c == 0) = true) := fun z => hc (eq_of_beq z)
  show wpAny _ _ (if (c == 0) = true then _ else _) _ _ s0
  rw [if_neg n0]
  exact wpAny_bind (HT.slicePart_ p1 (wpAny_bind (HT.slicePart_ p2 (wpAny_bind (wpAny_pure (wpAny_pure hz))))))
theorem getTup_step {t0 q : Addr} {zs : Array Value} {v1 v2 v3 : Value} {o1 o2 : Option Int} {c : Int} {Z : Value → Shared → Prop} (h0 : IsTup s0.heap t0 zs) (hq : s0.heap.IsSliceOf q v1 v2 v3) (p1 : IsPart v1 o1) (p2 : IsPart v2 o2) (p3 : IsPart v3 (some c)) (hc : c ≠ 0) (hc1 : c ≠ 1)
    (hl : (stepL zs.toList o1 o2 c).length ≤ sizeLine)
    (hz : Z (.ref s0.heap.objs.size) { s0 with heap := s0.heap.push { cls := .type "tuple", data := .seq (stepL zs.toList o1 o2 c).toArray } }) : wpAny (model prog w) A (getItem (.ref t0) (.ref q)) Z E s0 := by
  have tS : s0.TypeIs (.ref q) "slice" := by
    obtain ⟨ob, e1, e2, e3⟩ := id hq
    exact ⟨ob, e1, e2⟩
  have big : sizeOk (.seq (stepL zs.toList o1 o2 c).toArray) := by
    show (stepL zs.toList o1 o2 c).toArray.size ≤ sizeLine
    rw [List.size_toArray]
    exact hl
  unfold getItem; (try with_reducible refine wpAny_holding ?_); (first | refine wpAny_bind (wpAny_pure ?_) | skip)
  refine wpAny_bind (wpAny_sequenceKey h0.typeIs (by decide) ?_)
  refine wpAny_bind (wpAny_callSpecial?_slot (name := Str.ofString "__getitem__") h0.typeIs PyProof.Rows.slot_tuple_getitem (wpAny_call_entry PyProof.Rows.slot_tuple_getitem h0.typeIs entry_tuple_getitem ?_ (args_tuple_getitem _ _)))
  show wpAny _ _ (Builtin.Tuple.tupleItemsOf (.ref t0) >>= _) _ _ s0
  refine wpAny_bind (tupleItemsOf_ h0 (wpAny_bind (wpAny_typeOf tS ?_)))
  rw [if_pos (by decide)]
  refine wpAny_bind (applied_step hq p1 p2 p3 hc ?_)
  have n1 : (c == 1) = false := by
    rw [beq_eq_false_iff_ne]
    exact hc1
  have e : ((List.range (Builtin.Slice.slicePlaces (Builtin.Slice.sliceAdjust o1 o2 c (zs.size : Nat)).1 (Builtin.Slice.sliceAdjust o1 o2 c (zs.size : Nat)).2 c)).filterMap fun (k : Nat) => zs[((Builtin.Slice.sliceAdjust o1 o2 c (zs.size : Nat)).1 + (k : Int) * c).toNat]?).toArray = (stepL zs.toList o1 o2 c).toArray := by
    unfold stepL
    rw [Array.length_toList]
    congr 2
    funext k
    exact (Array.getElem?_toList ..).symm
  show wpAny _ _ (if (_ == 0 && c == 1 && _ == zs.size) = true then _ else _) _ _ s0
  rw [n1, Bool.and_false, Bool.false_and, if_neg Bool.false_ne_true, e]
  first
    | exact wpAny_bind (m := Builtin.Tuple.tupleExact _) (wpAny_newObj_type (wpAny_pure ⟨_, rfl, wpAny_pure hz⟩) big)
    | exact wpAny_bind (m := Builtin.Tuple.tupleExact _) (wpAny_newObj_type (wpAny_bind (wpAny_pure (wpAny_pure ⟨_, rfl, wpAny_pure hz⟩))) big)
    | exact wpAny_bind (wpAny_bind (m := Builtin.Tuple.tupleExact _) (wpAny_newObj_type (wpAny_pure (wpAny_pure ⟨_, rfl, wpAny_pure hz⟩)) big))
    | exact wpAny_bind (wpAny_bind (m := Builtin.Tuple.tupleExact _) (wpAny_newObj_type (wpAny_pure ⟨_, rfl, wpAny_pure hz⟩) big))
end
theorem vals_pickF {xs : List V} {us : List Value} (r : Vals xs us) (f : Nat → Nat) : ∀ ks : List Nat, Vals (ks.filterMap fun k => xs[f k]?) (ks.filterMap fun k => us[f k]?)
  | [] => .nil
  | k :: ks => by
    have ih := vals_pickF r f ks
    rw [List.filterMap_cons, List.filterMap_cons]
    by_cases hk : f k < xs.length
    · have e := List.getElem?_eq_getElem hk
      obtain ⟨u, e2, ru⟩ := r.get e
      rw [e, e2]
      exact .cons ru ih
    · have e : xs[f k]? = none := List.getElem?_eq_none (by omega)
      have e2 : us[f k]? = none := List.getElem?_eq_none (by rw [← r.length]; omega)
      rw [e, e2]
      exact ih
theorem dv_pickF {K : Frag} {as : List Addr} {H : Hp} {vs : List V} {ps : List PyData} (r : DvAll K as H vs ps) (f : Nat → Nat) : ∀ ks : List Nat, DvAll K as H (ks.filterMap fun k => vs[f k]?) (ks.filterMap fun k => ps[f k]?)
  | [] => .nil
  | k :: ks => by
    have ih := dv_pickF r f ks
    rw [List.filterMap_cons, List.filterMap_cons]
    by_cases hk : f k < ps.length
    · have e := List.getElem?_eq_getElem hk
      obtain ⟨u, e2, ru⟩ := r.get e
      rw [e, e2]
      exact .cons ru ih
    · have e : ps[f k]? = none := List.getElem?_eq_none (by omega)
      have e2 : vs[f k]? = none := List.getElem?_eq_none (by rw [r.length]; omega)
      rw [e, e2]
      exact ih
theorem vals_step {xs : List V} {us : List Value} (r : Vals xs us) (lo hi : Option Int) (c : Int) : Vals (stepL xs lo hi c) (stepL us lo hi c) := by
  unfold stepL
  rw [r.length]
  exact vals_pickF r _ _
theorem dv_step {K : Frag} {as : List Addr} {H : Hp} {vs : List V} {ps : List PyData} (r : DvAll K as H vs ps) (lo hi : Option Int) (c : Int) : DvAll K as H (stepL vs lo hi c) (stepL ps lo hi c) := by
  unfold stepL
  rw [r.length]
  exact dv_pickF r _ _
/-- a step that is told in the text -/
def StepC (X : Cx) (e : Expr) (c : Int) : Prop := ∃ t, PO X (some e) t ∧ ∀ σ H (Q : Option Int → Hp → Prop), Q (some c) H → t σ H Q
theorem stepc_int {X : Cx} {j : Int} {k : Nat} {p1 : Pos} : StepC X (.Constant (.int j) k p1) j := ⟨_, po_some pe_int, fun _ _ _ q => ⟨j, rfl, q⟩⟩
theorem stepc_neg {X : Cx} {j : Int} {k : Nat} {p1 p2 : Pos} : StepC X (.UnaryOp .USub (.Constant (.int j) k p1) p2) (-j) := ⟨_, po_some (pe_un un_neg pe_int), fun _ _ _ q => ⟨j, rfl, -j, rfl, q⟩⟩
def tSlS (K : Frag) (te : TE) (tl th : TO) (c : Int) : TE := fun σ H Q => te σ H fun x H1 => tl σ H1 fun l H2 => th σ H2 fun u H3 => ∃ a xs, x = .ref a ∧ SqT K H3 a xs ∧ (stepL xs l u c).length ≤ sizeLine ∧ ∀ p, H3 p = none → Q (.ref p) (upd H3 p (.tup (stepL xs l u c)))
theorem pe_slS {X : Cx} {e se : Expr} {te : TE} {lo hi : Option Expr} {tl th : TO} {pos p2 : Pos} {c : Int} (c0 : c ≠ 0) (c1 : c ≠ 1) (he : PE X e te) (hl : PO X lo tl) (hu : PO X hi th) (hs : StepC X se c) :
    PE X (.Subscript e (.Slice lo hi (some se) p2) pos) (tSlS X.K te tl th c) := by
  obtain ⟨ts, hs, hts⟩ := hs
  refine ⟨fun pn a0 sg G0 Q0 J0 w0 => ?_⟩
  refine Subscript_ (thn (he.run pn a0 sg G0 _ J0 w0) fun v a1 ⟨x, G1, J1, r1, w1⟩ => ?_)
  refine wpAny_Slice (thn (hl.run pn a1 sg G1 _ J1 w1) fun v1 a2 ⟨l, G2, J2, m1, w2⟩ => thn (hu.run pn a2 sg G2 _ J2 w2) fun v2 a3 ⟨u, G3, J3, m2, w3⟩ => ?_)
  refine thn (hs.run pn a3 sg G3 (fun o G4 => o = some c ∧ G4 = G3) J3 (hts sg G3 _ ⟨rfl, rfl⟩)) fun v3 a4 ⟨o, G4, J4, m3, eo, eG⟩ => ?_
  subst eo eG
  obtain ⟨b, xs, rfl, sx, hz, q⟩ := w3
  cases r1
  have J5 : Inv X pn sg G4 { a4 with heap := a4.heap.push { cls := .type "slice", data := .fields #[v1, v2, v3] } } := J4.kept (t' := a4.toks) fun _ _ z => Heap.get?_push_of_some _ z
  obtain ⟨its, rv, ht, hn⟩ := J5.tuple sx
  show wpAny (model X.prog X.w) X.A (subscriptTail e (.Slice lo hi (some se) p2) (.ref b) (.ref a4.heap.objs.size)) (EP X pn sg Q0) X.xe { a4 with heap := a4.heap.push { cls := .type "slice", data := .fields #[v1, v2, v3] } }
  refine tail_any (ops := [.ref b, .ref a4.heap.objs.size]) ht.typeIs PyProof.Rows.slot_tuple_getitem.lookup ?_ (by with_unfolding_all rfl)
  have vr := vals_step rv l u c
  refine getTup_step ht (Heap.IsSliceOf.new _ v1 v2 v3) m1 m2 m3 c0 c1 (by rw [← vr.length]; exact hz) ?_
  exact ⟨.ref _, _, J5.laid (t' := a4.toks) (o := .tup (stepL xs l u c)) (fun _ _ z => Heap.get?_push_of_some _ z) (Nat.le_refl _) ⟨hz, _, vr, IsTup.new _ _⟩, rfl, q _ (J5.hok.fresh (Nat.le_refl _))⟩
def fSlT (c : Int) (fa : WE) (lo hi : En → Ho → (Option Int → Ho → Prop) → XD → Prop) : WE := fun ρ h Q E => fa ρ h (fun x h1 => lo ρ h1 (fun l h2 => hi ρ h2 (fun u h3 => match x with
  | .d (.tuple ps) => (stepL ps l u c).length ≤ sizeLine ∧ Q (.d (.tuple (stepL ps l u c))) h3
  | _ => False) E) E) E
theorem SE.slT {X : Cx} {W : WX} {a se : Expr} {fa : WE} {lo hi : Option Expr} {fl fu} {p2 pos : Pos} {c : Int} (c0 : c ≠ 0) (c1 : c ≠ 1) (ha : SE X W a fa) (hl : SO X W lo fl) (hu : SO X W hi fu) (hs : StepC X se c) : SE X W (.Subscript a (.Slice lo hi (some se) p2) pos) (fSlT c fa fl fu) := by
  obtain ⟨_, pa, sa⟩ := ha
  obtain ⟨_, pl, sl⟩ := hl
  obtain ⟨_, pu, su⟩ := hu
  refine ⟨_, pe_slS c0 c1 pa pl pu hs, fun σ H as ρ h Q E QV eR hR hq k kx => ?_⟩
  refine sa σ H as ρ h _ E _ eR hR hq (fun x h1 v as1 H1 hq1 l1 r1 rv => ?_) kx
  refine sl σ H1 as1 ρ h1 _ E _ (eR.later l1) r1 hq1 (fun lo h2 as2 H2 hq2 l2 r2 => ?_) (kx.later l1)
  refine su σ H2 as2 ρ h2 _ E _ ((eR.later l1).later l2) r2 hq2 (fun hi h3 as3 H3 hq3 l3 r3 => ?_) ((kx.later l1).later l2)
  have k3 := ((k.later l1).later l2).later l3
  have rv3 := (rv.later l2).later l3
  split at hq3
  · cases rv3 with | d rv3 =>
    cases rv3 with | tup sx ax =>
    have d := dv_step ax lo hi c
    exact ⟨_, _, rfl, sx.sq, by rw [d.length]; exact hq3.1, fun p hp => k3.newTup r3 hq3.2 d hp⟩
  · exact hq3.elim
end V2
set_option Elab.async false
set_option linter.all false
set_option maxRecDepth 100000
set_option maxHeartbeats 4000000
/-! ## The simplest fraction of a range -/
namespace V2
open PySem PySem.Spec PyProof.Rows L2
theorem rle {a b : Rat} : a ≤ b ↔ a.num * b.den ≤ b.num * a.den := Rat.le_iff a b
theorem dpos (a : Rat) : (0 : Int) < a.den := by have := a.den_nz; omega
theorem int_num (p : Int) : (p : Rat).num = p := rfl
theorem int_den (p : Int) : (p : Rat).den = 1 := rfl
/-- an integer more -/
theorem padd (p : Int) (q : Rat) : ((p : Rat) + q).num = p * q.den + q.num ∧ ((p : Rat) + q).den = q.den := by
  have cop : Nat.Coprime (p * q.den + q.num).natAbs q.den := by
    have h1 := Nat.gcd_dvd_left (p * q.den + q.num).natAbs q.den
    have h2 := Nat.gcd_dvd_right (p * q.den + q.num).natAbs q.den
    have h3 : ((Nat.gcd (p * q.den + q.num).natAbs q.den : Nat) : Int) ∣ p * q.den + q.num := Int.ofNat_dvd_left.2 h1
    have h4 : ((Nat.gcd (p * q.den + q.num).natAbs q.den : Nat) : Int) ∣ (q.den : Int) := Int.natCast_dvd_natCast.2 h2
    have h5 : ((Nat.gcd (p * q.den + q.num).natAbs q.den : Nat) : Int) ∣ q.num := by
      have := Int.dvd_sub h3 (Int.dvd_trans h4 (Int.dvd_mul_left p _))
      have e : p * (q.den : Int) + q.num - p * q.den = q.num := by omega
      rwa [e] at this
    have h6 := Nat.dvd_gcd (Int.ofNat_dvd_left.1 h5) h2
    have h7 : Nat.gcd q.num.natAbs q.den = 1 := q.reduced
    rw [h7] at h6
    exact Nat.dvd_one.1 h6
  have e : (p : Rat) + q = ⟨p * q.den + q.num, q.den, q.den_nz, cop⟩ := by
    rw [Rat.mk_eq_mkRat, add_mk, int_num, int_den, Rat.mkRat_eq_iff (by have := q.den_nz; omega) q.den_nz]
    simp
  rw [e]
  exact ⟨rfl, rfl⟩
theorem psub (p : Int) (q : Rat) : (q - (p : Rat)).num = q.num - p * q.den ∧ (q - (p : Rat)).den = q.den := by
  have e : q - (p : Rat) = ((-p : Int) : Rat) + q := by rw [Rat.intCast_neg]; grind
  rw [e]
  have := padd (-p) q
  exact ⟨by rw [this.1, Int.neg_mul]; omega, this.2⟩
theorem inv_nd {t : Rat} (h : 0 < t.num) : (1 / t).num = t.den ∧ ((1 / t).den : Int) = t.num := by
  have e : 1 / t = t⁻¹ := by rw [Rat.div_def, Rat.one_mul]
  have := inv_pos t h
  rw [← e] at this
  simp only [fr, PyData.tuple.injEq, List.cons.injEq, PyData.int.injEq, and_true] at this
  exact this
/-! ### floors and ceilings -/
def flo (q : Rat) : Int := q.num.fdiv q.den
def cei (q : Rat) : Int := -((-q.num).fdiv q.den)
theorem flo_iff {p : Int} {q : Rat} : p ≤ flo q ↔ (p : Rat) ≤ q := by
  rw [rle, int_num, int_den]
  unfold flo
  rw [fdiv_nat, Int.le_ediv_iff_mul_le (dpos q)]
  simp
theorem cei_iff {p : Int} {q : Rat} : cei q ≤ p ↔ q ≤ (p : Rat) := by
  rw [rle, int_num, int_den]
  unfold cei
  rw [fdiv_nat]
  have h := Int.le_ediv_iff_mul_le (a := -p) (b := -q.num) (dpos q)
  have : -(-q.num / (q.den : Int)) ≤ p ↔ -p ≤ -q.num / (q.den : Int) := by omega
  rw [this, h, Int.neg_mul]
  simp only [Int.natCast_one, Int.mul_one]
  omega
theorem flo_le (q : Rat) : (flo q : Rat) ≤ q := flo_iff.1 (Int.le_refl _)
theorem flo_mono {a b : Rat} (h : a ≤ b) : flo a ≤ flo b := flo_iff.2 (Rat.le_trans (flo_le a) h)
/-! ### of all in a range: the least bottom, of these the least; where all are above 0 the least top, too -/
structure Best (lo hi r : Rat) : Prop where
  ge : lo ≤ r
  le : r ≤ hi
  den : ∀ x, lo ≤ x → x ≤ hi → r.den ≤ x.den
  low : ∀ x, lo ≤ x → x ≤ hi → x.den = r.den → r ≤ x
  num : 0 < lo.num → ∀ x, lo ≤ x → x ≤ hi → r.num ≤ x.num
theorem pos_of_le {a b : Rat} (h : a ≤ b) (ha : 0 < a.num) : 0 < b.num := by
  rw [rle] at h
  have h1 : 0 < a.num * b.den := Int.mul_pos ha (dpos b)
  exact Int.pos_of_mul_pos_left (Int.lt_of_lt_of_le h1 h) (dpos a)
theorem inv_le {a b : Rat} (ha : 0 < a.num) (h : a ≤ b) : 1 / b ≤ 1 / a := by
  have hb := pos_of_le h ha
  rw [rle] at h ⊢
  rw [(inv_nd ha).1, (inv_nd ha).2, (inv_nd hb).1, (inv_nd hb).2]
  rw [Int.mul_comm, Int.mul_comm (a.den : Int)]
  exact h
theorem inv_inv' {a : Rat} (ha : 0 < a.num) : 1 / (1 / a) = a := by
  have h1 := inv_nd ha
  have h2 := inv_nd (t := 1 / a) (by rw [h1.1]; exact dpos a)
  refine Rat.ext ?_ ?_
  · rw [h2.1, h1.2]
  · have := h2.2
    rw [h1.1] at this
    exact_mod_cast this
/-- the range of one turn further -/
structure Turned (lo hi : Rat) (p : Int) : Prop where
  p_eq : p = flo lo
  le : lo ≤ hi
  no : ¬ cei lo ≤ flo hi
section
variable {lo hi : Rat} {p : Int} (t : Turned lo hi p)
include t
theorem Turned.lo_pos : 0 < (lo - (p : Rat)).num := by
  have h1 : ¬ lo ≤ (p : Rat) := fun z => t.no (Int.le_trans (cei_iff.2 z) (by rw [t.p_eq]; exact flo_mono t.le))
  rw [rle, int_num, int_den] at h1
  rw [(psub p lo).1]
  simp only [Int.natCast_one, Int.mul_one] at h1
  omega
theorem Turned.sub_le : lo - (p : Rat) ≤ hi - (p : Rat) := by
  have h := t.le
  rw [rle] at h ⊢
  rw [(psub p lo).1, (psub p lo).2, (psub p hi).1, (psub p hi).2, Int.sub_mul, Int.sub_mul]
  have e : p * (lo.den : Int) * hi.den = p * hi.den * lo.den := by grind
  omega
theorem Turned.hi_pos : 0 < (hi - (p : Rat)).num := pos_of_le t.sub_le t.lo_pos
theorem Turned.hi_lt : (hi - (p : Rat)).num < hi.den := by
  have h1 : cei lo ≤ p + 1 := by
    refine cei_iff.2 ?_
    have : ¬ p + 1 ≤ flo lo := by have := t.p_eq; omega
    rw [flo_iff] at this
    exact Rat.le_of_lt (Rat.not_le.1 this)
  have h2 : ¬ p + 1 ≤ flo hi := fun z => t.no (Int.le_trans h1 z)
  rw [flo_iff, rle, int_num, int_den] at h2
  rw [(psub p hi).1]
  have e : (p + 1) * (hi.den : Int) = p * hi.den + hi.den := by rw [Int.add_mul, Int.one_mul]
  rw [e] at h2
  simp only [Int.natCast_one, Int.mul_one] at h2
  omega
theorem Turned.lo_lt : (lo - (p : Rat)).num < lo.den := by
  have : ¬ p + 1 ≤ flo lo := by have := t.p_eq; omega
  rw [flo_iff, rle, int_num, int_den] at this
  rw [(psub p lo).1]
  have e : (p + 1) * (lo.den : Int) = p * lo.den + lo.den := by rw [Int.add_mul, Int.one_mul]
  rw [e] at this
  simp only [Int.natCast_one, Int.mul_one] at this
  omega
theorem Turned.range : 1 / (hi - (p : Rat)) ≤ 1 / (lo - (p : Rat)) := inv_le t.lo_pos t.sub_le
theorem Turned.dens : (1 / (hi - (p : Rat))).den < hi.den ∧ (1 / (lo - (p : Rat))).den < lo.den := by
  have h1 := (inv_nd t.hi_pos).2
  have h2 := (inv_nd t.lo_pos).2
  have h3 := t.hi_lt
  have h4 := t.lo_lt
  omega
theorem Turned.sz {n : Nat} (s1 : Sz n lo) (s2 : Sz n hi) : Sz n (1 / (hi - (p : Rat))) ∧ Sz n (1 / (lo - (p : Rat))) := by
  have h1 := inv_nd t.hi_pos
  have h2 := inv_nd t.lo_pos
  have d := t.dens
  refine ⟨⟨?_, Nat.lt_trans d.1 s2.2⟩, ⟨?_, Nat.lt_trans d.2 s1.2⟩⟩
  · rw [h1.1, (psub p hi).2, nab]; exact s2.2
  · rw [h2.1, (psub p lo).2, nab]; exact s1.2
end
theorem Best.sz {lo hi r : Rat} {n : Nat} (b : Best lo hi r) (s1 : Sz n lo) (s2 : Sz n hi) : Sz (n + n) r := by
  have hd := b.den lo (Rat.le_refl) (Rat.le_trans b.ge b.le)
  have hdn : r.den < 2 ^ n := Nat.lt_of_le_of_lt hd s1.2
  refine ⟨?_, Nat.lt_of_lt_of_le hdn (Nat.pow_le_pow_right (by decide) (by omega))⟩
  have h1 := rle.1 b.ge
  have h2 := rle.1 b.le
  rw [Nat.pow_add]
  have dl := dpos lo
  have dh := dpos hi
  have dr := dpos r
  by_cases c : 0 ≤ r.num
  · have k1 : r.num ≤ r.num * hi.den := by
      have := Int.mul_le_mul_of_nonneg_left (show (1 : Int) ≤ hi.den by omega) c
      omega
    have k2 : hi.num * r.den ≤ hi.num.natAbs * r.den := Int.mul_le_mul_of_nonneg_right (by omega) (by omega)
    have k3 : r.num.natAbs ≤ hi.num.natAbs * r.den := by
      have : (r.num.natAbs : Int) ≤ ((hi.num.natAbs * r.den : Nat) : Int) := by rw [Int.natCast_mul]; omega
      exact_mod_cast this
    exact Nat.lt_of_le_of_lt k3 (Nat.mul_lt_mul'' s2.1 hdn)
  · have k1 : -r.num ≤ (-r.num) * lo.den := by
      have := Int.mul_le_mul_of_nonneg_left (show (1 : Int) ≤ lo.den by omega) (show 0 ≤ -r.num by omega)
      omega
    have k2 : (-lo.num) * r.den ≤ lo.num.natAbs * r.den := Int.mul_le_mul_of_nonneg_right (by omega) (by omega)
    rw [Int.neg_mul] at k1 k2
    have k3 : r.num.natAbs ≤ lo.num.natAbs * r.den := by
      have : (r.num.natAbs : Int) ≤ ((lo.num.natAbs * r.den : Nat) : Int) := by rw [Int.natCast_mul]; omega
      exact_mod_cast this
    exact Nat.lt_of_le_of_lt k3 (Nat.mul_lt_mul'' s1.1 hdn)
end V2
set_option Elab.async false
set_option linter.all false
set_option maxRecDepth 100000
set_option maxHeartbeats 4000000
namespace V2
open PySem PySem.Spec PyProof.Rows L2
section
variable {ρ : En} {h : Ho} {Q : KD} {E : XD} {nx : En → Ho → Prop} {rt : KD} {bk ct : En → Ho → Prop} {ex : Ex → En → Ho → Prop} {f : WS} {t : WT}
theorem i_eqsr {i : Str} (k : Q (.d (.bool true)) h) : rEq2 (.d (.str i)) (.d (.str i)) h Q := by
  refine i_eqs ?_
  rw [decide_eq_true rfl]
  exact k
theorem i_whileE (I : Nat → En → Ho → Prop) {m0 : Nat} (h0 : I m0 ρ h)
    (hs : ∀ m ρ h, I m ρ h → t ρ h (fun b h1 => if b = true then f ρ h1 ⟨fun ρ' h' => ∃ m', m' < m ∧ I m' ρ' h', rt, nx, fun ρ' h' => ∃ m', m' < m ∧ I m' ρ' h', ex⟩ else nx ρ h1) (fun x h => ex x ρ h)) : sWhile t f ρ h ⟨nx, rt, bk, ct, ex⟩ :=
  ⟨I, ⟨m0, h0⟩, hs⟩
theorem i_slT {c : Int} {n : Nat} {ps : List PyData} (e : GetAt n ρ (.d (.tuple ps))) (hl : (stepL ps none none c).length ≤ sizeLine) (k : Q (.d (.tuple (stepL ps none none c))) h) : fSlT c (fVar n) oNone oNone ρ h Q E := i_var e ⟨hl, k⟩
theorem i_range2 {ga : WA} {QI : List D → (Ho → Prop) → Ho → Prop} (k : ga ρ h (fun ys h1 => ∃ i j, ys = [.d (.int i), .d (.int j)] ∧ (-(2 ^ 62) ≤ i ∧ i < 2 ^ 62 ∧ -(2 ^ 62) ≤ j ∧ j < 2 ^ 62) ∧ QI (rangeD i (j - i).toNat) (fun _ => True) h1) E) : iRange2 ga ρ h QI E := by
  have e : (fun (ys : List D) (h1 : Ho) => ∃ i j, ys = [.d (.int i), .d (.int j)] ∧ (-(2 ^ 62) ≤ i ∧ i < 2 ^ 62 ∧ -(2 ^ 62) ≤ j ∧ j < 2 ^ 62) ∧ QI (rangeD i (j - i).toNat) (fun _ => True) h1) = (fun ys h1 => match ys with
      | [.d (.int i), .d (.int j)] => (-(2 ^ 62) ≤ i ∧ i < 2 ^ 62 ∧ -(2 ^ 62) ≤ j ∧ j < 2 ^ 62) ∧ QI (rangeD i (j - i).toNat) (fun _ => True) h1
      | _ => False) := by
    funext ys h1
    apply propext
    constructor
    · rintro ⟨i, j, rfl, hq⟩; exact hq
    · split
      · exact fun hq => ⟨_, _, rfl, hq⟩
      · exact False.elim
  rw [e] at k
  exact k
theorem i_isr2 {i j : Int} {P : Int → Int → Prop} (k : P i j) : ∃ i' j', [D.d (.int i), D.d (.int j)] = [.d (.int i'), .d (.int j')] ∧ P i' j' := ⟨i, j, rfl, k⟩
end
/-! ### quotients beside what is less -/
/-- the other way round, and over 1 -/
theorem Best.neg_den {lo hi r s : Rat} (a : Best lo hi r) (b : Best (-hi) (-lo) s) : s.den = r.den := by
  have h1 := b.den (-r) (Rat.neg_le_neg a.le) (Rat.neg_le_neg a.ge)
  have h2 := a.den (-s) (by have := b.le; have := Rat.neg_le_neg this; rwa [Rat.neg_neg] at this) (by have := b.ge; have := Rat.neg_le_neg this; rwa [Rat.neg_neg] at this)
  rw [Rat.neg_den] at h1 h2
  omega
theorem Best.inv {lo hi r s : Rat} (hp : 0 < lo.num) (a : Best lo hi r) (b : Best (1 / hi) (1 / lo) s) : s = 1 / r := by
  have hr := pos_of_le a.ge hp
  have hh := pos_of_le a.le hr
  have h0 : 0 < (1 / hi).num := by rw [(inv_nd hh).1]; exact dpos _
  have hs := pos_of_le b.ge h0
  have m1 : 1 / hi ≤ 1 / r := inv_le hr a.le
  have m2 : 1 / r ≤ 1 / lo := inv_le hp a.ge
  have g1 : lo ≤ 1 / s := by have := inv_le hs b.le; rwa [inv_inv' hp] at this
  have g2 : 1 / s ≤ hi := by have := inv_le h0 b.ge; rwa [inv_inv' hh] at this
  have ir := inv_nd hr
  have is := inv_nd hs
  have d1 := b.den _ m1 m2
  have n1 := b.num h0 _ m1 m2
  have d2 := a.den _ g1 g2
  have n2 := a.num hp _ g1 g2
  rw [ir.1] at n1
  rw [is.1] at n2
  have e1 : s.num = (1 / r).num := by rw [ir.1]; have := is.2; omega
  have e2 : s.den = (1 / r).den := by have := ir.2; omega
  exact Rat.ext e1 e2
theorem Best.sub {lo hi lo' hi' r s : Rat} (a : Best lo hi r) (b : Best lo' hi' s) (h1 : lo ≤ lo') (h2 : hi' ≤ hi) : r.den ≤ s.den := a.den s (Rat.le_trans h1 b.ge) (Rat.le_trans b.le h2)
/-! ### what is walked through: its length -/
def Long (n : Nat) (us : List Int) (a b : Rat) : Prop := us = [] ∨ ((a.den : Int) < a.num ∧ (b.den : Int) < b.num ∧ us.length ≤ 2 * n ∧ a.num.natAbs * a.den < 2 ^ (2 * n + 1 - us.length) ∧ b.num.natAbs * b.den < 2 ^ (2 * n + 1 - us.length))
theorem Long.len {n : Nat} {us : List Int} {a b : Rat} (l : Long n us a b) : us.length ≤ 2 * n := by
  rcases l with rfl | l
  · exact Nat.zero_le _
  · exact l.2.2.1
end V2
set_option Elab.async false
set_option linter.all false
set_option maxRecDepth 100000
set_option maxHeartbeats 4000000
/-! ## zip and enumerate over lists and tuples, whichever -/
namespace V2
open PySem PySem.Spec PyProof.Rows L2
open PySem.W (Frag)
/-- of a source: true for a list, false for a tuple -/
def HasS (k : Bool) (h : Heap) (a : Addr) (its : Array Value) : Prop := match k with
  | true => h.IsList a its
  | false => h.IsTuple a its
def ItS (k : Bool) (h : Heap) (it a : Addr) (i : Nat) : Prop := match k with
  | true => h.IsListIter it a i
  | false => h.IsTupleIter it a i
def SqS (k : Bool) (K : Frag) (H : Hp) (a : Addr) (xs : List V) : Prop := match k with
  | true => SqL K H a xs
  | false => SqT K H a xs
def newS (k : Bool) (a : Addr) : Obj := match k with
  | true => { cls := .type "list_iterator", data := .fields #[.ref a, .int 0 0] }
  | false => { cls := .type "tuple_iterator", data := .fields #[.ref a, .int 0 0] }
section
variable {k : Bool} {h h2 : Heap} {it a : Addr} {i : Nat} {its : Array Value}
theorem ItS.obj (q : ItS k h it a i) : ∃ o, h.get? it = some o ∧ ∀ v, o.data ≠ .cell v := by
  cases k
  · obtain ⟨o, e, _, d⟩ := q
    exact ⟨o, e, fun v z => by rw [d] at z; cases z⟩
  · obtain ⟨o, e, _, d⟩ := q
    exact ⟨o, e, fun v z => by rw [d] at z; cases z⟩
theorem ItS.at (q : ItS k h it a i) (e : ∀ o, h.get? it = some o → h2.get? it = some o) : ItS k h2 it a i := by
  cases k
  · exact Heap.IsTupleIter.at q e
  · exact Heap.IsListIter.at q e
theorem ItS.start (e : h.get? it = some (newS k a)) : ItS k h it a 0 := by
  cases k
  · exact ⟨_, e, rfl, rfl⟩
  · exact ⟨_, e, rfl, rfl⟩
theorem HasS.live (q : HasS k h a its) : ∃ o, h.get? a = some o := by
  cases k
  · obtain ⟨o, e, _⟩ := q
    exact ⟨o, e⟩
  · obtain ⟨o, e, _⟩ := q
    exact ⟨o, e⟩
theorem begins_s : Begins (.ref a) (newS k a) (fun h => HasS k h a its) := by
  cases k
  · exact begins_tuple a its
  · exact begins_list a its
theorem draws_s {prog : Program} {w : World} {A : Around} (hh : A.handled = none) (ne : a ≠ it) : Draws prog w A it [it, a] its.size (fun i v => its[i]? = some v) (fun i h => ItS k h it a i ∧ HasS k h a its) := by
  cases k
  · exact Draws.tuple hh it a ne its
  · exact Draws.list hh it a ne its
end
theorem inv_s {k : Bool} {X : Cx} {pins : List (Addr × Obj)} {σ : L2.St} {H : Hp} {s : Shared} (I : Inv X pins σ H s) {a : Addr} {xs : List V} (q : SqS k X.K H a xs) : ∃ its : List Value, Vals xs its ∧ HasS k s.heap a its.toArray := by
  cases k
  · obtain ⟨its, rv, pl, _⟩ := I.tuple q
    exact ⟨its, rv, pl⟩
  · obtain ⟨its, rv, pl, _⟩ := I.list q
    exact ⟨its, rv, pl.isList⟩
theorem inj_s {k : Bool} {X : Cx} {pins : List (Addr × Obj)} {σ : L2.St} {H : Hp} {s : Shared} (I : Inv X pins σ H s) {a : Addr} {xs ys : List V} (q : SqS k X.K H a xs) (r : SqS k X.K H a ys) : xs = ys := by
  cases k
  · exact I.tuple_inj q r
  · exact I.list_inj q r
/-! ### zip -/
/-- the sources as they stand at each turn, the items in new pairs -/
def ItZ (k l : Bool) (K : Frag) (a b : Addr) : It :=
  ⟨fun i H => ∃ (xs ys : List V) (x y : V), SqS k K H a xs ∧ SqS l K H b ys ∧ xs[i]? = some x ∧ ys[i]? = some y,
    fun i H v H2 => ∃ T x y, v = .ref T ∧ H T = none ∧ H2 = upd H T (.tup [x, y]) ∧ (∀ xs, SqS k K H a xs → xs[i]? = some x) ∧ ∀ ys, SqS l K H b ys → ys[i]? = some y,
    fun i H => ∃ xs ys : List V, SqS k K H a xs ∧ SqS l K H b ys ∧ i ≤ xs.length ∧ i ≤ ys.length ∧ (i = xs.length ∨ i = ys.length)⟩
theorem turn_zz {P : Program} {w : World} {K : Frag} {es : List Expr} {n1 : Nat} {tp : Pos} {k l : Bool} {a b z TI TO p q : Addr} (S : ZipSep2 z TI TO p q [p, a] [q, b]) (nea : a ≠ p) (neb : b ≠ q) :
    Turn P w K (.Tuple es n1 tp) (ItZ k l K a b) [z, TI, TO, p, q] z (fun i h => IsZip h z TI TO .none ∧ IsTupOf2 h TI (.ref p) (.ref q) ∧ (∃ x y, IsTupOf2 h TO x y) ∧ ItS k h p a i ∧ ItS l h q b i) where
  mem := by simp
  obj := fun i h st c hc => by
    obtain ⟨g1, g2, ⟨x, y, g3⟩, g4, g5⟩ := st
    simp only [List.mem_cons, List.not_mem_nil, or_false] at hc
    rcases hc with rfl | rfl | rfl | rfl | rfl
    · exact ⟨_, g1, fun v e => nomatch e⟩
    · exact ⟨_, g2, fun v e => nomatch e⟩
    · exact ⟨_, g3, fun v e => nomatch e⟩
    · exact g4.obj
    · exact g5.obj
  keep := fun i h h2 st kp => by
    obtain ⟨g1, g2, ⟨x, y, g3⟩, g4, g5⟩ := st
    exact ⟨kp z (by simp) _ g1, kp TI (by simp) _ g2, ⟨x, y, kp TO (by simp) _ g3⟩, g4.at fun o e => kp p (by simp) o e, g5.at fun o e => kp q (by simp) o e⟩
  item := by
    intro X eP ew eK cal i pins s σ H E I fo st gd
    subst eP ew eK
    obtain ⟨g1, g2, ⟨x0, y0, g3⟩, g4, g5⟩ := st
    obtain ⟨xs, ys, x, y, s1, s2, ex, ey⟩ := gd
    obtain ⟨us, r1, h1⟩ := inv_s I s1
    obtain ⟨ws, r2, h2⟩ := inv_s I s2
    have hd : X.A.in1.handled = none := I.ok.hd cal
    have D1 := draws_s (k := k) (prog := X.prog) (w := X.w) (its := us.toArray) hd nea
    have D2 := draws_s (k := l) (prog := X.prog) (w := X.w) (its := ws.toArray) hd neb
    obtain ⟨u, eu, ru⟩ := r1.get ex
    obtain ⟨v, ev, rv⟩ := r2.get ey
    have i1 : i < us.toArray.size := by rw [List.size_toArray]; exact (List.getElem?_eq_some_iff.1 eu).1
    have i2 : i < ws.toArray.size := by rw [List.size_toArray]; exact (List.getElem?_eq_some_iff.1 ev).1
    have zl : z < s.heap.objs.size := Heap.lt_size g1
    refine wpAny_pyNext_zipD2_item S D1 D2 g1 g2 g3 ⟨g4, h1⟩ ⟨g5, h2⟩ i1 i2 fun x1 x2 m tk y1 y2 z' t' st1 st2 hT _ kp => ?_
    have e1 : x1 = u := by
      have : us.toArray[i]? = some x1 := y1
      rw [List.getElem?_toArray, eu] at this
      exact (Option.some.inj this).symm
    have e2 : x2 = v := by
      have : ws.toArray[i]? = some x2 := y2
      rw [List.getElem?_toArray, ev] at this
      exact (Option.some.inj this).symm
    subst e1 e2
    refine ⟨_, rfl, wpAny_letOwnedTupleGo_zip (s := { s with heap := m, toks := tk }) z' fun m2 z2 sb => ?_⟩
    have T2 : m2.get? s.heap.objs.size = some { cls := .type "tuple", data := .seq #[x1, x2] } := (sb.2 _ (Nat.ne_of_gt zl)).trans hT
    have ob : ObjOk X.prog X.w (upd H s.heap.objs.size (.tup [x, y])) m2 s.heap.objs.size (.tup [x, y]) := ⟨by show 2 ≤ sizeLine; decide, [x1, x2], .cons ru (.cons rv .nil), ⟨_, T2, rfl, _, rfl⟩⟩
    have chg : ∀ c o, c ∉ [z, TI, TO, p, q] → s.heap.get? c = some o → m2.get? c = some o := fun c o nc e => by
      simp only [List.mem_cons, List.not_mem_nil, or_false, not_or] at nc
      exact (sb.2 c nc.1).trans (kp c o nc.1 nc.2.2.1 nc.2.2.2.1 nc.2.2.2.2 e)
    have J := I.turnedNew (t' := tk) chg fo (Nat.le_refl _) ob
    refine ⟨.ref s.heap.objs.size, _, J, rfl, ⟨_, x, y, rfl, I.hok.fresh (Nat.le_refl _), rfl, fun ls e => by rw [inj_s I e s1]; exact ex, fun ls e => by rw [inj_s I e s2]; exact ey⟩, ⟨z2, ?_, ⟨x1, x2, ?_⟩, ?_, ?_⟩, fun c hc => ?_⟩
    · exact (sb.2 _ S.TIz).trans (kp _ _ S.TIz S.TITO S.TIi1 S.TIi2 g2)
    · exact (sb.2 _ S.TOz).trans t'
    · exact st1.1.at fun o e => (sb.2 _ (Ne.symm S.zi1)).trans e
    · exact st2.1.at fun o e => (sb.2 _ (Ne.symm S.zi2)).trans e
    · have hl : c < s.heap.objs.size := by
        simp only [List.mem_cons, List.not_mem_nil, or_false] at hc
        rcases hc with rfl | rfl | rfl | rfl | rfl
        · exact zl
        · exact Heap.lt_size g2
        · exact Heap.lt_size g3
        · obtain ⟨o, e, _⟩ := g4.obj; exact Heap.lt_size e
        · obtain ⟨o, e, _⟩ := g5.obj; exact Heap.lt_size e
      rw [upd_ne (Nat.ne_of_lt hl)]
      exact (fo c hc).1
  done := by
    intro X eP ew eK cal i pins s σ H E I fo st gd
    subst eP ew eK
    obtain ⟨g1, g2, ⟨x0, y0, g3⟩, g4, g5⟩ := st
    obtain ⟨xs, ys, s1, s2, l1, l2, en⟩ := gd
    obtain ⟨us, r1, h1⟩ := inv_s I s1
    obtain ⟨ws, r2, h2⟩ := inv_s I s2
    have hd : X.A.in1.handled = none := I.ok.hd cal
    have D1 := draws_s (k := k) (prog := X.prog) (w := X.w) (its := us.toArray) hd nea
    have D2 := draws_s (k := l) (prog := X.prog) (w := X.w) (its := ws.toArray) hd neb
    have a1 := r1.length
    have a2 := r2.length
    refine wpAny_pyNext_zipD2_end S D1 D2 g1 g2 g3 ⟨g4, h1⟩ ⟨g5, h2⟩ (by rw [List.size_toArray]; omega) (by rw [List.size_toArray]; omega) (by rw [List.size_toArray, List.size_toArray]; omega) fun m tk kp => ⟨rfl, ?_⟩
    refine I.turnedL (t' := tk) (ch := [z, TI, TO, p, q]) (fun c o nc e => ?_) fo
    simp only [List.mem_cons, List.not_mem_nil, or_false, not_or] at nc
    exact kp c o nc.1 nc.2.2.1 nc.2.2.2.1 nc.2.2.2.2 e
  self := fun A i s Q E st hq => wpAny_pyIter_zip st.1 hq
def iZZ (K : Frag) (ta : TA) : TI := fun σ H R => ta σ H fun vs H1 => ∃ (k l : Bool) (a b : Addr) (xs ys : List V), vs = [.ref a, .ref b] ∧ SqS k K H1 a xs ∧ SqS l K H1 b ys ∧ R (ItZ k l K a b) H1
theorem pi_zz {X : Cx} {e e2 : Expr} {ta : TA} {p pos tp : Pos} {es : List Expr} {n1 : Nat} (hg : Gl X "zip") (hm : X.mg "zip" = none) (ha : PA X [e, e2] ta)
    (hs : starEach [e, e2] X.env = (false, eval e X.env) :: starEach [e2] X.env := by rfl) (hpl : (backTo pos (starEach [e2] X.env)).any (·.1) = false := by rfl) :
    PI X (.Tuple es n1 tp) (.Call (.Name "zip" p) [e, e2] [] pos) (iZZ X.K ta) := by
  refine ⟨fun pn s0 sg G0 R J0 w0 => ?_⟩
  refine Call_ (ld_blt J0 hg hm PyProof.Rows.boot_zip (PyProof.Rows.callWith_type1 (thn (ha.run pos pn s0 sg G0 _ J0 w0) fun us a1 ⟨vs, G1, J1, r1, w1⟩ => ?_) hs hpl))
  obtain ⟨k, l, a, b, xs, ys, rfl, s1, s2, q⟩ := w1
  cases r1 with
  | cons c1 r1 =>
  cases r1 with
  | cons c2 r1 =>
  cases r1
  cases c1
  cases c2
  obtain ⟨us, _, h1⟩ := inv_s J1 s1
  obtain ⟨ws, _, h2⟩ := inv_s J1 s2
  obtain ⟨oa, ea⟩ := h1.live
  obtain ⟨ob, eb⟩ := h2.live
  have la := Heap.lt_size ea
  have lb := Heap.lt_size eb
  refine zip_begins2 (begins_s (k := k) (a := a) (its := us.toArray)) (begins_s (k := l) (a := b) (its := ws.toArray)) h1 h2 fun m hz hT hO e1 e2 _ kp => wpAny_pyIter_zip hz ?_
  have J2 : Inv X pn sg G1 { a1 with heap := m } := J1.kept (t' := a1.toks) kp
  have S := zip_sep2 (N := a1.heap.objs.size) (fp1 := [a]) (fp2 := [b]) (by simpa using la) (by simpa using lb)
  refine ⟨a1.heap.objs.size + 4, [a1.heap.objs.size + 4, a1.heap.objs.size + 2, a1.heap.objs.size + 3, a1.heap.objs.size, a1.heap.objs.size + 1], _, _, G1, rfl, J2, turn_zz (k := k) (l := l) S (Nat.ne_of_lt la) (Nat.ne_of_lt (Nat.lt_succ_of_lt lb)), ⟨hz, hT, ⟨_, _, hO⟩, ItS.start e1, ItS.start e2⟩, fun c hc => ?_, q⟩
  have hle : a1.heap.objs.size ≤ c := by
    simp only [List.mem_cons, List.not_mem_nil, or_false] at hc
    rcases hc with rfl | rfl | rfl | rfl | rfl
    · exact Nat.le_add_right _ _
    · exact Nat.le_add_right _ _
    · exact Nat.le_add_right _ _
    · exact Nat.le_refl _
    · exact Nat.le_add_right _ _
  exact J1.fpOk hle (J1.hok.fresh hle)
end V2
set_option Elab.async false
set_option linter.all false
set_option maxRecDepth 100000
set_option maxHeartbeats 4000000
/-! ## enumerate; both over data -/
namespace V2
open PySem PySem.Spec PyProof.Rows L2
open PySem.W (Frag)
/-! ### enumerate(x) -/
theorem meets_enum1 {v : Value} {o : Obj} {Z : Heap → Prop} (B : Begins v o Z) :
    Meets (Builtin.«enumerate.__new__» ⟨[.type "enumerate", v], []⟩) (fun _ R s => Z s.heap ∧
      R (.ok (.ret (.ref (s.heap.push o).objs.size))) { s with heap := (s.heap.push o).push { cls := .type "enumerate", data := .fields #[.none, .bool false, .ref s.heap.objs.size, rawInt 0, .none, .none] } }) :=
  .of_wp fun pg wd Ar R s hh => by
    obtain ⟨m, g, d, tk, os⟩ := s; obtain ⟨z, hh⟩ := hh
    have sub := sub_enumerate
    have go : ∀ {A2 : Around} {E : Value → Shared → Prop} {Q : Value → Shared → Prop}, Q (.ref m.objs.size) ⟨m.push o, g, d, tk, os⟩ → wpAny (model pg wd) A2 (pyIter v) Q E ⟨m, g, d, tk, os⟩ := fun q => B.iter pg wd _ _ ⟨m, g, d, tk, os⟩ _ z q
    wp_walk using go
    refine wpAny_stack_any fun sk => wpAny_pure ?_
    split
    · rename_i cl _ _ _ _ _
      cases (cl == Value.type "enumerate")
      · wp_walk using go
        exact ⟨_, rfl, hh⟩
      · wp_walk using go
        exact ⟨_, rfl, hh⟩
    · wp_walk using go
      exact ⟨_, rfl, hh⟩
theorem enum_starts {prog : Program} {w : World} {A : Around} {E : Value → Shared → Prop} {s : Shared} {v : Value} {o : Obj} {Z : Heap → Prop} {Q : Value → Shared → Prop} (B : Begins v o Z) (z : Z s.heap)
    (hq : ∀ m, IsEnum m (s.heap.objs.size + 1) s.heap.objs.size 0 .none → m.get? s.heap.objs.size = some o → (∀ b ob, s.heap.get? b = some ob → m.get? b = some ob) → Q (.ref (s.heap.objs.size + 1)) { s with heap := m }) :
    wpAny (model prog w) A (call (.type "enumerate") [v]) Q E s := by
  refine callType_new F.called_enumerate (by decide) (F.typeCall_enumerate_1 _) (F.newCall_enumerate_1 _) (fun obj => F.args_object_init_2 obj _) F.entry_enumerate_new (meets_enum1 B) ⟨z, ?_⟩
  have sz : (s.heap.push o).objs.size = s.heap.objs.size + 1 := Heap.size_push ..
  have e1 : IsEnum ((s.heap.push o).push { cls := .type "enumerate", data := .fields #[.none, .bool false, .ref s.heap.objs.size, rawInt 0, .none, .none] }) (s.heap.objs.size + 1) s.heap.objs.size 0 .none := by
    have q := Heap.get?_push_size (s.heap.push o) (o := { cls := .type "enumerate", data := .fields #[.none, .bool false, .ref s.heap.objs.size, rawInt 0, .none, .none] }) rfl
    rw [sz] at q; exact q
  show _ ∧ _
  rw [sz]
  exact ⟨⟨_, e1, rfl⟩, hq _ e1 (Heap.get?_push_of_some _ (Heap.get?_push_size _ B.free)) fun b ob x => Heap.get?_push_of_some _ (Heap.get?_push_of_some _ x)⟩
/-- the source as it stands at each turn, each item in a new pair with its place -/
def ItE (k : Bool) (K : Frag) (a : Addr) : It :=
  ⟨fun i H => ∃ (xs : List V) (x : V), SqS k K H a xs ∧ xs[i]? = some x,
    fun i H v H2 => ∃ T x, v = .ref T ∧ H T = none ∧ H2 = upd H T (.tup [.int (i : Nat), x]) ∧ ∀ xs, SqS k K H a xs → xs[i]? = some x,
    fun i H => ∃ xs : List V, SqS k K H a xs ∧ i = xs.length⟩
theorem turn_ee {P : Program} {w : World} {K : Frag} {es : List Expr} {n1 : Nat} {tp : Pos} {k : Bool} {a e p : Addr} (nea : a ≠ p) (nep : e ≠ p) (nee : e ≠ a) :
    Turn P w K (.Tuple es n1 tp) (ItE k K a) [e, p] e (fun i h => (∃ old, IsEnum h e p ((i : Nat) : Int) old) ∧ ItS k h p a i) where
  mem := by simp
  obj := fun i h st c hc => by
    obtain ⟨⟨old, g1⟩, g2⟩ := st
    simp only [List.mem_cons, List.not_mem_nil, or_false] at hc
    rcases hc with rfl | rfl
    · exact ⟨_, g1, fun v q => nomatch q⟩
    · exact g2.obj
  keep := fun i h h2 st kp => by
    obtain ⟨⟨old, g1⟩, g2⟩ := st
    exact ⟨⟨old, kp e (by simp) _ g1⟩, g2.at fun o q => kp p (by simp) o q⟩
  item := by
    intro X eP ew eK cal i pins s σ H E I fo st gd
    subst eP ew eK
    obtain ⟨⟨old, g1⟩, g2⟩ := st
    obtain ⟨xs, x, s1, ex⟩ := gd
    obtain ⟨us, r1, h1⟩ := inv_s I s1
    have hd : X.A.in1.handled = none := I.ok.hd cal
    have D1 := draws_s (k := k) (prog := X.prog) (w := X.w) (its := us.toArray) hd nea
    obtain ⟨u, eu, ru⟩ := r1.get ex
    have i1 : i < us.toArray.size := by rw [List.size_toArray]; exact (List.getElem?_eq_some_iff.1 eu).1
    have el : e < s.heap.objs.size := Heap.lt_size g1
    refine wpAny_pyNext_enum_itemC D1 g1 ⟨g2, h1⟩ i1 nep (by simp [nep, nee]) fun x1 m tk y1 o1 st1 hT _ kp => ?_
    have e1 : x1 = u := by
      have : us.toArray[i]? = some x1 := y1
      rw [List.getElem?_toArray, eu] at this
      exact (Option.some.inj this).symm
    subst e1
    refine ⟨_, rfl, wpAny_letOwnedTupleGo_enum (s := { s with heap := m, toks := tk + 1 }) o1 fun m2 z2 sb => ?_⟩
    have T2 : m2.get? s.heap.objs.size = some { cls := .type "tuple", data := .seq #[.int i tk, x1] } := (sb.2 _ (Nat.ne_of_gt el)).trans hT
    have ob : ObjOk X.prog X.w (upd H s.heap.objs.size (.tup [.int (i : Nat), x])) m2 s.heap.objs.size (.tup [.int (i : Nat), x]) := ⟨by show 2 ≤ sizeLine; decide, [.int i tk, x1], .cons ⟨_, rfl⟩ (.cons ru .nil), ⟨_, T2, rfl, _, rfl⟩⟩
    have chg : ∀ c o, c ∉ [e, p] → s.heap.get? c = some o → m2.get? c = some o := fun c o nc q => by
      simp only [List.mem_cons, List.not_mem_nil, or_false, not_or] at nc
      exact (sb.2 c nc.1).trans (kp c o nc.1 nc.2 q)
    have J := I.turnedNew (t' := tk + 1) chg fo (Nat.le_refl _) ob
    refine ⟨.ref s.heap.objs.size, _, J, rfl, ⟨_, x, rfl, I.hok.fresh (Nat.le_refl _), rfl, fun ls q => by rw [inj_s I q s1]; exact ex⟩, ⟨⟨x1, ?_⟩, ?_⟩, fun c hc => ?_⟩
    · have en : ((i + 1 : Nat) : Int) = (i : Int) + 1 := by omega
      rw [en]; exact z2
    · exact st1.1.at fun o q => (sb.2 _ (Ne.symm nep)).trans q
    · have hl : c < s.heap.objs.size := by
        simp only [List.mem_cons, List.not_mem_nil, or_false] at hc
        rcases hc with rfl | rfl
        · exact el
        · obtain ⟨o, q, _⟩ := g2.obj; exact Heap.lt_size q
      rw [upd_ne (Nat.ne_of_lt hl)]
      exact (fo c hc).1
  done := by
    intro X eP ew eK cal i pins s σ H E I fo st gd
    subst eP ew eK
    obtain ⟨⟨old, g1⟩, g2⟩ := st
    obtain ⟨xs, s1, rfl⟩ := gd
    obtain ⟨us, r1, h1⟩ := inv_s I s1
    have hd : X.A.in1.handled = none := I.ok.hd cal
    have D1 := draws_s (k := k) (prog := X.prog) (w := X.w) (its := us.toArray) hd nea
    have en : xs.length = us.toArray.size := by rw [List.size_toArray]; exact r1.length
    rw [en] at g1 g2
    refine wpAny_pyNext_enum_endD D1 g1 ⟨g2, h1⟩ fun m kp => ⟨rfl, ?_⟩
    refine I.turnedL (t' := s.toks) (ch := [e, p]) (fun c o nc q => ?_) fo
    simp only [List.mem_cons, List.not_mem_nil, or_false, not_or] at nc
    exact kp c o nc.2 q
  self := fun A i s Q E st hq => let ⟨⟨_, g1⟩, _⟩ := st; wpAny_pyIter_enum g1 hq
def iEE (K : Frag) (ta : TA) : TI := fun σ H R => ta σ H fun vs H1 => ∃ (k : Bool) (a : Addr) (xs : List V), vs = [.ref a] ∧ SqS k K H1 a xs ∧ R (ItE k K a) H1
theorem pi_ee {X : Cx} {e : Expr} {ta : TA} {p pos tp : Pos} {es : List Expr} {n1 : Nat} (hg : Gl X "enumerate") (hm : X.mg "enumerate" = none) (ha : PA X [e] ta) (hs : starEach [e] X.env = [(false, eval e X.env)] := by rfl) :
    PI X (.Tuple es n1 tp) (.Call (.Name "enumerate" p) [e] [] pos) (iEE X.K ta) := by
  refine ⟨fun pn s0 sg G0 R J0 w0 => ?_⟩
  refine Call_ (ld_blt J0 hg hm boot_enumerate (PyProof.Rows.callWith_type1 (thn (ha.run pos pn s0 sg G0 _ J0 w0) fun us a1 ⟨vs, G1, J1, r1, w1⟩ => ?_) hs rfl))
  obtain ⟨k, a, xs, rfl, s1, q⟩ := w1
  cases r1 with
  | cons c1 r1 =>
  cases r1
  cases c1
  obtain ⟨us, _, h1⟩ := inv_s J1 s1
  obtain ⟨oa, ea⟩ := h1.live
  have la := Heap.lt_size ea
  refine enum_starts (begins_s (k := k) (a := a) (its := us.toArray)) h1 fun m z1 e1 kp => wpAny_pyIter_enum z1 ?_
  have J2 : Inv X pn sg G1 { a1 with heap := m } := J1.kept (t' := a1.toks) kp
  refine ⟨a1.heap.objs.size + 1, [a1.heap.objs.size + 1, a1.heap.objs.size], _, _, G1, rfl, J2, turn_ee (k := k) (Nat.ne_of_lt la) (Nat.succ_ne_self _) (Nat.ne_of_gt (Nat.lt_succ_of_lt la)), ⟨⟨.none, z1⟩, ItS.start e1⟩, fun c hc => ?_, q⟩
  have hle : a1.heap.objs.size ≤ c := by
    simp only [List.mem_cons, List.not_mem_nil, or_false] at hc
    rcases hc with rfl | rfl
    · exact Nat.le_add_right _ _
    · exact Nat.le_refl _
  exact J1.fpOk hle (J1.hok.fresh hle)
/-! ### both over data -/
theorem src_key {K : Frag} {as1 : List Addr} {H1 : Hp} {h1 : Ho} {x : D} {xs : List D} {a : Addr} (r : Rel K as1 H1 (.ref a) x) (e : items h1 x = some xs) :
    ∃ k : Bool, ∀ as2 H2 h2, Later as1 H1 as2 H2 → HeapR K as2 H2 h2 → stay x xs h2 → ∃ us, SqS k K H2 a us ∧ RelAll K as2 H2 us xs := by
  cases r with
  | d r =>
    cases r with
    | lst sx ax =>
      simp only [items, Option.some.injEq] at e
      subst e
      exact ⟨true, fun as2 H2 h2 l _ _ => ⟨_, (sx.later l).sq, (ax.later l).rel⟩⟩
    | tup sx ax =>
      simp only [items, Option.some.injEq] at e
      subst e
      exact ⟨false, fun as2 H2 h2 l _ _ => ⟨_, (sx.later l).sq, (ax.later l).rel⟩⟩
  | tp _ _ _ _ => simp [items] at e
  | ob _ _ _ _ _ => simp [items] at e
  | pr _ _ _ => simp [items] at e
  | @loc _ n hb =>
    refine ⟨true, fun as2 H2 h2 l r2 st => ?_⟩
    have st' : h2[n]? = some (O.lst xs) := st
    obtain ⟨c, hc, us, o1, o2⟩ := r2.at st'
    rw [l.at hb] at hc
    cases hc
    exact ⟨us, SqL.of o1, o2⟩
theorem new_pair {K : Frag} {as2 : List Addr} {H2 : Hp} {h2 : Ho} {T : Addr} {vs : List V} {ps : List PyData} (r2 : HeapR K as2 H2 h2) (hT : H2 T = none) (al : DvAll K as2 H2 vs ps) :
    Later as2 H2 as2 (upd H2 T (.tup vs)) ∧ HeapR K as2 (upd H2 T (.tup vs)) h2 ∧ Rel K as2 (upd H2 T (.tup vs)) (.ref T) (.d (.tuple ps)) := by
  have l : Later as2 H2 as2 (upd H2 T (.tup vs)) := Later.new _ hT
  refine ⟨l, r2.new _ hT, .d (.tup (.inl ⟨.inl upd_same, fun z => ?_⟩) (al.later l))⟩
  obtain ⟨u, e⟩ := r2.there z
  rw [hT] at e
  cases e
def zipD (ps qs : List PyData) : List D := (ps.zip qs).map fun z => D.d (.tuple [z.1, z.2])
def enumD (ps : List PyData) : List D := ps.zipIdx.map fun z => D.d (.tuple [.int (z.2 : Nat), z.1])
theorem zipD_len (ps qs : List PyData) : (zipD ps qs).length = min ps.length qs.length := by simp [zipD]
theorem zipD_get {ps qs : List PyData} {i : Nat} {z : D} (e : (zipD ps qs)[i]? = some z) : ∃ p q, ps[i]? = some p ∧ qs[i]? = some q ∧ z = .d (.tuple [p, q]) := by
  unfold zipD at e
  rw [List.getElem?_map, Option.map_eq_some_iff] at e
  obtain ⟨⟨p, q⟩, e1, rfl⟩ := e
  rw [List.getElem?_zip_eq_some] at e1
  exact ⟨p, q, e1.1, e1.2, rfl⟩
theorem enumD_len (ps : List PyData) : (enumD ps).length = ps.length := by simp [enumD]
theorem enumD_get {ps : List PyData} {i : Nat} {z : D} (e : (enumD ps)[i]? = some z) : ∃ p, ps[i]? = some p ∧ z = .d (.tuple [.int (i : Nat), p]) := by
  unfold enumD at e
  rw [List.getElem?_map, Option.map_eq_some_iff] at e
  obtain ⟨⟨p, j⟩, e1, rfl⟩ := e
  rw [List.getElem?_zipIdx, Option.map_eq_some_iff] at e1
  obtain ⟨q, e2, e3⟩ := e1
  cases e3
  exact ⟨p, e2, by simp⟩
theorem rel_data {K : Frag} {as : List Addr} {H : Hp} {us : List V} {xs : List D} {ps : List PyData} (r : RelAll K as H us xs) (e : allD xs = some ps) {i : Nat} {u : V} {p : PyData} (eu : us[i]? = some u) (ep : ps[i]? = some p) : Dv K as H u p := by
  obtain ⟨v, e1, d⟩ := (r.ofAllD e).get ep
  rw [eu] at e1
  cases e1
  exact d
theorem allD_len {xs : List D} {ps : List PyData} (e : allD xs = some ps) : xs.length = ps.length := by rw [allD_some e, List.length_map]
section
variable {X : Cx} {W : WX} {a b : Expr} {fa fb : WE} {ga : WA} {pos p tp : Pos} {es : List Expr} {n1 : Nat}
def iZip2 (ga : WA) : WI := fun ρ h Q E => ga ρ h (fun vs h1 => ∃ x y xs ys ps qs, vs = [x, y] ∧ items h1 x = some xs ∧ items h1 y = some ys ∧ allD xs = some ps ∧ allD ys = some qs ∧ Q (zipD ps qs) (fun h => stay x xs h ∧ stay y ys h) h1) E
def iEnum1 (ga : WA) : WI := fun ρ h Q E => ga ρ h (fun vs h1 => ∃ x xs ps, vs = [x] ∧ items h1 x = some xs ∧ allD xs = some ps ∧ Q (enumD ps) (stay x xs) h1) E
theorem SI.zip (hg : Gl X "zip") (hm : X.mg "zip" = none) (ha : SA X W [a, b] ga) (hs : starEach [a, b] X.env = (false, eval a X.env) :: starEach [b] X.env := by rfl) (hpl : (backTo pos (starEach [b] X.env)).any (·.1) = false := by rfl) :
    SI X W (.Tuple es n1 tp) (.Call (.Name "zip" p) [a, b] [] pos) (iZip2 ga) := by
  obtain ⟨_, pa, sa⟩ := ha
  refine ⟨_, pi_zz hg hm pa hs hpl, fun σ H as ρ h Q E R eR hR hq k kx => ?_⟩
  refine sa σ H as ρ h _ E _ eR hR hq (fun ws h1 vs as1 H1 hq1 l1 r1 rv => ?_) kx
  obtain ⟨x, y, xs, ys, ps, qs, rfl, ex, ey, ep, eq, q⟩ := hq1
  obtain ⟨u, v, rfl, ru, ru2⟩ := relAll2 rv
  obtain ⟨a1, _, rfl, _⟩ := items_rel ru r1 ex
  obtain ⟨b1, _, rfl, _⟩ := items_rel ru2 r1 ey
  obtain ⟨k1, key1⟩ := src_key ru ex
  obtain ⟨k2, key2⟩ := src_key ru2 ey
  obtain ⟨us, s1, m1⟩ := key1 as1 H1 h1 (Later.refl _ _) r1 (stay_items ex)
  obtain ⟨ts, s2, m2⟩ := key2 as1 H1 h1 (Later.refl _ _) r1 (stay_items ey)
  refine ⟨k1, k2, a1, b1, us, ts, rfl, s1, s2, k _ _ h1 as1 H1 _ q ⟨stay_items ex, stay_items ey⟩ l1 r1 ?_⟩
  intro i as2 H2 h2 l2 r2 st
  obtain ⟨us, s1, m1⟩ := key1 as2 H2 h2 l2 r2 st.1
  obtain ⟨ts, s2, m2⟩ := key2 as2 H2 h2 l2 r2 st.2
  have n1 := m1.length.trans (allD_len ep)
  have n2 := m2.length.trans (allD_len eq)
  refine ⟨fun hi => ?_, fun hi => ?_, fun v H3 y z ez => ?_⟩
  · rw [zipD_len] at hi
    exact ⟨us, ts, us[i]'(by omega), ts[i]'(by omega), s1, s2, List.getElem?_eq_getElem _, List.getElem?_eq_getElem _⟩
  · rw [zipD_len] at hi
    exact ⟨us, ts, s1, s2, by omega, by omega, by omega⟩
  · obtain ⟨T, u1, u2, rfl, hT, rfl, f1, f2⟩ := y
    obtain ⟨p1, p2, e1, e2, rfl⟩ := zipD_get ez
    exact new_pair r2 hT (.cons (rel_data m1 ep (f1 us s1) e1) (.cons (rel_data m2 eq (f2 ts s2) e2) .nil))
theorem SI.enum (hg : Gl X "enumerate") (hm : X.mg "enumerate" = none) (ha : SA X W [a] ga) (hs : starEach [a] X.env = [(false, eval a X.env)] := by rfl) :
    SI X W (.Tuple es n1 tp) (.Call (.Name "enumerate" p) [a] [] pos) (iEnum1 ga) := by
  obtain ⟨_, pa, sa⟩ := ha
  refine ⟨_, pi_ee hg hm pa hs, fun σ H as ρ h Q E R eR hR hq k kx => ?_⟩
  refine sa σ H as ρ h _ E _ eR hR hq (fun ws h1 vs as1 H1 hq1 l1 r1 rv => ?_) kx
  obtain ⟨x, xs, ps, rfl, ex, ep, q⟩ := hq1
  obtain ⟨u, rfl, ru⟩ := relAll1 rv
  obtain ⟨a1, _, rfl, _⟩ := items_rel ru r1 ex
  obtain ⟨k1, key1⟩ := src_key ru ex
  obtain ⟨us, s1, m1⟩ := key1 as1 H1 h1 (Later.refl _ _) r1 (stay_items ex)
  refine ⟨k1, a1, us, rfl, s1, k _ _ h1 as1 H1 _ q (stay_items ex) l1 r1 ?_⟩
  intro i as2 H2 h2 l2 r2 st
  obtain ⟨us, s1, m1⟩ := key1 as2 H2 h2 l2 r2 st
  have n1 := m1.length.trans (allD_len ep)
  refine ⟨fun hi => ?_, fun hi => ?_, fun v H3 y z ez => ?_⟩
  · rw [enumD_len] at hi
    exact ⟨us, us[i]'(by omega), s1, List.getElem?_eq_getElem _⟩
  · rw [enumD_len] at hi
    exact ⟨us, s1, by omega⟩
  · obtain ⟨T, u1, rfl, hT, rfl, f1⟩ := y
    obtain ⟨p1, e1, rfl⟩ := enumD_get ez
    exact new_pair r2 hT (.cons (.int _) (.cons (rel_data m1 ep (f1 us s1) e1) .nil))
end
end V2
set_option Elab.async false
set_option linter.all false
set_option maxRecDepth 100000
set_option maxHeartbeats 4000000
/-! ## all, any over a list of truths; steps for walks of pairs -/
namespace V2
open PySem PySem.Spec PyProof.Rows L2
open PySem.W (Frag)
theorem RelAll.truths {K : Frag} {as : List Addr} {H : Hp} : ∀ {bs : List Bool} {vs : List V}, RelAll K as H vs (bs.map fun b => D.d (.bool b)) → vs = bs.map V.bl
  | [], _, h => by cases h; rfl
  | b :: bs, _, h => by
    cases h with
    | cons h1 h2 =>
      cases h1 with | d h1 =>
      cases h1
      rw [RelAll.truths h2]; rfl
def rAllB : WR := fun xs h Q => ∃ (x : D) (bs : List Bool), xs = [x] ∧ litems h x = some (bs.map fun b => D.d (.bool b)) ∧ Q (.d (.bool (bs.all id))) h
def rAnyB : WR := fun xs h Q => ∃ (x : D) (bs : List Bool), xs = [x] ∧ litems h x = some (bs.map fun b => D.d (.bool b)) ∧ Q (.d (.bool (bs.any id))) h
section
variable {X : Cx} {W : WX} {a : Expr} {ga : WA} {pos p : Pos}
theorem cp_allB : CpA X (L2.rAll X.K) rAllB := by
  rintro xs h Q vs as H QV rv hR ⟨x, bs, rfl, e, q⟩ k
  obtain ⟨v, rfl, r⟩ := relAll1 rv
  obtain ⟨a, us, rfl, s, ra⟩ := litems_rel r hR e
  rw [ra.truths] at s
  exact ⟨a, bs, rfl, s, k.qd hR q (.bl _)⟩
theorem cp_anyB : CpA X (L2.rAny X.K) rAnyB := by
  rintro xs h Q vs as H QV rv hR ⟨x, bs, rfl, e, q⟩ k
  obtain ⟨v, rfl, r⟩ := relAll1 rv
  obtain ⟨a, us, rfl, s, ra⟩ := litems_rel r hR e
  rw [ra.truths] at s
  exact ⟨a, bs, rfl, s, k.qd hR q (.bl _)⟩
theorem SE.all (hg : Gl X "all") (hm : X.mg "all" = none) (hc : X.calm = true) (ha : SA X W [a] ga) (he : starEach [a] X.env = (false, eval a X.env) :: starEach [] X.env := by rfl) : SE X W (.Call (.Name "all" p) [a] [] pos) (fCall rAllB ga) := .callB (cr_all hc) cp_allB hg hm (by decide +kernel) ha (he := he) (hpl := rfl)
theorem SE.any (hg : Gl X "any") (hm : X.mg "any" = none) (hc : X.calm = true) (ha : SA X W [a] ga) (he : starEach [a] X.env = (false, eval a X.env) :: starEach [] X.env := by rfl) : SE X W (.Call (.Name "any" p) [a] [] pos) (fCall rAnyB ga) := .callB (cr_any hc) cp_anyB hg hm (by decide +kernel) ha (he := he) (hpl := rfl)
end
section
variable {ρ : En} {h : Ho} {Q : KD} {E : XD} {x y : D}
theorem i_zip2 {ga : WA} {QI : List D → (Ho → Prop) → Ho → Prop} (k : ga ρ h (fun vs h1 => ∃ x y xs ys ps qs, vs = [x, y] ∧ items h1 x = some xs ∧ items h1 y = some ys ∧ allD xs = some ps ∧ allD ys = some qs ∧ QI (zipD ps qs) (fun h => stay x xs h ∧ stay y ys h) h1) E) : iZip2 ga ρ h QI E := k
theorem i_enum1 {ga : WA} {QI : List D → (Ho → Prop) → Ho → Prop} (k : ga ρ h (fun vs h1 => ∃ x xs ps, vs = [x] ∧ items h1 x = some xs ∧ allD xs = some ps ∧ QI (enumD ps) (stay x xs) h1) E) : iEnum1 ga ρ h QI E := k
theorem i_allB {bs : List Bool} (e : litems h x = some (bs.map fun b => D.d (.bool b))) (k : Q (.d (.bool (bs.all id))) h) : rAllB [x] h Q := ⟨x, bs, rfl, e, k⟩
end
/-! ### isinstance of data -/
theorem i_isiD {T : String} {n : Nat} {p : PyData} {b : Bool} {ρ : En} {h : Ho} {Q : KD} {E : XD} (e : GetAt n ρ (.d p)) (hb : kitB (tyName p) T = some b) (k : Q (.d (.bool b)) h) : fIsi T (fVar n) ρ h Q E := i_var e ⟨b, hb, k⟩
def isInt : PyData → Bool
  | .int _ => true
  | .bool _ => true
  | _ => false
def isBool : PyData → Bool
  | .bool _ => true
  | _ => false
def isTup : PyData → Bool
  | .tuple _ => true
  | _ => false
theorem kit_int (p : PyData) : kitB (tyName p) "int" = some (isInt p) := by cases p <;> simp only [tyName, isInt, isBool, isTup] <;> decide +kernel
theorem kit_bool (p : PyData) : kitB (tyName p) "bool" = some (isBool p) := by cases p <;> simp only [tyName, isInt, isBool, isTup] <;> decide +kernel
theorem kit_tup (p : PyData) : kitB (tyName p) "tuple" = some (isTup p) := by cases p <;> simp only [tyName, isInt, isBool, isTup] <;> decide +kernel
end V2
set_option Elab.async false
set_option linter.all false
set_option maxRecDepth 100000
set_option maxHeartbeats 4000000
/-! ## a list's slice with a step -/
namespace V2
open PySem PySem.Spec PyProof.Rows L2
open PySem.W (Frag)
/-- what xs[lo:hi:c] picks out of a list -/
def pickL {α : Type} (xs : List α) (lo hi : Option Int) (c : Int) : List α :=
  (sliceRange (sliceBounds lo hi (some c) xs.length).1 (sliceBounds lo hi (some c) xs.length).2.1 (sliceBounds lo hi (some c) xs.length).2.2).filterMap fun k => xs[k]?
theorem vals_pickS {xs : List V} {us : List Value} (r : Vals xs us) (lo hi : Option Int) (c : Int) : Vals (pickL xs lo hi c) (pickL us lo hi c) := by
  unfold pickL
  rw [r.length]
  exact vals_pickF r (fun k => k) _
theorem dv_pickS {K : Frag} {as : List Addr} {H : Hp} {vs : List V} {ps : List PyData} (r : DvAll K as H vs ps) (lo hi : Option Int) (c : Int) : DvAll K as H (pickL vs lo hi c) (pickL ps lo hi c) := by
  unfold pickL
  rw [r.length]
  exact dv_pickF r (fun k => k) _
theorem pick_arr (us : List Value) (lo hi : Option Int) (c : Int) : slicePick us.toArray lo hi (some c) = (pickL us lo hi c).toArray := by
  unfold slicePick pickL
  rw [List.size_toArray]
  congr 2
  funext k
  exact List.getElem?_toArray ..
def tSlL (K : Frag) (te : TE) (tl th : TO) (c : Int) : TE := fun σ H Q => te σ H fun x H1 => tl σ H1 fun l H2 => th σ H2 fun u H3 => ∃ a xs, x = .ref a ∧ SqL K H3 a xs ∧ (pickL xs l u c).length ≤ sizeLine ∧ ∀ p, H3 p = none → Q (.ref p) (upd H3 p (.lst (pickL xs l u c)))
theorem pe_slL {X : Cx} {e se : Expr} {te : TE} {lo hi : Option Expr} {tl th : TO} {pos p2 : Pos} {c : Int} (c0 : c ≠ 0) (he : PE X e te) (hl : PO X lo tl) (hu : PO X hi th) (hs : StepC X se c) :
    PE X (.Subscript e (.Slice lo hi (some se) p2) pos) (tSlL X.K te tl th c) := by
  obtain ⟨ts, hs, hts⟩ := hs
  refine ⟨fun pn a0 sg G0 Q0 J0 w0 => ?_⟩
  refine Subscript_ (thn (he.run pn a0 sg G0 _ J0 w0) fun v a1 ⟨x, G1, J1, r1, w1⟩ => ?_)
  refine wpAny_Slice (thn (hl.run pn a1 sg G1 _ J1 w1) fun v1 a2 ⟨l, G2, J2, m1, w2⟩ => thn (hu.run pn a2 sg G2 _ J2 w2) fun v2 a3 ⟨u, G3, J3, m2, w3⟩ => ?_)
  refine thn (hs.run pn a3 sg G3 (fun o G4 => o = some c ∧ G4 = G3) J3 (hts sg G3 _ ⟨rfl, rfl⟩)) fun v3 a4 ⟨o, G4, J4, m3, eo, eG⟩ => ?_
  subst eo eG
  obtain ⟨b, xs, rfl, sx, hz, q⟩ := w3
  cases r1
  have J5 : Inv X pn sg G4 { a4 with heap := a4.heap.push { cls := .type "slice", data := .fields #[v1, v2, v3] } } := J4.kept (t' := a4.toks) fun _ _ z => Heap.get?_push_of_some _ z
  obtain ⟨its, rv, ht, hn⟩ := J5.list sx
  show wpAny (model X.prog X.w) X.A (subscriptTail e (.Slice lo hi (some se) p2) (.ref b) (.ref a4.heap.objs.size)) (EP X pn sg Q0) X.xe { a4 with heap := a4.heap.push { cls := .type "slice", data := .fields #[v1, v2, v3] } }
  refine tail_any (ops := [.ref b, .ref a4.heap.objs.size]) ht.isList.typeIs PySem.slot_list_getitem.lookup ?_ (by with_unfolding_all rfl)
  have hlen := rv.length
  refine wpAny_getItem_list_slice ht.isList (Heap.IsSliceOf.new _ v1 v2 v3) m1 m2 m3 (by simpa using c0) ?_ (by rw [List.size_toArray]; omega)
  rw [pick_arr]
  refine ⟨.ref _, _, J5.laid (t' := a4.toks) (o := .lst (pickL xs l u c)) (fun _ _ z => Heap.get?_push_of_some _ z) (Nat.le_refl _) ?_, rfl, q _ (J5.hok.fresh (Nat.le_refl _))⟩
  exact ⟨hz, _, 0, vals_pickS rv l u c, Heap.get?_push_size _ rfl⟩
def fSlL (c : Int) (fa : WE) (lo hi : En → Ho → (Option Int → Ho → Prop) → XD → Prop) : WE := fun ρ h Q E => fa ρ h (fun x h1 => lo ρ h1 (fun l h2 => hi ρ h2 (fun u h3 => match x with
  | .d (.list ps) => (pickL ps l u c).length ≤ sizeLine ∧ Q (.d (.list (pickL ps l u c))) h3
  | _ => False) E) E) E
theorem SE.slL {X : Cx} {W : WX} {a se : Expr} {fa : WE} {lo hi : Option Expr} {fl fu} {p2 pos : Pos} {c : Int} (c0 : c ≠ 0) (ha : SE X W a fa) (hl : SO X W lo fl) (hu : SO X W hi fu) (hs : StepC X se c) : SE X W (.Subscript a (.Slice lo hi (some se) p2) pos) (fSlL c fa fl fu) := by
  obtain ⟨_, pa, sa⟩ := ha
  obtain ⟨_, pl, sl⟩ := hl
  obtain ⟨_, pu, su⟩ := hu
  refine ⟨_, pe_slL c0 pa pl pu hs, fun σ H as ρ h Q E QV eR hR hq k kx => ?_⟩
  refine sa σ H as ρ h _ E _ eR hR hq (fun x h1 v as1 H1 hq1 l1 r1 rv => ?_) kx
  refine sl σ H1 as1 ρ h1 _ E _ (eR.later l1) r1 hq1 (fun lo h2 as2 H2 hq2 l2 r2 => ?_) (kx.later l1)
  refine su σ H2 as2 ρ h2 _ E _ ((eR.later l1).later l2) r2 hq2 (fun hi h3 as3 H3 hq3 l3 r3 => ?_) ((kx.later l1).later l2)
  have k3 := ((k.later l1).later l2).later l3
  have rv3 := (rv.later l2).later l3
  split at hq3
  · cases rv3 with | d rv3 =>
    cases rv3 with | lst sx ax =>
    have d := dv_pickS ax lo hi c
    exact ⟨_, _, rfl, sx.sq, by rw [d.length]; exact hq3.1, fun p hp => k3.newLst r3 hq3.2 d hp⟩
  · exact hq3.elim
/-! ## the truth of data -/
def tTru (fa : WE) : WT := fun ρ h Q E => fa ρ h (fun x h1 => match x with
  | .d .none => Q false h1
  | .d (.bool b) => Q b h1
  | .d (.int i) => Q (i != 0) h1
  | x => match items h1 x with
    | some xs => Q (!xs.isEmpty) h1
    | none => False) E
theorem relAll_empty {K : Frag} {as : List Addr} {H : Hp} {vs : List V} {xs : List D} (r : RelAll K as H vs xs) : (!vs.isEmpty) = !xs.isEmpty := by
  cases r <;> rfl
theorem ST.tru {X : Cx} {W : WX} {a : Expr} {fa : WE} (ha : SE X W a fa) (he : ∀ whole, isTrue a X.env whole = (do let v ← whole; standAt a.pos; holding [v] (truthy v)) := by intro _; rfl) : ST X W a (tTru fa) := by
  obtain ⟨ta, pa, sa⟩ := ha
  refine ⟨_, pt_truth pa he, fun σ H as ρ h Q E QV eR hR hq k kx => ?_⟩
  refine sa σ H as ρ h _ E _ eR hR hq (fun x h1 v as1 H1 hq1 l1 r1 rv => ?_) kx
  split at hq1
  · cases rv with | d rv =>
    cases rv
    exact ⟨_, rfl, k _ _ _ _ hq1 l1 r1⟩
  · cases rv with | d rv =>
    cases rv
    exact ⟨_, rfl, k _ _ _ _ hq1 l1 r1⟩
  · cases rv with | d rv =>
    cases rv
    exact ⟨_, rfl, k _ _ _ _ hq1 l1 r1⟩
  · split at hq1
    · rename_i xs e
      obtain ⟨p, vs, rfl, s, ra⟩ := items_rel rv r1 e
      refine ⟨_, ?_, k _ _ _ _ hq1 l1 r1⟩
      rcases s with s | s
      · exact .inl ⟨vs, s, (relAll_empty ra).symm⟩
      · exact .inr (.inl ⟨vs, s, (relAll_empty ra).symm⟩)
    · exact hq1.elim
end V2
set_option Elab.async false
set_option linter.all false
set_option maxRecDepth 100000
set_option maxHeartbeats 4000000
/-! ## the least and the greatest of a list of ints; comprehensions over places, and with draws -/
namespace V2
open PySem PySem.Spec PyProof.Rows L2
open PySem.W (Frag)
section
variable {ρ : En} {h h0 hb rest : Ho} {Q : KD} {E : XD} {st : Ho → Prop} {wg : WG} {tt : WT} {te : WE} {xs : List D}
/-- over a place that the turns leave alone -/
theorem lcv_indS {QL : List PyData → Ho → Prop} (I : Nat → List D → Prop) (hst : ∀ acc, st (hb ++ [.lst acc]))
    (hs : ∀ (k : Nat) (x : D) (acc : List D), xs[k]? = some x → I k acc → ∃ ρ1 y, wg x (hb ++ [.lst acc]) ρ = some ρ1 ∧ (∀ P : KD, P y (hb ++ [.lst acc]) → te ρ1 (hb ++ [.lst acc]) P noX) ∧ acc.length < sizeLine ∧ I (k + 1) (acc ++ [y]))
    (he : ∀ acc, I xs.length acc → ∃ ps, AllD acc ps ∧ QL ps hb) (h0 : I 0 []) :
    st (hb ++ [.lst []]) ∧ lcGo wg tTrue te st hb.length ρ (fun h2 => ∃ hh acc ps, h2 = hh ++ [.lst acc] ∧ hh.length = hb.length ∧ (hh = hb ∨ noRef hb.length hh = true) ∧ allD acc = some ps ∧ QL ps hh) xs (hb ++ [.lst []]) := by
  refine ⟨hst _, ?_⟩
  have aux : ∀ (ys : List D) (k : Nat), (∀ j, ys[j]? = xs[k + j]?) → k + ys.length = xs.length → ∀ acc, I k acc → lcGo wg tTrue te st hb.length ρ (fun h2 => ∃ hh acc ps, h2 = hh ++ [.lst acc] ∧ hh.length = hb.length ∧ (hh = hb ∨ noRef hb.length hh = true) ∧ allD acc = some ps ∧ QL ps hh) ys (hb ++ [.lst acc]) := by
    intro ys
    induction ys with
    | nil =>
      intro k _ hk acc hi
      obtain ⟨ps, a, q⟩ := he acc (by rw [← hk]; simpa using hi)
      exact ⟨hb, acc, ps, rfl, rfl, .inl rfl, a.eq, q⟩
    | cons y ys ih =>
      intro k hj hk acc hi
      obtain ⟨ρ1, z, e1, e2, e3, e4⟩ := hs k y acc (by rw [← Nat.add_zero k, ← hj 0]; rfl) hi
      have ihk := ih (k + 1) (fun j => by rw [Nat.add_assoc, Nat.add_comm 1 j, ← hj (j + 1)]; rfl) (by rw [← hk, List.length_cons]; omega)
      unfold lcGo
      rw [e1]
      unfold tTrue
      dsimp only
      rw [if_pos rfl]
      refine e2 _ ?_
      have g1 : (hb ++ [O.lst acc])[hb.length]? = some (.lst acc) := by simp
      have g2 : (hb ++ [O.lst acc]).set hb.length (.lst (acc ++ [z])) = hb ++ [.lst (acc ++ [z])] := by simp
      simp only [g1, g2]
      exact ⟨e3, hst _, ihk _ e4⟩
  exact aux xs 0 (fun j => by rw [Nat.zero_add]) (by simp) [] h0
end
end V2
set_option Elab.async false
set_option linter.all false
set_option maxRecDepth 100000
set_option maxHeartbeats 4000000
/-! ## texts over data: methods, slices, signs, numbers as texts, f-strings; more within an except suite -/
namespace V2
open PySem PySem.Spec PyProof.Rows L2
open PySem.W (Frag)
theorem MtR.mono {X : Cx} {id : String} {r r' : V → List V → Hp → VK → Prop} (h : MtR X id r) (i : ∀ x xs H Q, r' x xs H Q → r x xs H Q) : MtR X id r' := fun pins s σ H x xs v us Q I rx rs q => h pins s σ H x xs v us Q I rx rs (i _ _ _ _ q)
/-- with another text -/
def fM1 (C : Str → Str → Prop) (g : Str → Str → PyData) (fo fe : WE) : WE := fun ρ h Q E => fo ρ h (fun x h1 => match x with
  | .d (.str a) => fe ρ h1 (fun y h2 => match y with
    | .d (.str b) => C a b ∧ Q (.d (g a b)) h2
    | _ => False) E
  | _ => False) E
def strsD (ys : List Str) : List PyData := ys.map PyData.str
theorem dv_strs {K : Frag} {as : List Addr} {H : Hp} : ∀ ys : List Str, DvAll K as H (ys.map V.str) (strsD ys)
  | [] => .nil
  | y :: ys => .cons (.str y) (dv_strs ys)
section
variable {X : Cx} {W : WX} {o e a b : Expr} {fo fe fa fb : WE} {name : Str} {apos pos p : Pos} {id : String}
/-- a new list of texts, a new tuple of three -/
theorem SE.split (ho : SE X W o fo) (he : SE X W e fe) (hs : starEach [e] X.env = [(false, eval e X.env)] := by rfl) (hbase : attributeBase o "split" X.env (eval o X.env) = eval o X.env := by rfl) (hline : (apos.endLine == pos.line) = true := by rfl) :
    SE X W (.Call (.Attribute o "split" apos) [e] [] pos) (fM1 (fun a b => (b.length == 0) = false ∧ a.length + 2 ≤ sizeLine) (fun a b => .list (strsD (Txt.split a b))) fo fe) := by
  obtain ⟨_, po, so⟩ := ho
  obtain ⟨_, pe, se⟩ := he
  refine ⟨_, pe_split po pe hs hbase hline, fun σ H as ρ h Q E QV eR hR hq k kx => ?_⟩
  refine so σ H as ρ h _ E _ eR hR hq (fun x h1 v as1 H1 hq1 l1 r1 rv => ?_) kx
  split at hq1
  · cases rv with | d rv =>
    cases rv
    refine ⟨⟨_, rfl⟩, ?_⟩
    refine se σ H1 as1 ρ h1 _ E _ (eR.later l1) r1 hq1 (fun y h2 w as2 H2 hq2 l2 r2 rw' => ?_) (kx.later l1)
    split at hq2
    · cases rw' with | d rw' =>
      cases rw'
      exact ⟨_, _, rfl, rfl, hq2.1.1, hq2.1.2, fun p hp => ((k.later l1).later l2).newLst r2 hq2.2 (dv_strs _) hp⟩
    · exact hq2.elim
  · exact hq1.elim
end
/-! ### numbers and texts -/
/-! ### f-strings -/
def fJs : List WE → Str → En → Ho → (Str → Ho → Prop) → XD → Prop
  | [], acc, _, h, Q, _ => Q acc h
  | f :: fs, acc, ρ, h, Q, E => f ρ h (fun x h1 => match x with
    | .d (.str y) => (acc ++ y).length ≤ sizeLine ∧ fJs fs (acc ++ y) ρ h1 Q E
    | _ => False) E
def fJoin (fs : List WE) : WE := fun ρ h Q E => fJs fs Str.empty ρ h (fun z h1 => Q (.d (.str z)) h1) E
section
variable {X : Cx} {W : WX} {a : Expr} {es : List Expr} {fa : WE} {pos : Pos}
def SJ (X : Cx) (W : WX) (es : List Expr) (fs : List WE) : Prop := ∃ ts, PJ X es ts ∧ ∀ acc σ H as ρ h (Q : Str → Ho → Prop) E (QV : Str → Hp → Prop), EnvR X.K as H ρ σ → HeapR X.K as H h → fJs fs acc ρ h Q E →
  (∀ z h' as1 H', Q z h' → Later as H as1 H' → HeapR X.K as1 H' h' → QV z H') → XTo X W as H σ E → tJs ts acc σ H QV
theorem SJ.nil : SJ X W [] [] := ⟨[], .nil, fun _ _ _ _ _ _ _ _ _ _ hR hq k _ => k _ _ _ _ hq (Later.refl _ _) hR⟩
theorem SJ.cons {fs : List WE} (ha : SE X W a fa) (hr : SJ X W es fs) : SJ X W (a :: es) (fa :: fs) := by
  obtain ⟨_, pa, sa⟩ := ha
  obtain ⟨_, pr, sr⟩ := hr
  refine ⟨_, .cons pa pr, fun acc σ H as ρ h Q E QV eR hR hq k kx => ?_⟩
  refine sa σ H as ρ h _ E _ eR hR hq (fun x h1 v as1 H1 hq1 l1 r1 rv => ?_) kx
  split at hq1
  · cases rv with | d rv =>
    cases rv
    exact ⟨_, rfl, hq1.1, sr _ σ H1 as1 ρ h1 Q E QV (eR.later l1) r1 hq1.2 (fun z h' as2 H2 q l r => k z h' as2 H2 q (l1.trans l) r) (kx.later l1)⟩
  · exact hq1.elim
theorem SE.join {v1 v2 : Expr} {rest : List Expr} {fs : List WE} (h : SJ X W (v1 :: v2 :: rest) fs) : SE X W (.JoinedStr (v1 :: v2 :: rest) pos) (fJoin fs) := by
  obtain ⟨_, pj, sj⟩ := h
  exact ⟨_, pe_joined pj, fun σ H as ρ h Q E QV eR hR hq k kx => sj _ σ H as ρ h _ E _ eR hR hq (fun z h' as1 H' q l r => (k.later l).qd r q (.str _)) kx⟩
end
/-! ### within an except suite -/
section
variable {X : Cx} {i : Nat} {n : Str} {pos p : Pos} {e b : Expr} {es rest : List Expr} {fe fb : XE'} {ga : Ex → WA} {ft gt : Ex → WT}
theorem SXW.or (he : SXT X i e ft) (hb : SXW X i (.BoolOp .Or (b :: rest) pos) gt) : SXW X i (.BoolOp .Or (e :: b :: rest) pos) (fun x => tOr2 (ft x) (gt x)) := by
  intro a oe cls d pn hz hd
  obtain ⟨_, pe, se⟩ := he a oe cls d pn hz hd
  obtain ⟨_, pb, sb⟩ := hb a oe cls d pn hz hd
  refine ⟨_, pw_or pe pb, fun x σ H as ρ h Q E QV eR hR ho hq k => ?_⟩
  refine se x σ H as ρ h _ E _ eR hR ho hq (fun c h1 as1 H1 hq1 l1 r1 => ?_)
  cases c with
  | true => exact iteT (k _ _ _ _ hq1 l1 r1)
  | false => exact iteF (sb x σ H1 as1 ρ h1 Q E QV (eR.later l1) r1 (ho.later l1) hq1 (k.later l1))
theorem SXE.add (he : SXE X i e fe) (hb : SXE X i b fb) : SXE X i (.BinOp e .Add b pos) (fun x => fBin rAdd2 (fe x) (fb x)) := by
  intro a oe cls d pn hz hd
  obtain ⟨_, pe, se⟩ := he a oe cls d pn hz hd
  obtain ⟨_, pb, sb⟩ := hb a oe cls d pn hz hd
  refine ⟨_, pe_op op_addV pe pb, fun x σ H as ρ h Q E QV eR hR ho hq k => ?_⟩
  refine se x σ H as ρ h _ E _ eR hR ho hq (fun y h1 v as1 H1 hq1 l1 r1 rv => ?_)
  refine sb x σ H1 as1 ρ h1 _ E _ (eR.later l1) r1 (ho.later l1) hq1 (fun z h2 w as2 H2 hq2 l2 r2 rw' => ?_)
  exact cp_add (X := X.suite a ((a, oe) :: pn)) y z h2 Q v w as2 H2 QV (rv.later l2) rw' r2 hq2 (k.later (l1.trans l2))
end
end V2
set_option Elab.async false
set_option linter.all false
set_option maxRecDepth 100000
set_option maxHeartbeats 4000000
/-! A dict that is used as a set of tuples of ints: {}, in, d[k] = v -/
namespace V2
open PySem PySem.Spec PyProof.Rows L2
open PySem.W (Frag)
def intsD : List PyData → Option (List Int)
  | [] => some []
  | .int i :: r => (intsD r).map (i :: ·)
  | _ => none
def keyOf : PyData → Option (List Int)
  | .tuple ps => intsD ps
  | _ => none
theorem intsD_vals {K : Frag} {as : List Addr} {H : Hp} : ∀ {ps : List PyData} {ks : List Int} {vs : List V}, intsD ps = some ks → DvAll K as H vs ps → vs = ks.map V.int
  | [], ks, vs, e, h => by
    cases h
    cases e
    rfl
  | p :: ps, ks, vs, e, h => by
    cases p with
    | int i =>
      simp only [intsD, Option.map_eq_some_iff] at e
      obtain ⟨r, e1, rfl⟩ := e
      cases h with
      | cons h1 h2 =>
        cases h1
        rw [intsD_vals e1 h2]
        rfl
    | _ => cases e
theorem key_rel {K : Frag} {as : List Addr} {H : Hp} {p : PyData} {ks : List Int} {v : V} (e : keyOf p = some ks) (r : Rel K as H v (.d p)) : ∃ b, v = .ref b ∧ TupR K as H b (ks.map V.int) := by
  cases p with
  | tuple ps =>
    cases r with | d r =>
    cases r with
    | @tup a xs ds h1 h2 =>
      rw [intsD_vals e h2] at h1
      exact ⟨a, rfl, h1⟩
  | _ => cases e
def addK (ks : List (List Int)) (k : List Int) : List (List Int) := if k ∈ ks then ks else ks ++ [k]
theorem any_mem {xs : List (List Int × Addr × Value)} {k : List Int} : (xs.any fun z => decide (z.1 = k)) = decide (k ∈ xs.map (·.1)) := by
  by_cases c : k ∈ xs.map (·.1)
  · rw [decide_eq_true c, List.any_eq_true]
    obtain ⟨z, h1, h2⟩ := List.mem_map.1 c
    exact ⟨z, h1, decide_eq_true h2⟩
  · rw [decide_eq_false c, List.any_eq_false]
    intro z hz e
    exact c (List.mem_map.2 ⟨z, hz, of_decide_eq_true e⟩)
/-- o[i] = e, o a dict of the store -/
def sPut (fe fo fi : WE) : WS := fun ρ h D => fe ρ h (fun y h1 => fo ρ h1 (fun x h2 => fi ρ h2 (fun z h3 => match x, z with
  | .loc n, .d p => match h3[n]? with
    | some (.keys ks) => match keyOf p with
      | some k => ks.length < sizeLine ∧ D.nx ρ (h3.set n (.keys (addK ks k)))
      | none => False
    | _ => False
  | _, _ => False) (exOf D ρ)) (exOf D ρ)) (exOf D ρ)
section
variable {X : Cx} {W : WX} {a b e : Expr} {fa fb fe : WE} {pos : Pos}
theorem stored_keys {xs : List (List Int × Addr × Value)} {k : List Int} {b : Addr} {r : Value} : (storedH xs k b r).map (·.1) = addK (xs.map (·.1)) k := by
  unfold storedH addK
  rw [atKey_some, any_mem]
  by_cases c : k ∈ xs.map (·.1)
  · rw [if_pos (decide_eq_true c), if_pos c]
    rw [List.map_map]
    apply List.map_congr_left
    intro z _
    show (putAt k r z).1 = z.1
    unfold putAt
    split <;> rfl
  · rw [if_neg (by rw [decide_eq_false c]; decide), if_neg c, List.map_append]
    rfl
theorem stored_tups {K : Frag} {as : List Addr} {H : Hp} {xs : List (List Int × Addr × Value)} {k : List Int} {b : Addr} {r : Value} (h : ∀ z ∈ xs, TupR K as H z.2.1 (z.1.map V.int)) (hb : TupR K as H b (k.map V.int)) :
    ∀ z ∈ storedH xs k b r, TupR K as H z.2.1 (z.1.map V.int) := by
  intro z hz
  unfold storedH at hz
  split at hz
  · obtain ⟨y, hy, rfl⟩ := List.mem_map.1 hz
    unfold putAt
    split
    · exact h y hy
    · exact h y hy
  · rcases List.mem_append.1 hz with hz | hz
    · exact h z hz
    · rw [List.mem_singleton] at hz
      subst hz
      exact hb
theorem SS.put {o i : Expr} {fo fi : WE} {pos' : Pos} (hu : X.A.units + 64 < cLine) (he : SE X W e fe) (ho : SE X W o fo) (hi : SE X W i fi)
    (ha : ∀ v, assign (.Subscript o i pos') X.env v = (do
      let ov ← holding [v] (eval o X.env)
      let iv ← holding [v, ov] (eval i X.env)
      standAt pos'
      holding [v, ov, iv] (setItem ov iv v)
      release [v, ov, iv] []) := by intro _; rfl) (hs : swapsWithSole [.Subscript o i pos'] e pos.line X.env = pure false := by rfl) (hw : swappedStores [.Subscript o i pos'] e X.env = pure none := by rfl)
    (h1 : (assignEach [.Subscript o i pos'] X.env).map (·.2) = [assign (.Subscript o i pos') X.env] := by rfl) : SS X W (.Assign [.Subscript o i pos'] e pos) (sPut fe fo fi) := by
  obtain ⟨_, pe, se⟩ := he
  obtain ⟨_, po, so⟩ := ho
  obtain ⟨_, pi, si⟩ := hi
  refine ⟨_, ps_asg pe (pg_sub po pi (set_kd (by omega)) ha) hs hw h1, fun σ H as ρ h D D' eR hR hq k => ?_⟩
  refine se σ H as ρ h _ _ _ eR hR hq (fun y h1 v as1 H1 hq1 l1 r1 rv => ?_) (k.x eR)
  refine so σ H1 as1 ρ h1 _ _ _ (eR.later l1) r1 hq1 (fun x h2 u as2 H2 hq2 l2 r2 ru => ?_) (k.kx eR l1)
  have l12 := l1.trans l2
  refine si σ H2 as2 ρ h2 _ _ _ (eR.later l12) r2 hq2 (fun z h3 w as3 H3 hq3 l3 r3 rw' => ?_) (k.kx eR l12)
  have l13 := l12.trans l3
  split at hq3
  · rename_i n p
    split at hq3
    · rename_i ks en
      split at hq3
      · rename_i kk ek
        obtain ⟨hlen, hq3⟩ := hq3
        have ru3 := ru.later l3
        cases ru3 with | @loc ad _ hb =>
        obtain ⟨c, rfl, tc⟩ := key_rel ek rw'
        obtain ⟨d, hb', hs', xs, o1, o2, o3⟩ := r3.at en
        rw [hb] at hb'
        cases hb'
        refine ⟨_, xs, c, kk, rfl, hs', o1, rfl, tc.sq, fun z hz => (o3 z hz).sq, ?_, fun r => ?_⟩
        · rw [← o2, List.length_map] at hlen
          exact hlen
        · have lw : Later as3 H3 as3 (upd H3 ad (kdO ad (storedH xs kk c r))) := Later.write _ (List.mem_of_getElem? hb)
          refine k.nx _ _ _ _ _ hq3 (l13.trans lw) (r3.writeO hb ⟨hs', storedH xs kk c r, upd_same, ?_, ?_⟩) (eR.later (l13.trans lw))
          · rw [stored_keys, o2]
          · exact stored_tups (fun z hz => (o3 z hz).later lw) (tc.later lw)
      · exact hq3.elim
    · exact hq3.elim
  · exact hq3.elim
end
end V2
set_option Elab.async false
set_option linter.all false
set_option maxRecDepth 100000
set_option maxHeartbeats 4000000
/-! try: body, except c: suite; without a name -/
namespace V2
open PySem PySem.Spec PyProof.Rows L2
open PySem.W (Frag)
section
variable {X : Cx} {i : Nat} {pos : Pos} {e b : Expr} {fe fb : XE'}
/-- in a suite: e == b -/
theorem SXE.eq (hu : X.A.units + 64 < cLine) (he : SXE X i e fe) (hb : SXE X i b fb) (hm : behindInMarks .Eq b = false := by rfl) : SXE X i (.Compare e [.Eq] [b] pos) (fun x => fBin rEq2 (fe x) (fb x)) := by
  intro a oe cls d pn hz hd
  obtain ⟨_, pe, se⟩ := he a oe cls d pn hz hd
  obtain ⟨_, pb, sb⟩ := hb a oe cls d pn hz hd
  refine ⟨_, pe_cmpR (op_eq.or (op_eqD hu)) pe pb hm, fun x σ H as ρ h Q E QV eR hR ho hq k => ?_⟩
  refine se x σ H as ρ h _ E _ eR hR ho hq (fun y h1 v as1 H1 hq1 l1 r1 rv => ?_)
  refine sb x σ H1 as1 ρ h1 _ E _ (eR.later l1) r1 (ho.later l1) hq1 (fun z h2 w as2 H2 hq2 l2 r2 rw' => ?_)
  exact cp_eq (X := X.suite a ((a, oe) :: pn)) y z h2 Q v w as2 H2 QV (rv.later l2) rw' r2 hq2 (k.later (l1.trans l2))
end
/-! ### the rules of V3c -/
end V2
set_option Elab.async false
set_option linter.all false
set_option maxRecDepth 100000
set_option maxHeartbeats 4000000
/-! list(zip(a, b)) of two tuples of data: the word alone; its soundness (SE.zipL) is still to be shown -/
namespace V2
open PySem PySem.Spec PyProof.Rows L2
open PySem.W (Frag)
def fZipL (ga : WA) : WE := fun ρ h Q E => ga ρ h (fun xs h1 => match xs with
  | [.d (.tuple ps), .d (.tuple qs)] => ps.length = qs.length ∧ Q (.d (.list (List.zipWith (fun p q => PyData.tuple [p, q]) ps qs))) h1
  | _ => False) E
theorem i_zipL {ρ : En} {h : Ho} {Q : KD} {E : XD} {ga : WA} (k : ga ρ h (fun xs h1 => ∃ ps qs, xs = [.d (.tuple ps), .d (.tuple qs)] ∧ ps.length = qs.length ∧ Q (.d (.list (List.zipWith (fun p q => PyData.tuple [p, q]) ps qs))) h1) E) : fZipL ga ρ h Q E := by
  have e : (fun (xs : List D) (h1 : Ho) => ∃ ps qs, xs = [.d (.tuple ps), .d (.tuple qs)] ∧ ps.length = qs.length ∧ Q (.d (.list (List.zipWith (fun p q => PyData.tuple [p, q]) ps qs))) h1) = (fun xs h1 => match xs with
      | [.d (.tuple ps), .d (.tuple qs)] => ps.length = qs.length ∧ Q (.d (.list (List.zipWith (fun p q => PyData.tuple [p, q]) ps qs))) h1
      | _ => False) := by
    funext xs h1
    apply propext
    constructor
    · rintro ⟨ps, qs, rfl, k⟩
      exact k
    · intro k
      split at k
      · exact ⟨_, _, rfl, k⟩
      · exact k.elim
  rw [e] at k
  exact k
end V2
set_option Elab.async false
set_option linter.all false
set_option maxRecDepth 100000
set_option maxHeartbeats 4000000
namespace V2
open PySem PySem.Spec PyProof.Rows L2
open PySem.W (Frag)
end V2
set_option Elab.async false
set_option linter.all false
set_option maxRecDepth 100000
set_option maxHeartbeats 4000000
/-! x in a tuple of data; x is True -/
namespace V2
open PySem PySem.Spec PyProof.Rows L2
open PySem.W (Frag)
def rInTV (K : Frag) : R2 := fun x y H Q => ∃ d ds, Dp K H x d ∧ Dp K H y (.tuple ds) ∧ SeqAt.shaped d = true ∧ d.depth ≤ 63 ∧ SeqAt.shaped (.tuple ds) = true ∧ Q (.bl (ds.any fun z => PyData.eqv z d)) H
def rInT2 : WR2 := fun x y h Q => match x, y with
  | .d p, .d (.tuple ds) => SeqAt.shaped p = true ∧ p.depth ≤ 63 ∧ SeqAt.shaped (.tuple ds) = true ∧ Q (.d (.bool (ds.any fun z => PyData.eqv z p))) h
  | _, _ => False
def rNotB2 : WR2 := fun x y h Q => match x, y with
  | .d (.bool a), .d (.bool b) => Q (.d (.bool (!decide (a = b)))) h
  | _, _ => False
section
variable {X : Cx} {W : WX} {a b : Expr} {fa fb : WE} {pos : Pos}
theorem op_inTV (hu : X.A.units + 64 < cLine) : OpR X (compareOp .In) (rInTV X.K) := by
  intro pins s σ H x y v u Q I rx ry ⟨d, ds, hd, he, sd, dd, se, q⟩
  obtain ⟨m, r1⟩ := Dp.reads I d x v hd rx
  obtain ⟨n, r2⟩ := Dp.reads I (.tuple ds) y u he ry
  exact SeqAt.in_tuple_reads r2 r1 (SeqAt.canLay_of_shaped se) (SeqAt.canLay_of_shaped sd) (by have := Nat.min_le_right (PyData.depthAll ds) d.depth; omega) ⟨.bl _, H, I, rfl, q⟩
theorem cp_inT : Cp2 X (rInTV X.K) rInT2 := by
  intro x y h Q v w as H QV rx ry hR hq k
  unfold rInT2 at hq
  split at hq
  · rename_i p ds
    cases rx with | d rx =>
    cases ry with | d ry =>
    exact ⟨p, ds, rx.dp, ry.dp, hq.1, hq.2.1, hq.2.2.1, k.qd hR hq.2.2.2 (.bl _)⟩
  · exact hq.elim
theorem cp_notB : Cp2 X rNotB rNotB2 := by
  intro x y h Q v w as H QV rx ry hR hq k
  unfold rNotB2 at hq
  split at hq
  · rw [rel_bl rx, rel_bl ry]
    exact ⟨_, _, rfl, rfl, k.qd hR hq (.bl _)⟩
  · exact hq.elim
theorem ST.inT (hu : X.A.units + 64 < cLine) (ha : SE X W a fa) (hb : SE X W b fb) (hm : behindInMarks .In b = false := by rfl) : ST X W (.Compare a [.In] [b] pos) (tVal (fBin rInT2 fa fb)) := .cmp (op_inTV hu) cp_inT ha hb hm
theorem ST.notB (ha : SE X W a fa) (hb : SE X W b fb) : ST X W (.Compare a [.IsNot] [b] pos) (tVal (fBin rNotB2 fa fb)) := .cmp op_notBl cp_notB ha hb (nomark _)
end
theorem i_inT {p : PyData} {ds : List PyData} {h : Ho} {Q : KD} (h1 : SeqAt.shaped p = true) (h3 : p.depth ≤ 63) (h2 : SeqAt.shaped (.tuple ds) = true) (k : Q (.d (.bool (ds.any fun z => PyData.eqv z p))) h) : rInT2 (.d p) (.d (.tuple ds)) h Q := ⟨h1, h3, h2, k⟩
theorem i_notB {a b : Bool} {h : Ho} {Q : KD} (k : Q (.d (.bool (!decide (a = b)))) h) : rNotB2 (.d (.bool a)) (.d (.bool b)) h Q := k
end V2
set_option Elab.async false
set_option linter.all false
set_option maxRecDepth 100000
set_option maxHeartbeats 4000000
/-! max and min of a tuple of ints -/
namespace V2
open PySem PySem.Spec PyProof.Rows L2
open PySem.W (Frag)
def rMaxT : WR := fun xs h Q => ∃ ns : List Int, xs = [.d (.tuple (ns.map PyData.int))] ∧ 0 < ns.length ∧ ∀ m, m ∈ ns → (∀ y, y ∈ ns → y ≤ m) → Q (.d (.int m)) h
def rMinT : WR := fun xs h Q => ∃ ns : List Int, xs = [.d (.tuple (ns.map PyData.int))] ∧ 0 < ns.length ∧ ∀ m, m ∈ ns → (∀ y, y ∈ ns → m ≤ y) → Q (.d (.int m)) h
theorem i_maxT2 {i j : Int} {h : Ho} {Q : KD} (k : Q (.d (.int (max i j))) h) : rMaxT [.d (.tuple [.int i, .int j])] h Q := by
  refine ⟨[i, j], rfl, Nat.le_of_ble_eq_true rfl, fun m hm hall => ?_⟩
  have h1 := hall i (by simp)
  have h2 := hall j (by simp)
  have : m = max i j := by
    simp only [List.mem_cons, List.not_mem_nil, or_false] at hm
    omega
  rw [this]
  exact k
theorem i_minT2 {i j : Int} {h : Ho} {Q : KD} (k : Q (.d (.int (min i j))) h) : rMinT [.d (.tuple [.int i, .int j])] h Q := by
  refine ⟨[i, j], rfl, Nat.le_of_ble_eq_true rfl, fun m hm hall => ?_⟩
  have h1 := hall i (by simp)
  have h2 := hall j (by simp)
  have : m = min i j := by
    simp only [List.mem_cons, List.not_mem_nil, or_false] at hm
    omega
  rw [this]
  exact k
end V2
set_option Elab.async false
set_option linter.all false
set_option maxRecDepth 100000
set_option maxHeartbeats 4000000
/-! rules: and, or, not with a known end; slices; sums of lists and tuples; turned lists -/
namespace V2
open PySem PySem.Spec PyProof.Rows L2
section
variable {ρ : En} {h : Ho} {Q : KD} {E : XD} {fa fb : WE}
theorem i_forG (k : fa ρ h (fun x h1 => ∃ b, x = .d (.bool b) ∧ if b = true then Q (.d (.bool true)) h1 else fb ρ h1 Q E) E) : fOr fa fb ρ h Q E := by
  have e : (fun (x : D) (h1 : Ho) => ∃ b, x = .d (.bool b) ∧ if b = true then Q (.d (.bool true)) h1 else fb ρ h1 Q E) = (fun x h1 => match x with
      | .d (.bool false) => fb ρ h1 Q E
      | .d (.bool true) => Q (.d (.bool true)) h1
      | _ => False) := by
    funext x h1
    apply propext
    constructor
    · rintro ⟨b, rfl, q⟩
      cases b
      · exact q
      · exact q
    · intro q
      split at q
      · exact ⟨false, rfl, q⟩
      · exact ⟨true, rfl, q⟩
      · exact q.elim
  rw [e] at k
  exact k
theorem i_fnotG (k : fa ρ h (fun x h1 => ∃ b, x = .d (.bool b) ∧ Q (.d (.bool (!b))) h1) E) : fNot fa ρ h Q E := by
  have e : (fun (x : D) (h1 : Ho) => ∃ b, x = .d (.bool b) ∧ Q (.d (.bool (!b))) h1) = (fun x h1 => match x with
      | .d (.bool b) => Q (.d (.bool (!b))) h1
      | _ => False) := by
    funext x h1
    apply propext
    constructor
    · rintro ⟨b, rfl, q⟩
      exact q
    · intro q
      split at q
      · exact ⟨_, rfl, q⟩
      · exact q.elim
  rw [e] at k
  exact k
def slK (Q : KD) (x : D) (l u : Option Int) (h : Ho) : Prop := match x with
  | .d (.list ps) => Q (.d (.list (cut ps l u))) h
  | .d (.tuple ps) => Q (.d (.tuple (cut ps l u))) h
  | _ => False
theorem i_slG {lo hi : En → Ho → (Option Int → Ho → Prop) → XD → Prop} (k : fa ρ h (fun x h1 => lo ρ h1 (fun l h2 => hi ρ h2 (fun u h3 => slK Q x l u h3) E) E) E) : fSl fa lo hi ρ h Q E := k
theorem slT {ps : List PyData} {l u : Option Int} (k : Q (.d (.tuple (cut ps l u))) h) : slK Q (.d (.tuple ps)) l u h := k
theorem slL {ps : List PyData} {l u : Option Int} (k : Q (.d (.list (cut ps l u))) h) : slK Q (.d (.list ps)) l u h := k
theorem i_oN {K : Option Int → Ho → Prop} (k : K none h) : oNone ρ h K E := k
theorem i_oS {K : Option Int → Ho → Prop} (k : fa ρ h (fun x h1 => ∃ i, x = .d (.int i) ∧ K (some i) h1) E) : oSome fa ρ h K E := by
  have e : (fun (x : D) (h1 : Ho) => ∃ i, x = .d (.int i) ∧ K (some i) h1) = (fun x h1 => match x with
      | .d (.int i) => K (some i) h1
      | _ => False) := by
    funext x h1
    apply propext
    constructor
    · rintro ⟨b, rfl, q⟩
      exact q
    · intro q
      split at q
      · exact ⟨_, rfl, q⟩
      · exact q.elim
  rw [e] at k
  exact k
theorem i_addLL {ps qs : List PyData} (hl : ps.length + qs.length ≤ sizeLine) (k : Q (.d (.list (ps ++ qs))) h) : rAdd2 (.d (.list ps)) (.d (.list qs)) h Q := ⟨hl, k⟩
theorem i_addTT {ps qs : List PyData} (hl : ps.length + qs.length ≤ sizeLine) (k : Q (.d (.tuple (ps ++ qs))) h) : rAdd2 (.d (.tuple ps)) (.d (.tuple qs)) h Q := ⟨hl, k⟩
def rvK (Q : KD) (x : D) (h : Ho) : Prop := match x with
  | .d (.list ps) => Q (.d (.list ps.reverse)) h
  | _ => False
theorem i_rev (k : fa ρ h (rvK Q) E) : fRev fa ρ h Q E := k
theorem rvL {ps : List PyData} (k : Q (.d (.list ps.reverse)) h) : rvK Q (.d (.list ps)) h := k
theorem i_tupL {ps : List PyData} (k : Q (.d (.tuple ps)) h) : rTup1 [.d (.list ps)] h Q := by
  unfold rTup1
  simp only [litems, allD_map]
  exact k
theorem i_tupLoc {n : Nat} {ps : List PyData} (e : h[n]? = some (.lst (ps.map D.d))) (k : Q (.d (.tuple ps)) h) : rTup1 [.loc n] h Q := by
  unfold rTup1
  simp only [litems, e, allD_map]
  exact k
theorem i_listT {ps : List PyData} (k : Q (.d (.list ps)) h) : rList1 [.d (.tuple ps)] h Q := by
  unfold rList1
  simp only [items, allD_map]
  exact k
end
end V2
set_option Elab.async false
set_option linter.all false
set_option maxRecDepth 100000
set_option maxHeartbeats 4000000
/-! an int less a bool -/
namespace V2
open PySem PySem.Spec PyProof.Rows L2
def rSubB2 : WR2 := fun x y h Q => match x, y with
  | .d (.int i), .d (.bool b) => Q (.d (.int (i - if b = true then (1 : Int) else 0))) h
  | _, _ => False
theorem i_subB {i : Int} {b : Bool} {h : Ho} {Q : KD} (k : Q (.d (.int (i - if b = true then (1 : Int) else 0))) h) : rSubB2 (.d (.int i)) (.d (.bool b)) h Q := k
end V2
set_option Elab.async false
set_option linter.all false
set_option maxRecDepth 100000
set_option maxHeartbeats 4000000
/-! a slice of a list that is a place: a new list of data -/
namespace V2
open PySem PySem.Spec PyProof.Rows L2
open PySem.W (Frag)
def plK (Q : KD) (x : D) (l u : Option Int) (h : Ho) : Prop := ∃ n xs ps, x = .loc n ∧ h[n]? = some (.lst xs) ∧ allD xs = some ps ∧ Q (.d (.list (cut ps l u))) h
def fSlP (fa : WE) (lo hi : En → Ho → (Option Int → Ho → Prop) → XD → Prop) : WE := fun ρ h Q E => fa ρ h (fun x h1 => lo ρ h1 (fun l h2 => hi ρ h2 (fun u h3 => plK Q x l u h3) E) E) E
section
variable {ρ : En} {h : Ho} {Q : KD} {E : XD} {fa : WE}
theorem i_slP {lo hi : En → Ho → (Option Int → Ho → Prop) → XD → Prop} (k : fa ρ h (fun x h1 => lo ρ h1 (fun l h2 => hi ρ h2 (fun u h3 => plK Q x l u h3) E) E) E) : fSlP fa lo hi ρ h Q E := k
end
end V2
set_option Elab.async false
set_option linter.all false
set_option maxRecDepth 100000
set_option maxHeartbeats 4000000
/-! min of a tuple or list of data that can be compared; .index of data in a tuple or list -/
namespace V2
open PySem PySem.Spec PyProof.Rows L2 PySem.SeqAt PySem.W
open PySem.W (Frag)
theorem relAll_dv {K : Frag} {as : List Addr} {H : Hp} : ∀ {us : List V} {ds : List PyData}, RelAll K as H us (ds.map D.d) → DvAll K as H us ds
  | _, [], .nil => .nil
  | _, _ :: _, .cons (.d r) t => .cons r (relAll_dv t)
section
variable {X : Cx} {W : WX} {a : Expr} {ga : WA} {pos p : Pos}
def idxK (Q : KD) (ds : List PyData) (d : PyData) (h : Ho) : Prop := SeqAt.shaped d = true ∧ d.depth ≤ 63 ∧ ∃ j z, ds[j]? = some z ∧ PyData.eqv z d = true ∧ (∀ (m : Nat) (z' : PyData), m < j → ds[m]? = some z' → PyData.eqv z' d = false) ∧ Q (.d (.int (j : Nat))) h
/-- t.index(x) of a tuple that is known -/
def fIdxT (fo : WE) (ga : WA) : WE := fun ρ h Q E => fo ρ h (fun x h1 => match x with
  | .tp ds => SeqAt.shaped (.tuple ds) = true ∧ ga ρ h1 (fun ys h2 => match ys with
    | [.d d] => idxK Q ds d h2
    | _ => False) E
  | _ => False) E
variable {o e : Expr} {fo : WE} {apos cpos : Pos}
/-- tuple(a list): a tuple that is known -/
def rTup1K : WR := fun xs h Q => ∃ x ps, xs = [x] ∧ litems h x = some (ps.map D.d) ∧ Q (.tp ps) h
theorem call_tupleK : CallR X (.type "tuple") (fun xs H Q => ∃ p ys, xs = [.ref p] ∧ SqL X.K H p ys ∧ ∀ l ob, H l = none → ob.dict = none → Q (.ref l) (upd H l (.frz ob (.tup ys)))) := by
  intro pins s σ H xs us Q I r h
  obtain ⟨p, ys, rfl, hq, q⟩ := h
  obtain ⟨u, rfl, rx⟩ := vals1 r
  cases rx
  obtain ⟨its, r', pl, hz⟩ := I.list hq
  have hlen := r'.length
  refine call_tuple_list pl.isList (fun h' kp => ?_) (by simp only [List.size_toArray] <;> omega)
  have I1 : Inv X pins σ H { s with heap := h' } := I.kept (t' := s.toks) kp
  have I2 : Inv X pins σ (upd H h'.objs.size (.frz { cls := .type "tuple", data := .seq its.toArray } (.tup ys))) { s with heap := h'.push { cls := .type "tuple", data := .seq its.toArray } } :=
    I1.laid (t' := s.toks) (fun b o e => Heap.get?_push_of_some _ e) (Nat.le_refl _) (show ObjOk X.prog X.w _ _ _ (.frz _ (.tup ys)) from ⟨Heap.get?_push_size _ rfl, hz, its, r', IsTup.new _ _⟩)
  exact ⟨.ref h'.objs.size, _, I2, rfl, q _ _ (I1.hok.fresh (Nat.le_refl _)) rfl⟩
theorem cp_tup1K : CpA X (fun xs H Q => ∃ p ys, xs = [.ref p] ∧ SqL X.K H p ys ∧ ∀ l ob, H l = none → ob.dict = none → Q (.ref l) (upd H l (.frz ob (.tup ys)))) rTup1K := by
  rintro xs h Q vs as H QV rv hR ⟨x, ps, rfl, e, q⟩ k
  obtain ⟨v, rfl, r⟩ := relAll1 rv
  obtain ⟨a, us, rfl, s, ra⟩ := litems_rel r hR e
  refine ⟨a, us, rfl, s, fun l ob hl hd => ?_⟩
  have lt : Later as H as (upd H l (.frz ob (.tup us))) := Later.new _ hl
  refine k _ _ _ _ _ q lt (hR.new _ hl) (.tp upd_same hd (fun hm => ?_) ((relAll_dv ra).later lt))
  obtain ⟨u, e⟩ := hR.there hm
  rw [hl] at e
  cases e
theorem SE.tup1K (hg : Gl X "tuple") (hm : X.mg "tuple" = none) (ha : SA X W [a] ga) (he : starEach [a] X.env = (false, eval a X.env) :: starEach [] X.env := by rfl) : SE X W (.Call (.Name "tuple" p) [a] [] pos) (fCall rTup1K ga) := .callTy call_tupleK cp_tup1K hg hm (by decide +kernel) ha (he := he) (hpl := rfl)
/-- a known tuple as data -/
def fUnT (fo : WE) : WE := fun ρ h Q E => fo ρ h (fun x h1 => match x with
  | .tp ps => Q (.d (.tuple ps)) h1
  | _ => False) E
end
section
variable {ρ : En} {h : Ho} {Q : KD} {E : XD} {fo : WE} {ga : WA}
theorem i_idxT {ds : List PyData} (k : fo ρ h (fun x h1 => match x with
  | .tp ds => SeqAt.shaped (.tuple ds) = true ∧ ga ρ h1 (fun ys h2 => match ys with
    | [.d d] => idxK Q ds d h2
    | _ => False) E
  | _ => False) E) : fIdxT fo ga ρ h Q E := k
theorem i_unT (k : fo ρ h (fun x h1 => match x with
  | .tp ps => Q (.d (.tuple ps)) h1
  | _ => False) E) : fUnT fo ρ h Q E := k
theorem i_tup1K {x : D} {ps : List PyData} (e : litems h x = some (ps.map D.d)) (k : Q (.tp ps) h) : rTup1K [x] h Q := ⟨x, ps, rfl, e, k⟩
end
end V2
set_option Elab.async false
set_option linter.all false
set_option maxRecDepth 100000
set_option maxHeartbeats 4000000
/-! objects of a class of the program whose __init__ stores its two parameters: made, their attributes read -/
namespace V2
open PySem PySem.Spec PyProof.Rows L2
open PySem.W (Frag)
/-- what the head says of a class: its name is its own, it is a plain class, it has no attribute of these names -/
structure ClsN (K : Frag) (N : Str) (C : Addr) (fl : List Str) : Prop where
  nm : nmIn K C = some N
  one : ∀ a, nmIn K a = some N → a = C
  cls : Cls K C
  no : ∀ f ∈ fl, NoAttr K C f
/-- N(a, b), a class that stores both -/
def fMake2 (N f1 f2 : Str) (ga : WA) : WE := fun ρ h Q E => ga ρ h (fun xs h1 => match xs with
  | [.d p, .d q] => Q (.ob N [(f1, p), (f2, q)]) h1
  | _ => False) E
/-- e.f of an object -/
def fFld (N f : Str) (fo : WE) : WE := fun ρ h Q E => fo ρ h (fun x h1 => match x with
  | .ob M fs => M = N ∧ ∃ p, fs.lookup f = some p ∧ Q (.d p) h1
  | _ => False) E
theorem fld_rel {K : Frag} {as : List Addr} {H : Hp} {f : Str} : ∀ {vs : List (Str × V)} {fs : List (Str × PyData)} {p : PyData}, vs.map (·.1) = fs.map (·.1) → DvAll K as H (vs.map (·.2)) (fs.map (·.2)) → fs.lookup f = some p → ∃ v, vs.lookup f = some v ∧ Dv K as H v p
  | [], [], _, _, _, e => by cases e
  | (g, v) :: vs, (g2, q) :: fs, p, e1, .cons h1 h2, e => by
    rw [List.map_cons, List.map_cons] at e1
    injection e1 with e3 e4
    have e3 : g = g2 := e3
    subst e3
    rw [List.lookup_cons] at e ⊢
    by_cases c : (f == g) = true
    · rw [c] at e ⊢
      cases e
      exact ⟨v, rfl, h1⟩
    · rw [Bool.not_eq_true] at c
      rw [c] at e ⊢
      exact fld_rel e4 h2 e
section
variable {X : Cx} {W : WX} {o : Expr} {fo : WE} {N f : Str} {C : Addr} {fl : List Str} {pos p : Pos} {ga : WA}
theorem SE.fld (c : ClsN X.K N C fl) (m : f ∈ fl) (ho : SE X W o fo) (hb : attributeBase o f X.env (eval o X.env) = eval o X.env := by rfl) : SE X W (.Attribute o f pos) (fFld N f fo) := by
  obtain ⟨_, po, so⟩ := ho
  refine ⟨_, pe_fld po hb, fun σ H as ρ h Q E QV eR hR hq k kx => ?_⟩
  refine so σ H as ρ h _ E _ eR hR hq (fun x h1 v as1 H1 hq1 l1 r1 rv => ?_) kx
  split at hq1
  · obtain ⟨rfl, p, ep, q⟩ := hq1
    cases rv with | ob z1 z2 z3 z4 z5 =>
    have ec := c.one _ z2
    subst ec
    obtain ⟨v, e2, d2⟩ := fld_rel z4 z5 ep
    exact ⟨_, _, _, _, v, rfl, z1, c.cls, c.no _ m, e2, (k.later l1).qd r1 q d2⟩
  · exact hq1.elim
end
section
variable {ρ : En} {h : Ho} {Q : KD} {E : XD} {fo : WE} {ga : WA}
def fldK (N f : Str) (Q : KD) : KD := fun x h1 => match x with
  | .ob M fs => M = N ∧ ∃ p, fs.lookup f = some p ∧ Q (.d p) h1
  | _ => False
theorem i_fld {N f : Str} (k : fo ρ h (fldK N f Q) E) : fFld N f fo ρ h Q E := k
theorem fld1 {N f : Str} {fs : List (Str × PyData)} {p : PyData} (e : fs.lookup f = some p) (k : Q (.d p) h) : fldK N f Q (.ob N fs) h := ⟨rfl, p, e, k⟩
theorem i_make2 {N f1 f2 : Str} (k : ga ρ h (fun xs h1 => match xs with
  | [.d p, .d q] => Q (.ob N [(f1, p), (f2, q)]) h1
  | _ => False) E) : fMake2 N f1 f2 ga ρ h Q E := k
end
end V2
set_option Elab.async false
set_option linter.all false
set_option maxRecDepth 100000
set_option maxHeartbeats 4000000
/-! a def that hands out its last list: data behind the call -/
namespace V2
open PySem PySem.Spec PyProof.Rows L2
open PySem.W (Frag)
section
variable {K : Frag} {as : List Addr} {H : Hp} {b : Addr}
theorem dv_back : ∀ {d : PyData} {v : V}, Dv K (as ++ [b]) H v d → Dv K as H v d := by
  intro d v hd
  have tupB : ∀ {a : Addr} {ys : List V}, TupR K (as ++ [b]) H a ys → TupR K as H a ys := fun z => z.elim (fun z => .inl ⟨z.1, fun m => z.2 (List.mem_append_left _ m)⟩) .inr
  have lstB : ∀ {a : Addr} {ys : List V}, LstR K (as ++ [b]) H a ys → LstR K as H a ys := fun z => z.elim (fun z => .inl ⟨z.1, fun m => z.2 (List.mem_append_left _ m)⟩) .inr
  exact Dv.rec (motive_1 := fun v d _ => Dv K as H v d) (motive_2 := fun vs ds _ => DvAll K as H vs ds) .non (fun b => .bl b) (fun i => .int i) (fun x => .str x) (fun s _ ih => .lst (lstB s) ih) (fun s _ ih => .tup (tupB s) ih) .nil (fun _ _ ih1 ih2 => .cons ih1 ih2) hd
theorem dvs_back : ∀ (ds : List PyData) (vs : List V), DvAll K (as ++ [b]) H vs ds → DvAll K as H vs ds := by
  intro ds
  induction ds with
  | nil => intro vs hd; cases hd; exact .nil
  | cons d ds ih => intro vs hd; cases hd with | cons z1 z2 => exact .cons (dv_back z1) (ih _ z2)
theorem rel_back {v : V} {x : D} (rx : Rel K (as ++ [b]) H v x) (hn : noRefD as.length x = true) : Rel K as H v x := by
  have tupB : ∀ {a : Addr} {ys : List V}, TupR K (as ++ [b]) H a ys → TupR K as H a ys := fun z => z.elim (fun z => .inl ⟨z.1, fun m => z.2 (List.mem_append_left _ m)⟩) .inr
  cases rx with
  | d rx => exact .d (dv_back rx)
  | @loc a m hm =>
    simp only [noRefD, bne_iff_ne, ne_eq] at hn
    have hlt := (List.getElem?_eq_some_iff.mp hm).1
    simp at hlt
    have : m < as.length := by omega
    rw [List.getElem?_append_left this] at hm
    exact .loc hm
  | tp z1 z2 z3 z4 => exact .tp z1 z2 (fun m => z3 (List.mem_append_left _ m)) (dvs_back _ _ z4)
  | ob z1 z2 z3 z4 z5 => exact .ob z1 z2 (fun m => z3 (List.mem_append_left _ m)) z4 (dvs_back _ _ z5)
  | @pr t a m v q z1 hm z3 =>
    simp only [noRefD, bne_iff_ne, ne_eq] at hn
    have hlt := (List.getElem?_eq_some_iff.mp hm).1
    simp at hlt
    have : m < as.length := by omega
    rw [List.getElem?_append_left this] at hm
    exact .pr (tupB z1) hm (dv_back z3)
theorem rels_back : ∀ {vs : List V} {xs : List D}, RelAll K (as ++ [b]) H vs xs → (∀ x ∈ xs, noRefD as.length x = true) → RelAll K as H vs xs := by
  intro vs xs ra
  induction ra with
  | nil => intro _; exact .nil
  | cons r t ih => intro hn; exact .cons (rel_back r (hn _ (by simp))) (ih fun x hx => hn x (List.mem_cons_of_mem _ hx))
theorem heap_back {hh : Ho} {o : O} (r : HeapR K (as ++ [b]) H (hh ++ [o])) (hno : noRef hh.length hh = true) : HeapR K as H hh := by
  have hl := r.len
  rw [List.length_append, List.length_append, List.length_singleton, List.length_singleton] at hl
  have hl : as.length = hh.length := by omega
  refine ⟨hl, ?_, fun i o a e1 e2 => ?_⟩
  · have := r.nd
    rw [List.nodup_append] at this
    exact this.1
  · have hi' : i < as.length := (List.getElem?_eq_some_iff.mp e2).1
    have q2 := r.ob i o a (by rw [List.getElem?_append_left (by omega)]; exact e1) (by rw [List.getElem?_append_left hi']; exact e2)
    cases o with
    | lst ys =>
      obtain ⟨us, u1, u2⟩ := q2
      refine ⟨us, u1, rels_back u2 fun x hx => ?_⟩
      unfold noRef at hno
      rw [List.all_eq_true] at hno
      have := hno _ (List.mem_of_getElem? e1)
      simp only [List.all_eq_true] at this
      rw [hl]
      exact this x hx
    | keys ks =>
      obtain ⟨h0, xs, u1, u2, u3⟩ := q2
      exact ⟨h0, xs, u1, u2, fun z hz => (u3 z hz).imp (fun t => ⟨t.1, fun hm => t.2 (List.mem_append_left _ hm)⟩) id⟩
    | di kvs =>
      obtain ⟨xs, u1, u2⟩ := q2
      refine ⟨xs, u1, u2.imp fun z hz v r => rel_back r ?_⟩
      unfold noRef at hno
      rw [List.all_eq_true] at hno
      have := hno _ (List.mem_of_getElem? e1)
      simp only [List.all_eq_true] at this
      rw [hl]
      exact this z hz
    | dt kvs =>
      obtain ⟨u0, xs, u1, u2⟩ := q2
      refine ⟨u0, xs, u1, u2.imp (fun b ys t => t.imp (fun t => ⟨t.1, fun hm => t.2 (List.mem_append_left _ hm)⟩) id) fun z hz v r => rel_back r ?_⟩
      unfold noRef at hno
      rw [List.all_eq_true] at hno
      have := hno _ (List.mem_of_getElem? e1)
      simp only [List.all_eq_true] at this
      rw [hl]
      exact this z hz
    | lk u => exact q2
end
/-- the last place as data -/
def frzK (Q : KD) (n0 : Nat) : KD := fun y h' => match y with
  | .loc n => ∃ hh ps, h' = hh ++ [.lst (ps.map D.d)] ∧ n = hh.length ∧ n0 ≤ n ∧ noRef n hh = true ∧ Q (.d (.list ps)) hh
  | .pr n q => ∃ hh ps, h' = hh ++ [.lst (ps.map D.d)] ∧ n = hh.length ∧ n0 ≤ n ∧ noRef n hh = true ∧ Q (.d (.tuple [.list ps, q])) hh
  | y => Q y h'
def frz (F : WF) : WF := fun xs h Q E => F xs h (frzK Q h.length) E
theorem split_last {α : Type} {l : List α} {n : Nat} {a : α} (h : l.length = n + 1) (e : l[n]? = some a) : l = l.take n ++ [a] := by
  have e2 := List.take_add_one (l := l) (i := n)
  rw [e, Option.toList_some, List.take_of_length_le (by omega)] at e2
  exact e2
theorem later_cut {as as1 as2 : List Addr} {H H1 : Hp} {a : Addr} (l : Later as H as1 H1) (e : as1 = as2 ++ [a]) (hl : as.length ≤ as2.length) : Later as H as2 H1 := by
  subst e
  obtain ⟨⟨m, em⟩, k⟩ := l
  refine ⟨⟨m.take (as2.length - as.length), ?_⟩, fun p o h n => ?_⟩
  · have e1 : (as2 ++ [a]).take as2.length = as2 := List.take_left
    rw [em, List.take_append, List.take_of_length_le hl] at e1
    exact e1.symm
  · obtain ⟨k1, k2⟩ := k p o h n
    exact ⟨k1, fun hm => k2 (List.mem_append_left _ hm)⟩
theorem FnG.frz {P : Program} {w : World} {K : Frag} {mg : Str → Option Value} {base : Heap} {k : Nat} {f : Addr} {fd : FuncData} {ps : List Str} {F : WF} (g : FnG P w K mg base k f fd ps F) : FnG P w K mg base k f fd ps (V2.frz F) := by
  refine ⟨fun A outer s H args us vs Q E hr hg e0 hb hv ⟨as, xs, ho, Q0, E0, h1, h2, h3, h4, h5, h6⟩ => g.run A outer s H args us vs Q E hr hg e0 hb hv ⟨as, xs, ho, frzK Q0 ho.length, E0, h1, h2, h3, h4, fun y h' v as1 H1 q l r rv => ?_, h6⟩⟩
  have core : ∀ (n : Nat) (hh : Ho) (ps : List PyData) (a : Addr), h' = hh ++ [.lst (ps.map D.d)] → n = hh.length → ho.length ≤ n → noRef n hh = true → as1[n]? = some a →
      ∃ as2, as1 = as2 ++ [a] ∧ Later as H as2 H1 ∧ HeapR K as2 H1 hh ∧ ∃ us, LstR K as2 H1 a us ∧ DvAll K as2 H1 us ps := by
    intro n hh ps a eh en hn nr ha
    subst eh
    subst en
    have len := r.len
    rw [List.length_append, List.length_singleton] at len
    have es := split_last len ha
    have hl2 : (as1.take hh.length).length = hh.length := by rw [List.length_take]; omega
    refine ⟨as1.take hh.length, es, later_cut l es (by rw [hl2, h3.len]; exact hn), ?_, ?_⟩
    · rw [es] at r
      exact heap_back r nr
    · obtain ⟨us, o1, o2⟩ := r.ob hh.length _ a List.getElem?_concat_length ha
      rw [es] at o2
      have nd := r.nd
      rw [es, List.nodup_append] at nd
      refine ⟨us, .inl ⟨.inl o1, fun hm => nd.2.2 a hm a (by simp) rfl⟩, dvs_back _ _ o2.data⟩
  cases y with
  | loc n =>
    obtain ⟨hh, ps, eh, en, hn, nr, q⟩ := q
    cases rv with | loc hm =>
    obtain ⟨as2, e, l2, r2, us, lr, da⟩ := core n hh ps _ eh en hn nr hm
    exact h5 _ _ _ _ _ q l2 r2 (.d (.lst lr da))
  | pr n qd =>
    obtain ⟨hh, ps, eh, en, hn, nr, q⟩ := q
    cases rv with | pr tr hm dq =>
    obtain ⟨as2, e, l2, r2, us, lr, da⟩ := core n hh ps _ eh en hn nr hm
    subst e
    refine h5 _ _ _ _ _ q l2 r2 (.d (.tup (tr.elim (fun z => .inl ⟨z.1, fun m => z.2 (List.mem_append_left _ m)⟩) .inr) (.cons (.lst lr da) (.cons (dv_back dq) .nil))))
  | d p => exact h5 _ _ _ _ _ q l r rv
  | tp ps => exact h5 _ _ _ _ _ q l r rv
  | ob C fs => exact h5 _ _ _ _ _ q l r rv
/-- a tuple of a place and data -/
def rPr : WR := fun xs h Q => match xs with
  | [.loc n, .d q] => Q (.pr n q) h
  | _ => False
section
variable {X : Cx} {W : WX} {ga : WA} {e1 e2 : Expr} {pos : Pos}
def fPr (ga : WA) : WE := fun ρ h Q E => ga ρ h (fun xs h1 => rPr xs h1 Q) E
theorem SE.pr {es : List Expr} {x1} (ha : SA X W es ga) : SE X W (.Tuple es x1 pos) (fPr ga) := by
  obtain ⟨_, pa, sa⟩ := ha
  refine ⟨_, pe_tup pa, fun σ H as ρ h Q E QV eR hR hq k kx => ?_⟩
  refine sa σ H as ρ h _ E _ eR hR hq (fun xs h1 vs as1 H1 hq1 l1 r1 rv => ?_) kx
  unfold rPr at hq1
  split at hq1
  · rename_i n q
    cases rv with | cons ra rv =>
    cases rv with | cons rb rv =>
    cases rv
    cases ra with | @loc a1 _ ra =>
    cases rb with | d rb =>
    rename_i vb
    refine ⟨by show 2 ≤ sizeLine; decide, fun p hp => ?_⟩
    have l2 := Later.new (as := as1) (.tup [.ref a1, vb]) hp
    refine (k.later l1) _ _ _ _ _ hq1 l2 (r1.new _ hp) (.pr (.inl ⟨.inl upd_same, fun hm => ?_⟩) (l2.at ra) (rb.later l2))
    obtain ⟨u, e⟩ := r1.there hm
    rw [hp] at e
    cases e
  · exact hq1.elim
end
end V2
set_option Elab.async false
set_option linter.all false
set_option maxRecDepth 100000
set_option maxHeartbeats 4000000
/-! sorted of a list of ints, and of a list of data that can be compared -/
namespace V2
open PySem PySem.Spec PyProof.Rows L2
open PySem.W (Frag EachIs dataLe)
def rSortD : WR := fun xs h Q => ∃ x ds, xs = [x] ∧ litems h x = some (ds.map D.d) ∧ PySem.W.AllAlike ds ∧ PySem.W.Sortable ds ∧ (∀ d ∈ ds, d.depth ≤ 60) ∧ Q (.d (.list (ds.mergeSort (dataLe false id)))) h
def rSortDV (K : Frag) : List V → Hp → VK → Prop := fun vs H Q => ∃ (a : Addr) (us : List V) (ds : List PyData), vs = [V.ref a] ∧ SqL K H a us ∧ DpAll K H us ds ∧ PySem.W.AllAlike ds ∧ PySem.W.Sortable ds ∧ (∀ d ∈ ds, d.depth ≤ 60) ∧
  ∀ p, H p = none → Q (.ref p) (upd H p (.lst (((us.zip ds).mergeSort (dataLe false (·.2))).map (·.1))))
theorem dpAll_len {K : Frag} {H : Hp} : ∀ {us : List V} {ds : List PyData}, DpAll K H us ds → us.length = ds.length
  | _, _, .nil => rfl
  | _, _, .cons _ h => by rw [List.length_cons, List.length_cons, dpAll_len h]
theorem each_zip1 : ∀ {us : List V} {its : List Value} {ds : List PyData}, Vals us its → us.length = ds.length → EachIs (fun v (b : V × PyData) => RelV b.1 v) its (us.zip ds)
  | [], _, _, .nil, _ => by simp; exact .nil
  | u :: us, _, d :: ds, .cons r t, e => .cons r (each_zip1 t (by simpa using e))
theorem each_zip2 {h : Heap} : ∀ {us : List V} {its : List Value} {ds : List PyData} {as : List Addr}, ReadsAll h its ds as → us.length = ds.length → EachIs (fun v (b : V × PyData) => ∃ as, Reads h v b.2 as) its (us.zip ds)
  | [], _, [], _, .nil, _ => .nil
  | u :: us, _, d :: ds, _, .cons r t, e => .cons ⟨_, r⟩ (each_zip2 t (by simpa using e))
theorem vals_each : ∀ {out : List Value} {M : List (V × PyData)}, EachIs (fun v (b : V × PyData) => RelV b.1 v) out M → Vals (M.map (·.1)) out
  | _, _, .nil => .nil
  | _, _, .cons r t => .cons r (vals_each t)
theorem dvAll_of {K : Frag} {as : List Addr} {H : Hp} : ∀ {M : List (V × PyData)}, (∀ z ∈ M, Dv K as H z.1 z.2) → DvAll K as H (M.map (·.1)) (M.map (·.2))
  | [], _ => .nil
  | z :: M, h => .cons (h z (by simp)) (dvAll_of fun y hy => h y (by simp [hy]))
theorem dv_zip {K : Frag} {as : List Addr} {H : Hp} : ∀ {us : List V} {ds : List PyData}, DvAll K as H us ds → ∀ z ∈ us.zip ds, Dv K as H z.1 z.2
  | _, _, .nil, z, hz => by simp at hz
  | _, _, .cons r t, z, hz => by
    rw [List.zip_cons_cons] at hz
    rcases List.mem_cons.1 hz with rfl | hz
    · exact r
    · exact dv_zip t z hz
theorem dv_len {K : Frag} {as : List Addr} {H : Hp} : ∀ {us : List V} {ds : List PyData}, DvAll K as H us ds → us.length = ds.length
  | _, _, .nil => rfl
  | _, _, .cons _ h => by rw [List.length_cons, List.length_cons, dv_len h]
theorem zip_snd {us : List V} {ds : List PyData} (e : us.length = ds.length) : (us.zip ds).map (·.2) = ds := List.map_snd_zip (by omega)
theorem sort_snd {us : List V} {ds : List PyData} (e : us.length = ds.length) : ((us.zip ds).mergeSort (dataLe false (·.2))).map (·.2) = ds.mergeSort (dataLe false id) := by
  have h := List.map_mergeSort (r := dataLe false (fun b : V × PyData => b.2)) (s := dataLe false id) (f := fun b : V × PyData => b.2) (l := us.zip ds) (fun a _ b _ => rfl)
  rw [h, zip_snd e]
theorem dvs_int {K : Frag} {as : List Addr} {H : Hp} : ∀ ns : List Int, DvAll K as H (ns.map V.int) (ns.map PyData.int)
  | [] => .nil
  | i :: t => .cons (.int i) (dvs_int t)
section
variable {X : Cx} {W : WX} {a : Expr} {ga : WA} {pos p : Pos}
theorem cr_sortD (hu : X.A.units + 64 < cLine) : CallR X (.builtin "sorted") (rSortDV X.K) := by
  intro pins s σ H vs us Q I r h
  obtain ⟨a, xs, ds, rfl, hs, hp, hal, hk, dep, q⟩ := h
  obtain ⟨its, rv, hl, hz⟩ := I.list hs
  obtain ⟨as, h4⟩ := Dp.readsAll I ds _ its hp rv
  rw [Vals.ref1 r]
  have len := dpAll_len hp
  have ez := zip_snd len
  refine PySem.W.sorted_data (enc := fun b : V × PyData => b.2) (bs := xs.zip ds) hl.isList (each_zip1 rv len) (each_zip2 h4 len) (by rw [ez]; exact hal) (by rw [ez]; exact hk) (by rw [List.length_zip]; omega) (fun b hb => ?_) fun out h1 h2 => ?_
  · have := dep b.2 (List.of_mem_zip hb).2
    omega
  obtain ⟨ep, he'⟩ := PyProof.Rows.sortedAll_at s.heap its out.toArray
  have hv := vals_each h2
  have hlen : (((xs.zip ds).mergeSort (dataLe false (·.2))).map (·.1)).length ≤ sizeLine := by
    rw [List.length_map, List.length_mergeSort, List.length_zip]
    omega
  exact ⟨.ref _, upd H (s.heap.objs.size + 1) (.lst _), I.laid (t' := s.toks) (fun _ _ => PyProof.Rows.sortedAll_old) (Nat.le_succ _) ⟨hlen, out, ep, hv, he'⟩, rfl, q _ (I.hok.fresh (Nat.le_succ _))⟩
theorem cp_sortD : CpA X (rSortDV X.K) rSortD := by
  rintro xs h Q vs as H QV rv hR ⟨x, ds, rfl, e, hal, hk, dep, q⟩ k
  obtain ⟨v, rfl, r⟩ := relAll1 rv
  obtain ⟨a, us, rfl, s, ra⟩ := litems_rel r hR e
  have da := relAll_dv ra
  have len := dv_len da
  refine ⟨a, us, ds, rfl, s, DvAll.dp da, hal, hk, dep, fun p hp => ?_⟩
  have dv := dvAll_of (M := (us.zip ds).mergeSort (dataLe false (·.2))) fun z hz => dv_zip da z ((List.mergeSort_perm _ _).mem_iff.1 hz)
  rw [sort_snd len] at dv
  exact k.newLst hR q dv hp
theorem SE.sortD (hg : Gl X "sorted") (hm : X.mg "sorted" = none) (hu : X.A.units + 64 < cLine) (ha : SA X W [a] ga) (he : starEach [a] X.env = (false, eval a X.env) :: starEach [] X.env := by rfl) : SE X W (.Call (.Name "sorted" p) [a] [] pos) (fCall rSortD ga) := .callB (cr_sortD hu) cp_sortD hg hm (by decide +kernel) ha (he := he) (hpl := rfl)
end
end V2
set_option Elab.async false
set_option linter.all false
set_option maxRecDepth 100000
set_option maxHeartbeats 4000000
/-! list(x) as a place; a class by its name -/
namespace V2
open PySem PySem.Spec PyProof.Rows L2
open PySem.W (Frag)
end V2
set_option Elab.async false
set_option linter.all false
set_option maxRecDepth 100000
set_option maxHeartbeats 4000000
/-! x in, not in a list of data -/
namespace V2
open PySem PySem.Spec PyProof.Rows L2
open PySem.W (Frag)
end V2
set_option Elab.async false
set_option linter.all false
set_option maxRecDepth 100000
set_option maxHeartbeats 4000000
/-! .index of data in a list that is data -/
namespace V2
open PySem PySem.Spec PyProof.Rows L2 PySem.SeqAt PySem.W
open PySem.W (Frag)
end V2
set_option Elab.async false
set_option linter.all false
set_option maxRecDepth 100000
set_option maxHeartbeats 4000000
/-! == of two objects by their class's own __eq__, isinstance of an object with its class -/
namespace V2
open PySem PySem.Spec PyProof.Rows L2
open PySem.W (Frag)
/-! a, b = (x, y) where a name is a cell: the tuple is laid and unpacked, its members need be no data -/
end V2
set_option Elab.async false
set_option linter.all false
set_option maxRecDepth 100000
set_option maxHeartbeats 4000000
/-! dicts by ints: {}, look-ups, stores, pop, del, sorted -/
namespace V2
open PySem PySem.Spec PyProof.Rows L2
open PySem.W (Frag)
section
variable {κ : Type} [DecidableEq κ]
/-- what stands at a key -/
def lk (kvs : List (κ × D)) (k : κ) : Option D := (kvs.find? fun z => decide (z.1 = k)).map (·.2)
/-- stored at a key -/
def stD (kvs : List (κ × D)) (k : κ) (x : D) : List (κ × D) :=
  if kvs.any (fun z => decide (z.1 = k)) = true then kvs.map (fun z => if z.1 = k then (z.1, x) else z) else kvs ++ [(k, x)]
/-- without a key -/
def dlD (kvs : List (κ × D)) (k : κ) : List (κ × D) := kvs.filter fun z => decide (z.1 ≠ k)
theorem lk_cons {z : κ × D} {r : List (κ × D)} {k : κ} : lk (z :: r) k = if z.1 = k then some z.2 else lk r k := by
  unfold lk
  rw [List.find?_cons]
  by_cases c : z.1 = k
  · rw [if_pos c, decide_eq_true c]; rfl
  · rw [if_neg c, decide_eq_false c]
theorem lk_any : ∀ {kvs : List (κ × D)} {k : κ}, (kvs.any fun z => decide (z.1 = k)) = (lk kvs k).isSome
  | [], k => rfl
  | z :: r, k => by
    rw [lk_cons, List.any_cons]
    by_cases c : z.1 = k
    · rw [if_pos c, decide_eq_true c]; rfl
    · rw [if_neg c, decide_eq_false c, Bool.false_or]
      exact lk_any
end
/-- a dict by ints beside its entries -/
def RO (K : Frag) (as : List Addr) (H : Hp) : Option V → Option D → Prop
  | some v, some d => Rel K as H v d
  | none, none => True
  | _, _ => False
section
variable {K : Frag} {as : List Addr} {H : Hp}
theorem DiR.val {i : Int} : ∀ {xs : List (Key × V)} {kvs : List (Int × D)}, DiR K as H xs kvs → RO K as H (valV xs (.inl i)) (lk kvs i)
  | _, _, .nil => trivial
  | _, _, .cons (i := j) (d := d) (v := v) r t => by
    rw [lk_cons]
    by_cases c : j = i
    · rw [if_pos c, valV_pos (by rw [c])]
      exact r
    · rw [if_neg c, valV_neg (fun e => c (Sum.inl.inj e))]
      exact DiR.val t
theorem DiR.len : ∀ {xs : List (Key × V)} {kvs : List (Int × D)}, DiR K as H xs kvs → xs.length = kvs.length
  | _, _, .nil => rfl
  | _, _, .cons _ t => congrArg (· + 1) (DiR.len t)
theorem DiR.keys : ∀ {xs : List (Key × V)} {kvs : List (Int × D)}, DiR K as H xs kvs → xs.map (·.1) = (kvs.map (·.1)).map Sum.inl
  | _, _, .nil => rfl
  | _, _, .cons _ t => congrArg (_ :: ·) (DiR.keys t)
theorem DiR.app : ∀ {xs ys : List (Key × V)} {kvs ls : List (Int × D)}, DiR K as H xs kvs → DiR K as H ys ls → DiR K as H (xs ++ ys) (kvs ++ ls)
  | _, _, _, _, .nil, h => h
  | _, _, _, _, .cons r t, h => .cons r (DiR.app t h)
theorem DiR.any {i : Int} : ∀ {xs : List (Key × V)} {kvs : List (Int × D)}, DiR K as H xs kvs → (xs.any fun z => decide (z.1 = Sum.inl i)) = kvs.any fun z => decide (z.1 = i)
  | _, _, .nil => rfl
  | _, _, .cons (i := j) r t => by
    rw [List.any_cons, List.any_cons, DiR.any t]
    congr 1
    exact decide_eq_decide.2 ⟨fun e => Sum.inl.inj e, fun e => congrArg _ e⟩
theorem DiR.mapPut {i : Int} {v : V} {d : D} (r : Rel K as H v d) : ∀ {xs : List (Key × V)} {kvs : List (Int × D)}, DiR K as H xs kvs →
    DiR K as H (xs.map fun z => if z.1 = Sum.inl i then (z.1, v) else z) (kvs.map fun z => if z.1 = i then (z.1, d) else z)
  | _, _, .nil => .nil
  | _, _, .cons (i := j) q t => by
    rw [List.map_cons, List.map_cons]
    by_cases c : j = i
    · rw [if_pos c, if_pos (by rw [c])]
      exact .cons r (DiR.mapPut r t)
    · rw [if_neg c, if_neg (fun e => c (Sum.inl.inj e))]
      exact .cons q (DiR.mapPut r t)
theorem DiR.put {i : Int} {v : V} {d : D} {xs : List (Key × V)} {kvs : List (Int × D)} (h : DiR K as H xs kvs) (r : Rel K as H v d) : DiR K as H (putK xs (.inl i) v) (stD kvs i d) := by
  unfold putK stD
  rw [h.any]
  split
  · exact h.mapPut r
  · exact h.app (.cons r .nil)
theorem DiR.drop {i : Int} : ∀ {xs : List (Key × V)} {kvs : List (Int × D)}, DiR K as H xs kvs → DiR K as H (dropK xs (.inl i)) (dlD kvs i)
  | _, _, .nil => .nil
  | _, _, .cons (i := j) r t => by
    unfold dropK dlD
    rw [List.filter_cons, List.filter_cons]
    by_cases c : j = i
    · rw [if_neg (by simp [c]), if_neg (by simp [c])]
      exact DiR.drop t
    · rw [if_pos (by simpa using c), if_pos (by simpa using c)]
      exact .cons r (DiR.drop t)
end
/-! the words -/
def fDi : WE := fun _ h Q _ => Q (.loc h.length) (h ++ [.di []])
def dgI (Q : KD) : D → D → Ho → Prop := fun x y h => ∃ n kvs i z, x = .loc n ∧ h[n]? = some (.di kvs) ∧ y = .d (.int i) ∧ lk kvs i = some z ∧ Q z h
def fDgI (fo fi : WE) : WE := fun ρ h Q E => fo ρ h (fun x h1 => fi ρ h1 (fun y h2 => dgI Q x y h2) E) E
def dg2I (Q : KD) : D → D → D → Ho → Prop := fun x y z h => ∃ n kvs i, x = .loc n ∧ h[n]? = some (.di kvs) ∧ y = .d (.int i) ∧ Q ((lk kvs i).getD z) h
/-- d.get(k, x) -/
def fDg2I (fo fi fx : WE) : WE := fun ρ h Q E => fo ρ h (fun x h1 => (∃ n kvs, x = .loc n ∧ h1[n]? = some (.di kvs)) ∧ fi ρ h1 (fun y h2 => fx ρ h2 (fun z h3 => dg2I Q x y z h3) E) E) E
/-- d.pop(k, x) -/
def dpI (Q : KD) : D → D → D → Ho → Prop := fun x y z h => ∃ n kvs i, x = .loc n ∧ h[n]? = some (.di kvs) ∧ y = .d (.int i) ∧
  (∀ v, lk kvs i = some v → Q v (h.set n (.di (dlD kvs i)))) ∧ (lk kvs i = none → Q z h)
def fDp2I (fo fi fx : WE) : WE := fun ρ h Q E => fo ρ h (fun x h1 => (∃ n kvs, x = .loc n ∧ h1[n]? = some (.di kvs)) ∧ fi ρ h1 (fun y h2 => fx ρ h2 (fun z h3 => dpI Q x y z h3) E) E) E
/-- d[k] = v -/
def dsI (N : Ho → Prop) : D → D → D → Ho → Prop := fun v x y h => ∃ n kvs i, x = .loc n ∧ h[n]? = some (.di kvs) ∧ y = .d (.int i) ∧ kvs.length < sizeLine ∧ N (h.set n (.di (stD kvs i v)))
def sDsI (fe fo fi : WE) : WS := fun ρ h D => fe ρ h (fun v h1 => fo ρ h1 (fun x h2 => fi ρ h2 (fun y h3 => dsI (D.nx ρ) v x y h3) (exOf D ρ)) (exOf D ρ)) (exOf D ρ)
/-- del d[k] -/
def ddI (N : Ho → Prop) : D → D → Ho → Prop := fun x y h => ∃ n kvs i, x = .loc n ∧ h[n]? = some (.di kvs) ∧ y = .d (.int i) ∧ (lk kvs i).isSome = true ∧ N (h.set n (.di (dlD kvs i)))
def sDdI (fo fi : WE) : WS := fun ρ h D => fo ρ h (fun x h1 => fi ρ h1 (fun y h2 => ddI (D.nx ρ) x y h2) (exOf D ρ)) (exOf D ρ)
/-- sorted(d) -/
def rSortDi : WR := fun xs h Q => ∃ n kvs, xs = [.loc n] ∧ h[n]? = some (.di kvs) ∧ kvs.length < 64 ∧ ∀ ns' : List Int, ns'.Perm (kvs.map (·.1)) → ns'.Pairwise (· ≤ ·) → Q (.d (.list (ns'.map PyData.int))) h
section
variable {X : Cx} {W : WX} {o i e x : Expr} {fo fi fe fx : WE} {pos pos' apos cpos tpos : Pos}
theorem SE.di : SE X W (.Dict [] [] pos) fDi := ⟨_, pe_dnewK, fun σ H as ρ h Q E QV eR hR hq k kx => by
  intro p hp
  obtain ⟨r1, e⟩ := hR.placeO (ob := .dK []) (o := .di []) hp ⟨[], upd_same, .nil⟩
  exact k _ _ _ _ _ hq (Later.place _ hp) r1 (.loc e)⟩
theorem di_at {as : List Addr} {H : Hp} {h : Ho} {n : Nat} {a : Addr} {kvs : List (Int × D)} (hR : HeapR X.K as H h) (ha : as[n]? = some a) (en : h[n]? = some (.di kvs)) : ∃ xs, H a = some (.dK xs) ∧ DiR X.K as H xs kvs := by
  obtain ⟨b, hb, xs, o1, o2⟩ := hR.at en
  rw [ha] at hb
  cases hb
  exact ⟨xs, o1, o2⟩
theorem SE.dgI (hu : X.A.units + 64 < cLine) (ho : SE X W o fo) (hi : SE X W i fi) (hs : NoSl i := by intro _ _; rfl) : SE X W (.Subscript o i pos) (fDgI fo fi) := by
  obtain ⟨_, po, so⟩ := ho
  obtain ⟨_, pi, si⟩ := hi
  refine ⟨_, pe_dget (by omega) po pi hs, fun σ H as ρ h Q E QV eR hR hq k kx => ?_⟩
  refine so σ H as ρ h _ E _ eR hR hq (fun x h1 v as1 H1 hq1 l1 r1 rv => ?_) kx
  refine si σ H1 as1 ρ h1 _ E _ (eR.later l1) r1 hq1 (fun y h2 w as2 H2 hq2 l2 r2 rw' => ?_) (kx.later l1)
  obtain ⟨n, kvs, j, z, rfl, en, rfl, el, q⟩ := hq2
  cases rv.later l2 with | loc ha =>
  cases rw' with | d rw' =>
  cases rw'
  obtain ⟨xs, o1, o2⟩ := di_at r2 ha en
  have hv := o2.val (i := j)
  rw [el] at hv
  cases eo : valV xs (.inl j) with
  | none => rw [eo] at hv; exact hv.elim
  | some v =>
    rw [eo] at hv
    exact ⟨_, v, rfl, by rw [← eo]; exact DGet.k (k := .inl j) o1, ((k.later l1).later l2).q r2 q hv⟩
theorem SE.dg2I (hu : X.A.units + 64 < cLine) (ho : SE X W o fo) (hi : SE X W i fi) (hx : SE X W x fx) (m : M2 X o "get" apos i x cpos := by exact ⟨rfl, rfl, rfl, rfl⟩) : SE X W (.Call (.Attribute o "get" apos) [i, x] [] cpos) (fDg2I fo fi fx) := by
  obtain ⟨_, po, so⟩ := ho
  obtain ⟨_, pi, si⟩ := hi
  obtain ⟨_, px, sx⟩ := hx
  refine ⟨_, pe_dget2 (by omega) po pi px m, fun σ H as ρ h Q E QV eR hR hq k kx => ?_⟩
  refine so σ H as ρ h _ E _ eR hR hq (fun x h1 v as1 H1 hq1 l1 r1 rv => ?_) kx
  obtain ⟨⟨n0, kvs0, rfl, en0⟩, hq1⟩ := hq1
  have rv0 := rv
  cases rv with | loc ha0 =>
  obtain ⟨xs0, p1, p2⟩ := di_at r1 ha0 en0
  refine ⟨_, rfl, .inl ⟨_, .inl p1⟩, ?_⟩
  refine si σ H1 as1 ρ h1 _ E _ (eR.later l1) r1 hq1 (fun y h2 w as2 H2 hq2 l2 r2 rw' => ?_) (kx.later l1)
  refine sx σ H2 as2 ρ h2 _ E _ (eR.later (l1.trans l2)) r2 hq2 (fun z h3 u as3 H3 hq3 l3 r3 ru => ?_) (kx.later (l1.trans l2))
  obtain ⟨n, kvs, j, e1, en, rfl, q⟩ := hq3
  cases e1
  cases (rv0.later l2).later l3 with | loc ha =>
  cases rw' with | d rw' =>
  cases rw'
  obtain ⟨xs, o1, o2⟩ := di_at r3 ha en
  have hv := o2.val (i := j)
  refine ⟨_, DGet.k (k := .inl j) o1, ?_⟩
  have kk := ((k.later l1).later l2).later l3
  cases eo : valV xs (.inl j) with
  | none =>
    rw [eo] at hv
    cases el : lk kvs j with
    | none => rw [el] at q; exact kk.q r3 q ru
    | some d => rw [el] at hv; exact hv.elim
  | some v =>
    rw [eo] at hv
    cases el : lk kvs j with
    | none => rw [el] at hv; exact hv.elim
    | some d => rw [el] at q hv; exact kk.q r3 q hv
theorem SE.dp2I (ho : SE X W o fo) (hi : SE X W i fi) (hx : SE X W x fx) (m : M2 X o "pop" apos i x cpos := by exact ⟨rfl, rfl, rfl, rfl⟩) : SE X W (.Call (.Attribute o "pop" apos) [i, x] [] cpos) (fDp2I fo fi fx) := by
  obtain ⟨_, po, so⟩ := ho
  obtain ⟨_, pi, si⟩ := hi
  obtain ⟨_, px, sx⟩ := hx
  refine ⟨_, pe_dpop2 po pi px m, fun σ H as ρ h Q E QV eR hR hq k kx => ?_⟩
  refine so σ H as ρ h _ E _ eR hR hq (fun x h1 v as1 H1 hq1 l1 r1 rv => ?_) kx
  obtain ⟨⟨n0, kvs0, rfl, en0⟩, hq1⟩ := hq1
  have rv0 := rv
  cases rv with | loc ha0 =>
  obtain ⟨xs0, p1, p2⟩ := di_at r1 ha0 en0
  refine ⟨_, rfl, .inl ⟨_, .inl p1⟩, ?_⟩
  refine si σ H1 as1 ρ h1 _ E _ (eR.later l1) r1 hq1 (fun y h2 w as2 H2 hq2 l2 r2 rw' => ?_) (kx.later l1)
  refine sx σ H2 as2 ρ h2 _ E _ (eR.later (l1.trans l2)) r2 hq2 (fun z h3 u as3 H3 hq3 l3 r3 ru => ?_) (kx.later (l1.trans l2))
  obtain ⟨n, kvs, j, e1, en, rfl, qs, qn⟩ := hq3
  cases e1
  cases (rv0.later l2).later l3 with | loc ha =>
  cases rw' with | d rw' =>
  cases rw'
  obtain ⟨xs, o1, o2⟩ := di_at r3 ha en
  have hv := o2.val (i := j)
  have kk := ((k.later l1).later l2).later l3
  refine ⟨xs, .inl j, o1, rfl, fun v ev => ?_, fun ev => ?_⟩
  · rw [ev] at hv
    cases el : lk kvs j with
    | none => rw [el] at hv; exact hv.elim
    | some d =>
      rw [el] at hv
      have lw : Later as3 H3 as3 (upd H3 _ (.dK (dropK xs (.inl j)))) := Later.write _ (List.mem_of_getElem? ha)
      exact kk _ _ _ _ _ (qs d el) lw (r3.writeO ha ⟨_, upd_same, o2.drop.imp fun z _ v r => r.later lw⟩) (hv.later lw)
  · rw [ev] at hv
    cases el : lk kvs j with
    | none => exact kk.q r3 (qn el) ru
    | some d => rw [el] at hv; exact hv.elim
theorem SS.dsI (hu : X.A.units + 64 < cLine) (he : SE X W e fe) (ho : SE X W o fo) (hi : SE X W i fi) (hs : swapsWith e (some (.Subscript o i pos')) pos.line X.env = pure false := by rfl) : SS X W (.Assign [.Subscript o i pos'] e pos) (sDsI fe fo fi) := by
  obtain ⟨_, pe, se⟩ := he
  obtain ⟨_, po, so⟩ := ho
  obtain ⟨_, pi, si⟩ := hi
  refine ⟨_, ps_dput (by omega) po pi pe hs, fun σ H as ρ h D D' eR hR hq k => ?_⟩
  refine se σ H as ρ h _ _ _ eR hR hq (fun y h1 v as1 H1 hq1 l1 r1 rv => ?_) (k.x eR)
  refine so σ H1 as1 ρ h1 _ _ _ (eR.later l1) r1 hq1 (fun x h2 u as2 H2 hq2 l2 r2 ru => ?_) (k.kx eR l1)
  have l12 := l1.trans l2
  refine si σ H2 as2 ρ h2 _ _ _ (eR.later l12) r2 hq2 (fun z h3 w as3 H3 hq3 l3 r3 rw' => ?_) (k.kx eR l12)
  have l13 := l12.trans l3
  obtain ⟨n, kvs, j, rfl, en, rfl, hl, q⟩ := hq3
  cases ru.later l3 with | loc ha =>
  cases rw' with | d rw' =>
  cases rw'
  obtain ⟨xs, o1, o2⟩ := di_at r3 ha en
  refine ⟨_, _, rfl, DPut.k (k := .inl j) o1 (by rw [o2.len]; exact hl), ?_⟩
  have lw : Later as3 H3 as3 (upd H3 _ (.dK (putK xs (.inl j) v))) := Later.write _ (List.mem_of_getElem? ha)
  exact k.nx _ _ _ _ _ q (l13.trans lw) (r3.writeO ha ⟨_, upd_same, (o2.put ((rv.later l2).later l3)).imp fun z _ v r => r.later lw⟩) (eR.later (l13.trans lw))
theorem SS.ddI (ho : SE X W o fo) (hi : SE X W i fi) : SS X W (.Delete [.Subscript o i tpos] pos) (sDdI fo fi) := by
  obtain ⟨_, po, so⟩ := ho
  obtain ⟨_, pi, si⟩ := hi
  refine ⟨_, ps_ddel po pi, fun σ H as ρ h D D' eR hR hq k => ?_⟩
  refine so σ H as ρ h _ _ _ eR hR hq (fun x h1 u as1 H1 hq1 l1 r1 ru => ?_) (k.x eR)
  refine si σ H1 as1 ρ h1 _ _ _ (eR.later l1) r1 hq1 (fun z h2 w as2 H2 hq2 l2 r2 rw' => ?_) (k.kx eR l1)
  have l12 := l1.trans l2
  obtain ⟨n, kvs, j, rfl, en, rfl, hl, q⟩ := hq2
  cases ru.later l2 with | loc ha =>
  cases rw' with | d rw' =>
  cases rw'
  obtain ⟨xs, o1, o2⟩ := di_at r2 ha en
  have hv := o2.val (i := j)
  refine ⟨_, xs, .inl j, rfl, o1, rfl, ?_, ?_⟩
  · cases el : lk kvs j with
    | none => rw [el] at hl; cases hl
    | some d =>
      rw [el] at hv
      cases eo : valV xs (.inl j) with
      | none => rw [eo] at hv; exact hv.elim
      | some v => rfl
  · have lw : Later as2 H2 as2 (upd H2 _ (.dK (dropK xs (.inl j)))) := Later.write _ (List.mem_of_getElem? ha)
    exact k.nx _ _ _ _ _ q (l12.trans lw) (r2.writeO ha ⟨_, upd_same, o2.drop.imp fun z _ v r => r.later lw⟩) (eR.later (l12.trans lw))
theorem cp_sortDi : CpA X (fun xs H Q => ∃ (a : Addr) (kvs : List (Key × V)) (ks : List Int), xs = [.ref a] ∧ Rd H a (.dK kvs) ∧ kvs.map (·.1) = ks.map Sum.inl ∧ ks.length < 64 ∧
    ∀ (ys : List Int) (p : Addr), ys.Perm ks → ys.Pairwise (· ≤ ·) → H p = none → Q (.ref p) (upd H p (.lst (ys.map V.int)))) rSortDi := by
  rintro xs h Q vs as H QV rv hR ⟨n, kvs, rfl, en, hl, q⟩ k
  obtain ⟨v, rfl, r⟩ := relAll1 rv
  cases r with | loc ha =>
  obtain ⟨ys, o1, o2⟩ := di_at hR ha en
  refine ⟨_, ys, kvs.map (·.1), rfl, .inl o1, o2.keys, by rw [List.length_map]; exact hl, fun ns' p h1 h2 hp => ?_⟩
  exact k.newLst hR (q ns' h1 h2) (dvs_int ns') hp
theorem SE.sortDi {a : Expr} {ga : WA} {p : Pos} (hc : X.calm = true) (hg : Gl X "sorted") (hm : X.mg "sorted" = none) (ha : SA X W [a] ga) (he : starEach [a] X.env = (false, eval a X.env) :: starEach [] X.env := by rfl) : SE X W (.Call (.Name "sorted" p) [a] [] pos) (fCall rSortDi ga) := .callB (call_sortedDI hc) cp_sortDi hg hm (by decide +kernel) ha (he := he) (hpl := rfl)
end
end V2
set_option Elab.async false
set_option linter.all false
set_option maxRecDepth 100000
set_option maxHeartbeats 4000000
/-! dicts by tuples of ints: look-ups, stores, sorted -/
namespace V2
open PySem PySem.Spec PyProof.Rows L2
open PySem.W (Frag EachIs dataLe)
end V2
set_option Elab.async false
set_option linter.all false
set_option maxRecDepth 100000
set_option maxHeartbeats 4000000
/-! dicts by tuples of ints, as words -/
namespace V2
open PySem PySem.Spec PyProof.Rows L2
open PySem.W (Frag EachIs dataLe)
section
variable {K : Frag} {as : List Addr} {H : Hp}
theorem at_cons {x : List Int × Addr × Value} {xs : List (List Int × Addr × Value)} {k : List Int} : atKey (x :: xs) k = if x.1 = k then some x.2 else atKey xs k := by
  unfold atKey
  rw [List.find?_cons]
  by_cases c : x.1 = k
  · rw [if_pos c, decide_eq_true c]; rfl
  · rw [if_neg c, decide_eq_false c]
/-- what a look-up gives, on both sides -/
def RT (K : Frag) (as : List Addr) (H : Hp) : Option (Addr × Value) → Option D → Prop
  | some p, some d => ∃ v, RelV v p.2 ∧ Rel K as H v d
  | none, none => True
  | _, _ => False
theorem DtR.val {k : List Int} : ∀ {xs : List (List Int × Addr × Value)} {kvs : List (List Int × D)}, DtR K as H xs kvs → RT K as H (atKey xs k) (lk kvs k)
  | _, _, .nil => trivial
  | _, _, .cons (k := j) _ r1 r2 t => by
    rw [lk_cons, at_cons]
    by_cases c : j = k
    · rw [if_pos c, if_pos c]
      exact ⟨_, r1, r2⟩
    · rw [if_neg c, if_neg c]
      exact DtR.val t
theorem DtR.len : ∀ {xs : List (List Int × Addr × Value)} {kvs : List (List Int × D)}, DtR K as H xs kvs → xs.length = kvs.length
  | _, _, .nil => rfl
  | _, _, .cons _ _ _ t => congrArg (· + 1) (DtR.len t)
theorem DtR.keys : ∀ {xs : List (List Int × Addr × Value)} {kvs : List (List Int × D)}, DtR K as H xs kvs → xs.map (·.1) = kvs.map (·.1)
  | _, _, .nil => rfl
  | _, _, .cons _ _ _ t => congrArg (_ :: ·) (DtR.keys t)
theorem DtR.app : ∀ {xs ys : List (List Int × Addr × Value)} {kvs ls : List (List Int × D)}, DtR K as H xs kvs → DtR K as H ys ls → DtR K as H (xs ++ ys) (kvs ++ ls)
  | _, _, _, _, .nil, h => h
  | _, _, _, _, .cons a b c t, h => .cons a b c (DtR.app t h)
theorem DtR.mapPut {k : List Int} {w : Value} {v : V} {d : D} (r1 : RelV v w) (r2 : Rel K as H v d) : ∀ {xs : List (List Int × Addr × Value)} {kvs : List (List Int × D)}, DtR K as H xs kvs →
    DtR K as H (xs.map (putAt k w)) (kvs.map fun z => if z.1 = k then (z.1, d) else z)
  | _, _, .nil => .nil
  | _, _, .cons (k := j) a b c t => by
    rw [List.map_cons, List.map_cons]
    unfold putAt
    by_cases e : j = k
    · rw [if_pos e, if_pos e]
      exact .cons a r1 r2 (DtR.mapPut r1 r2 t)
    · rw [if_neg e, if_neg e]
      exact .cons a b c (DtR.mapPut r1 r2 t)
theorem DtR.put {k : List Int} {b : Addr} {w : Value} {v : V} {d : D} {xs : List (List Int × Addr × Value)} {kvs : List (List Int × D)} (h : DtR K as H xs kvs) (hb : TupR K as H b (k.map V.int)) (r1 : RelV v w) (r2 : Rel K as H v d) : DtR K as H (storedH xs k b w) (stD kvs k d) := by
  unfold storedH stD
  have e : (atKey xs k).isSome = kvs.any fun z => decide (z.1 = k) := by
    have := h.val (k := k)
    rw [lk_any]
    cases e1 : atKey xs k <;> cases e2 : lk kvs k <;> rw [e1, e2] at this
    · rfl
    · exact this.elim
    · exact this.elim
    · rfl
  rw [e]
  split
  · exact h.mapPut r1 r2
  · exact h.app (.cons hb r1 r2 .nil)
end
def fDt : WE := fun _ h Q _ => Q (.loc h.length) (h ++ [.dt []])
def dgT (Q : KD) : D → D → Ho → Prop := fun x y h => ∃ n kvs p k z, x = .loc n ∧ h[n]? = some (.dt kvs) ∧ y = .d p ∧ keyOf p = some k ∧ lk kvs k = some z ∧ Q z h
def fDgT (fo fi : WE) : WE := fun ρ h Q E => fo ρ h (fun x h1 => fi ρ h1 (fun y h2 => dgT Q x y h2) E) E
def dg2T (Q : KD) : D → D → D → Ho → Prop := fun x y z h => ∃ n kvs p k, x = .loc n ∧ h[n]? = some (.dt kvs) ∧ y = .d p ∧ keyOf p = some k ∧ Q ((lk kvs k).getD z) h
def fDg2T (fo fi fx : WE) : WE := fun ρ h Q E => fo ρ h (fun x h1 => (∃ n kvs, x = .loc n ∧ h1[n]? = some (.dt kvs)) ∧ fi ρ h1 (fun y h2 => fx ρ h2 (fun z h3 => dg2T Q x y z h3) E) E) E
def dsT (N : Ho → Prop) : D → D → D → Ho → Prop := fun v x y h => ∃ n kvs p k, x = .loc n ∧ h[n]? = some (.dt kvs) ∧ y = .d p ∧ keyOf p = some k ∧ kvs.length < sizeLine ∧ N (h.set n (.dt (stD kvs k v)))
def sDsT (fe fo fi : WE) : WS := fun ρ h D => fe ρ h (fun v h1 => fo ρ h1 (fun x h2 => fi ρ h2 (fun y h3 => dsT (D.nx ρ) v x y h3) (exOf D ρ)) (exOf D ρ)) (exOf D ρ)
section
variable {X : Cx} {W : WX} {o i e x : Expr} {fo fi fe fx : WE} {pos pos' apos cpos tpos : Pos}
theorem SE.dt : SE X W (.Dict [] [] pos) fDt := ⟨_, pe_dnewKd, fun σ H as ρ h Q E QV eR hR hq k kx => by
  intro p hp hs
  obtain ⟨r1, e⟩ := hR.placeO (ob := kdO p []) (o := .dt []) hp ⟨hs, [], upd_same, .nil⟩
  exact k _ _ _ _ _ hq (Later.place _ hp) r1 (.loc e)⟩
end
end V2
set_option Elab.async false
set_option linter.all false
set_option maxRecDepth 100000
set_option maxHeartbeats 4000000
/-! dict comprehensions whose keys are ints -/
namespace V2
open PySem PySem.Spec PyProof.Rows L2
open PySem.W (Frag)
/-- a turn's pair is stored -/
def dcSt (st : Ho → Prop) (n : Nat) (N : Ho → Prop) : D → D → Ho → Prop := fun y z h => ∃ kvs i, y = .d (.int i) ∧ h[n]? = some (.di kvs) ∧ kvs.length < sizeLine ∧ st (h.set n (.di (stD kvs i z))) ∧ N (h.set n (.di (stD kvs i z)))
def dcGo (g : WG) (tt : WT) (tk tv : WE) (st : Ho → Prop) (n : Nat) (ρ : En) (Q : Ho → Prop) : List D → Ho → Prop
  | [], h => Q h
  | x :: xs, h => match g x h ρ with
    | some ρ1 => tt ρ1 h (fun b h1 => if b = true then tk ρ1 h1 (fun y h2 => tv ρ1 h2 (fun z h3 => dcSt st n (dcGo g tt tk tv st n ρ Q xs) y z h3) noX) noX else st h1 ∧ dcGo g tt tk tv st n ρ Q xs h1) noX
    | none => False
def fDc (wi : WI) (g : WG) (tt : WT) (tk tv : WE) (own : List Nat) : WE := fun ρ h Q E => wi ρ h (fun xs st h1 =>
  st (h1 ++ [.di []]) ∧ dcGo g tt tk tv st h1.length (wipeD ρ own) (fun h2 => Q (.loc h1.length) h2) xs (h1 ++ [.di []])) E
section
variable {X : Cx} {W : WX} {kx vx tg it : Expr} {ifs : List Expr} {scope : Scope} {own : List (Str × Nat)} {pos : Pos} {wi : WI} {g : WG} {sl : List Nat} {tt : WT} {tk tv : WE}
theorem dc_walk {K : Frag} {mg : Str → Option Value} {as1 : List Addr} {H1 : Hp} {h1 : Ho} {σ : L2.St} {ρ : En} {xs : List D} {st : Ho → Prop} {J : It} {Qf : Ho → Prop} {QV : VK} {ow : List Nat} (hsl : ∀ i ∈ sl, i ∈ ow)
    (r1 : HeapR K as1 H1 h1) (eR : EnvR K as1 H1 ρ σ) (wk : Walks K as1 H1 xs st J) (st1 : st (h1 ++ [.di []])) (go : dcGo g tt tk tv st h1.length (wipeD ρ ow) Qf xs (h1 ++ [.di []]))
    (kq : ∀ p as2 H2 h2, H1 p = none → Qf h2 → Later as1 H1 as2 H2 → HeapR K as2 H2 h2 → as2[h1.length]? = some p → QV (.ref p) H2) :
    ∀ p, H1 p = none → ∃ Wm : Nat → Nat → Hp → Prop, (∃ m, Wm 0 m (upd H1 p (.dK []))) ∧ ∀ i m H, Wm i m H →
      (J.stop i H ∧ QV (.ref p) H) ∨ (J.go i H ∧ ∃ Nx : Hp → Prop, (∀ H', Nx H' → ∃ m', m' < m ∧ Wm (i + 1) m' H') ∧ ∀ x H', J.yld i H x H' → cG K g sl x (L2.wipe σ ow) H' fun σ2 H2 => L2.wipe σ2 ow = L2.wipe σ ow ∧ cT K mg WF0 tt σ2 H2 fun b H3 =>
        if b = true then cE K mg WF0 tk σ2 H3 fun y H4 => cE K mg WF0 tv σ2 H4 fun z H5 => ∃ kvs k, y = kV k ∧ H5 p = some (.dK kvs) ∧ kvs.length < sizeLine ∧ Nx (upd H5 p (.dK (putK kvs k z))) else Nx H3) := by
  intro p hp
  obtain ⟨rp, ep⟩ := r1.placeO (ob := .dK []) (o := .di []) hp ⟨[], upd_same, .nil⟩
  have lp : Later as1 H1 (as1 ++ [p]) (upd H1 p (.dK [])) := Later.place _ hp
  refine ⟨fun i m H => m = xs.length - i ∧ i ≤ xs.length ∧ ∃ as2 h2, Later as1 H1 as2 H ∧ as2[h1.length]? = some p ∧ HeapR K as2 H h2 ∧ st h2 ∧ dcGo g tt tk tv st h1.length (wipeD ρ ow) Qf (xs.drop i) h2,
    ⟨xs.length, by simp, Nat.zero_le _, _, _, lp, ep, rp, st1, go⟩, ?_⟩
  rintro i m H ⟨rfl, hi, as2, h2, l2, e2, r2, st2, go2⟩
  obtain ⟨w1, w2, w3⟩ := wk i as2 H h2 l2 r2 st2
  by_cases hlt : i < xs.length
  · refine .inr ⟨w1 hlt, fun H' => i + 1 ≤ xs.length ∧ ∃ as3 h3, Later as1 H1 as3 H' ∧ as3[h1.length]? = some p ∧ HeapR K as3 H' h3 ∧ st h3 ∧ dcGo g tt tk tv st h1.length (wipeD ρ ow) Qf (xs.drop (i + 1)) h3,
      fun H' z => ⟨xs.length - (i + 1), by omega, rfl, z.1, z.2⟩, fun v H' y => ?_⟩
    obtain ⟨l3, r3, rv⟩ := w3 v H' y xs[i] (List.getElem?_eq_getElem hlt)
    rw [List.drop_eq_getElem_cons hlt] at go2
    unfold dcGo at go2
    split at go2
    · rename_i ρ1 e1
      have l13 := l2.trans l3
      refine ⟨as2, _, _, h2, ρ1, (eR.later l13).wipe ow, r3, rv, e1, fun σ2 eR2 hw => ⟨?_, ?_⟩⟩
      · rw [hw ow hsl, wipe_wipe]
      · refine ⟨as2, ρ1, h2, _, _, eR2, r3, go2, fun b h3 as3 H3 q3 l4 r4 => ?_, fun _ _ _ _ _ _ z => z.elim⟩
        cases b with
        | false =>
          refine iteF ⟨hlt, as3, h3, l13.trans l4, l4.at e2, r4, ?_⟩
          exact q3
        | true =>
          refine iteT ⟨as3, ρ1, h3, _, _, eR2.later l4, r4, q3, fun y h4 w as4 H4 q4 l5 r5 rw' => ?_, fun _ _ _ _ _ _ z => z.elim⟩
          refine ⟨as4, ρ1, h4, _, _, (eR2.later l4).later l5, r5, q4, fun z h5 u as5 H5 q5 l6 r6 ru => ?_, fun _ _ _ _ _ _ z => z.elim⟩
          obtain ⟨kvs, j, rfl, ea, hl, qs, qn⟩ := q5
          cases rw' with | d rw' =>
          cases rw'
          have e5 := l6.at (l5.at (l4.at e2))
          obtain ⟨b, hb, vs, o1, o2⟩ := r6.at ea
          rw [e5] at hb
          cases hb
          have lw : Later as5 H5 as5 (upd H5 p (.dK (putK vs (.inl j) u))) := Later.write _ (List.mem_of_getElem? e5)
          exact ⟨vs, .inl j, rfl, o1, by rw [o2.len]; exact hl, hlt, as5, _, (((l13.trans l4).trans l5).trans l6).trans lw, e5, r6.writeO (o := .di (stD kvs j z)) e5 ⟨_, upd_same, (o2.put ru).imp fun z _ v r => r.later lw⟩, qs, qn⟩
    · exact go2.elim
  · have e : i = xs.length := by omega
    subst e
    rw [List.drop_length] at go2
    unfold dcGo at go2
    exact .inl ⟨w2 rfl, kq p as2 H h2 hp go2 l2 r2 e2⟩
end
end V2
set_option Elab.async false
set_option linter.all false
set_option maxRecDepth 100000
set_option maxHeartbeats 4000000
/-! list comprehensions of two clauses, the new list as data -/
namespace V2
open PySem PySem.Spec PyProof.Rows L2
open PySem.W (Frag)
def cI (K : Frag) (mg : Str → Option Value) (W : WX) (f : WI) : TI := fun σ H R => ∃ as ρ h Q E, EnvR K as H ρ σ ∧ HeapR K as H h ∧ f ρ h Q E ∧
  (∀ xs st h1 as1 H1 (J : It), Q xs st h1 → st h1 → Later as H as1 H1 → HeapR K as1 H1 h1 → Walks K as1 H1 xs st J → R J H1) ∧ (∀ x h' cls dd as1 H', E x h' → Later as H as1 H' → HeapR K as1 H' h' → ExR K mg as1 H' cls dd x → W cls dd σ H')
theorem SI.c {X : Cx} {W : WX} {tg it : Expr} {f : WI} (h : SI X W tg it f) : PI X tg it (cI X.K X.mg W f) := by
  obtain ⟨t, pt, st⟩ := h
  exact ⟨fun pins s σ H R I ⟨as, ρ, ho, Q0, E0, h1, h2, h3, h4, h5⟩ => pt.run pins s σ H R I (st σ H as ρ ho Q0 E0 R h1 h2 h3 h4 h5)⟩
/-- the inner turns -/
def lc2In (g : WG) (tt : WT) (te : WE) (st : Ho → Prop) (n : Nat) (ρ : En) (N : Ho → Prop) : List D → Ho → Prop
  | [], h => N h
  | x :: xs, h => match g x h ρ with
    | some ρ1 => tt ρ1 h (fun b h1 => if b = true then te ρ1 h1 (fun y h2 => match h2[n]? with
        | some (.lst acc) => acc.length < sizeLine ∧ st (h2.set n (.lst (acc ++ [y]))) ∧ lc2In g tt te st n ρ N xs (h2.set n (.lst (acc ++ [y])))
        | _ => False) noX else st h1 ∧ lc2In g tt te st n ρ N xs h1) noX
    | none => False
def lc2Go (g : WG) (tt : WT) (wi1 : WI) (g1 : WG) (tt1 : WT) (te : WE) (vs1 : List Nat) (st : Ho → Prop) (n : Nat) (ρ : En) (Q : Ho → Prop) : List D → Ho → Prop
  | [], h => Q h
  | x :: xs, h => match g x h ρ with
    | some ρ1 => tt ρ1 h (fun b h1 => if b = true then wi1 ρ1 h1 (fun ys st1 h2 => lc2In g1 tt1 te st1 n (wipeD ρ1 vs1) (fun h3 => st h3 ∧ lc2Go g tt wi1 g1 tt1 te vs1 st n ρ Q xs h3) ys h2) noX
        else st h1 ∧ lc2Go g tt wi1 g1 tt1 te vs1 st n ρ Q xs h1) noX
    | none => False
def fLc2V (wi : WI) (g : WG) (tt : WT) (wi1 : WI) (g1 : WG) (tt1 : WT) (te : WE) (own vs1 : List Nat) : WE := fun ρ h Q E => wi ρ h (fun xs st h1 =>
  st (h1 ++ [.lst []]) ∧ lc2Go g tt wi1 g1 tt1 te vs1 st h1.length (wipeD ρ own) (fun h2 => ∃ hh acc ps, h2 = hh ++ [.lst acc] ∧ hh.length = h1.length ∧ noRef h1.length hh = true ∧ allD acc = some ps ∧ Q (.d (.list ps)) hh) xs (h1 ++ [.lst []])) E
section
variable {X : Cx} {W : WX} {elt tg it tg1 it1 : Expr} {ifs ifs1 : List Expr} {scope : Scope} {own : List (Str × Nat)} {pos : Pos} {wi wi1 : WI} {g g1 : WG} {sl sl1 : List Nat} {tt tt1 : WT} {te : WE} {vs1 : List Nat}
theorem lc2_walk {K : Frag} {mg : Str → Option Value} {as1 : List Addr} {H1 : Hp} {h1 : Ho} {σ : L2.St} {ρ : En} {xs : List D} {st : Ho → Prop} {J : It} {Qf : Ho → Prop} {QV : VK} {ow : List Nat} (hsl : ∀ i ∈ sl, i ∈ ow) (hsl1 : ∀ i ∈ sl1, i ∈ vs1)
    (r1 : HeapR K as1 H1 h1) (eR : EnvR K as1 H1 ρ σ) (wk : Walks K as1 H1 xs st J) (st1 : st (h1 ++ [.lst []])) (go : lc2Go g tt wi1 g1 tt1 te vs1 st h1.length (wipeD ρ ow) Qf xs (h1 ++ [.lst []]))
    (kq : ∀ p as2 H2 h2, H1 p = none → Qf h2 → Later as1 H1 as2 H2 → HeapR K as2 H2 h2 → as2[h1.length]? = some p → QV (.ref p) H2) :
    ∀ p, H1 p = none → ∃ Wm : Nat → Nat → Hp → Prop, (∃ m, Wm 0 m (upd H1 p (.lst []))) ∧ ∀ i m H, Wm i m H →
      (J.stop i H ∧ QV (.ref p) H) ∨ (J.go i H ∧ ∃ Nx : Hp → Prop, (∀ H', Nx H' → ∃ m', m' < m ∧ Wm (i + 1) m' H') ∧ ∀ x H', J.yld i H x H' → cG K g sl x (L2.wipe σ ow) H' fun σ2 H2 => L2.wipe σ2 ow = L2.wipe σ ow ∧ cT K mg WF0 tt σ2 H2 fun b H3 =>
        if b = true then cI K mg WF0 wi1 σ2 H3 fun J1 H4 => ∃ W1 : Nat → Nat → Hp → Prop, (∃ m, W1 0 m H4) ∧ ∀ j k H, W1 j k H →
          (J1.stop j H ∧ Nx H) ∨ (J1.go j H ∧ ∃ Nx1 : Hp → Prop, (∀ H', Nx1 H' → ∃ k', k' < k ∧ W1 (j + 1) k' H') ∧ ∀ x H', J1.yld j H x H' → cG K g1 sl1 x (L2.wipe σ2 vs1) H' fun σ3 H5 => L2.wipe σ3 vs1 = L2.wipe σ2 vs1 ∧ cT K mg WF0 tt1 σ3 H5 fun b H6 =>
            if b = true then cE K mg WF0 te σ3 H6 fun y H7 => ∃ acc, H7 p = some (.lst acc) ∧ acc.length < sizeLine ∧ Nx1 (upd H7 p (.lst (acc ++ [y]))) else Nx1 H6)
        else Nx H3) := by
  intro p hp
  obtain ⟨rp, ep⟩ := r1.place (vs := []) (xs := []) hp .nil
  have lp : Later as1 H1 (as1 ++ [p]) (upd H1 p (.lst [])) := Later.place _ hp
  refine ⟨fun i m H => m = xs.length - i ∧ i ≤ xs.length ∧ ∃ as2 h2, Later as1 H1 as2 H ∧ as2[h1.length]? = some p ∧ HeapR K as2 H h2 ∧ st h2 ∧ lc2Go g tt wi1 g1 tt1 te vs1 st h1.length (wipeD ρ ow) Qf (xs.drop i) h2,
    ⟨xs.length, by simp, Nat.zero_le _, _, _, lp, ep, rp, st1, go⟩, ?_⟩
  rintro i m H ⟨rfl, hi, as2, h2, l2, e2, r2, st2, go2⟩
  obtain ⟨w1, w2, w3⟩ := wk i as2 H h2 l2 r2 st2
  by_cases hlt : i < xs.length
  · refine .inr ⟨w1 hlt, fun H' => i + 1 ≤ xs.length ∧ ∃ as3 h3, Later as1 H1 as3 H' ∧ as3[h1.length]? = some p ∧ HeapR K as3 H' h3 ∧ st h3 ∧ lc2Go g tt wi1 g1 tt1 te vs1 st h1.length (wipeD ρ ow) Qf (xs.drop (i + 1)) h3,
      fun H' z => ⟨xs.length - (i + 1), by omega, rfl, z.1, z.2⟩, fun v H' y => ?_⟩
    obtain ⟨l3, r3, rv⟩ := w3 v H' y xs[i] (List.getElem?_eq_getElem hlt)
    rw [List.drop_eq_getElem_cons hlt] at go2
    unfold lc2Go at go2
    split at go2
    · rename_i ρ1 e1
      have l13 := l2.trans l3
      refine ⟨as2, _, _, h2, ρ1, (eR.later l13).wipe ow, r3, rv, e1, fun σ2 eR2 hw => ⟨?_, ?_⟩⟩
      · rw [hw ow hsl, wipe_wipe]
      · refine ⟨as2, ρ1, h2, _, _, eR2, r3, go2, fun b h3 as3 H3 q3 l4 r4 => ?_, fun _ _ _ _ _ _ z => z.elim⟩
        cases b with
        | false =>
          refine iteF ⟨hlt, as3, h3, l13.trans l4, l4.at e2, r4, ?_⟩
          exact q3
        | true =>
          refine iteT ⟨as3, ρ1, h3, _, _, eR2.later l4, r4, q3, fun ys stI h4 as4 H4 J1 q4 sI l5 r5 wkI => ?_, fun _ _ _ _ _ _ z => z.elim⟩
          have l15 := (l13.trans l4).trans l5
          refine ⟨fun j k H => k = ys.length - j ∧ j ≤ ys.length ∧ ∃ as5 h5, Later as4 H4 as5 H ∧ HeapR K as5 H h5 ∧ stI h5 ∧ lc2In g1 tt1 te stI h1.length (wipeD ρ1 vs1) (fun h3 => st h3 ∧ lc2Go g tt wi1 g1 tt1 te vs1 st h1.length (wipeD ρ ow) Qf (xs.drop (i + 1)) h3) (ys.drop j) h5,
            ⟨ys.length, by simp, Nat.zero_le _, as4, h4, Later.refl _ _, r5, sI, q4⟩, ?_⟩
          rintro j k H5 ⟨rfl, hj, as5, h5, m2, n2, s2, in2⟩
          obtain ⟨v1, v2, v3⟩ := wkI j as5 H5 h5 m2 n2 s2
          by_cases hlj : j < ys.length
          · refine .inr ⟨v1 hlj, fun H' => j + 1 ≤ ys.length ∧ ∃ as6 h6, Later as4 H4 as6 H' ∧ HeapR K as6 H' h6 ∧ stI h6 ∧ lc2In g1 tt1 te stI h1.length (wipeD ρ1 vs1) (fun h3 => st h3 ∧ lc2Go g tt wi1 g1 tt1 te vs1 st h1.length (wipeD ρ ow) Qf (xs.drop (i + 1)) h3) (ys.drop (j + 1)) h6,
              fun H' z => ⟨ys.length - (j + 1), by omega, rfl, z.1, z.2⟩, fun v H' y => ?_⟩
            obtain ⟨m3, n3, rv3⟩ := v3 v H' y ys[j] (List.getElem?_eq_getElem hlj)
            rw [List.drop_eq_getElem_cons hlj] at in2
            unfold lc2In at in2
            split at in2
            · rename_i ρ2 e3
              have m23 := m2.trans m3
              refine ⟨as5, _, _, h5, ρ2, (((eR2.later l4).later l5).later m23).wipe vs1, n3, rv3, e3, fun σ3 eR3 hw3 => ⟨?_, ?_⟩⟩
              · rw [hw3 vs1 hsl1, wipe_wipe]
              · refine ⟨as5, ρ2, h5, _, _, eR3, n3, in2, fun b h6 as6 H6 q6 l6 r6 => ?_, fun _ _ _ _ _ _ z => z.elim⟩
                cases b with
                | false =>
                  refine iteF ⟨hlj, as6, h6, m23.trans l6, r6, ?_⟩
                  exact q6
                | true =>
                  refine iteT ⟨as6, ρ2, h6, _, _, eR3.later l6, r6, q6, fun y h7 w as7 H7 q7 l7 r7 rw' => ?_, fun _ _ _ _ _ _ z => z.elim⟩
                  split at q7
                  · rename_i acc ea
                    have e7 := l7.at (l6.at (m23.at (l5.at (l4.at e2))))
                    obtain ⟨b, hb, vs, o1, o2⟩ := r7.at ea
                    rw [e7] at hb
                    cases hb
                    have lw : Later as7 H7 as7 (upd H7 p (.lst (vs ++ [w]))) := Later.write _ (List.mem_of_getElem? e7)
                    exact ⟨vs, o1, by rw [o2.length]; exact q7.1, hlj, as7, _, ((m23.trans l6).trans l7).trans lw, r7.write e7 (o2.append (.cons rw' .nil)), q7.2.1, q7.2.2⟩
                  · exact q7.elim
            · exact in2.elim
          · have e : j = ys.length := by omega
            subst e
            rw [List.drop_length] at in2
            unfold lc2In at in2
            exact .inl ⟨v2 rfl, hlt, as5, h5, l15.trans m2, m2.at (l5.at (l4.at e2)), n2, in2.1, in2.2⟩
    · exact go2.elim
  · have e : i = xs.length := by omega
    subst e
    rw [List.drop_length] at go2
    unfold lc2Go at go2
    exact .inl ⟨w2 rfl, kq p as2 H h2 hp go2 l2 r2 e2⟩
/-- the last place of the store as a list that is data -/
theorem pop_last {K : Frag} {as1 as2 : List Addr} {H1 H2 : Hp} {h1 hh : Ho} {acc : List D} {ps : List PyData} {p : Addr} (r1 : HeapR K as1 H1 h1) (l2 : Later as1 H1 as2 H2) (r2 : HeapR K as2 H2 (hh ++ [.lst acc])) (hlen : hh.length = h1.length) (hno : noRef h1.length hh = true) (e2 : as2[h1.length]? = some p) (hps : allD acc = some ps) :
    Later as1 H1 as1 H2 ∧ HeapR K as1 H2 hh ∧ Rel K as1 H2 (.ref p) (.d (.list ps)) := by
  have hal : as2.length = hh.length + 1 := by rw [r2.len]; simp
  have al1 : as1.length = h1.length := r1.len
  obtain ⟨mo, hmo⟩ := l2.more
  have hmo1 : mo.length = 1 := by
    have := congrArg List.length hmo
    rw [List.length_append] at this
    omega
  obtain ⟨q, rfl⟩ : ∃ q, mo = [q] := match mo, hmo1 with | [q], _ => ⟨q, rfl⟩
  have ep : q = p := by
    rw [hmo, ← al1] at e2
    simpa using e2
  subst ep
  subst hmo
  have l3 := later_cut l2 rfl (Nat.le_refl _)
  have r3 := heap_back r2 (by rw [hlen]; exact hno)
  obtain ⟨b, hb, vs, o1, o2⟩ := r2.at (n := hh.length) (o := .lst acc) (by simp)
  have ebp : b = q := by
    rw [hlen, ← al1] at hb
    simpa using hb.symm
  subst ebp
  have hpn : b ∉ as1 := fun hm => by
    have nd := r2.nd
    rw [List.nodup_append] at nd
    exact nd.2.2 b hm b (by simp) rfl
  exact ⟨l3, r3, .d (.lst (.inl ⟨.inl o1, hpn⟩) (dvs_back _ _ (o2.ofAllD hps)))⟩
theorem SS.setLc2V {i : Nat} {y : Str} {py spos : Pos} (hy : X.N[i]? = some y) (hyl : X.env.scope.names.lookup y = some .local) (hsw : swapsWith (.ListComp elt [⟨tg, it, ifs, 0⟩, ⟨tg1, it1, ifs1, 0⟩] scope pos) (some (.Name y py)) spos.line X.env = pure true)
    (hc : X.calm = true) (hN : X.N.Nodup) (hi : SI X W tg it wi) (ok : BlkOk X.N X.env.scope scope own) (hsl : ∀ i ∈ sl, i ∈ own.map (·.2)) (hsl1 : ∀ i ∈ sl1, i ∈ vs1) (hv1 : ∀ i ∈ vs1, i ∈ own.map (·.2))
    (hg : ∀ (s : Shared) (H : Hp) (C : Addr) (cl : List (Str × Addr)) (fp : List Addr), SG (X.blk s H scope (compEnvC scope cl C X.env) fp) tg g sl)
    (ht : ∀ (s : Shared) (H : Hp) (C : Addr) (cl : List (Str × Addr)) (fp : List Addr), STs (X.blk s H scope (compEnvC scope cl C X.env) fp) WF0 ifs tt)
    (hi1 : ∀ (s : Shared) (H : Hp) (C : Addr) (cl : List (Str × Addr)) (fp : List Addr), SI (X.blk s H scope (compEnvC scope cl C X.env) fp) WF0 tg1 it1 wi1)
    (hg1 : ∀ (s : Shared) (H : Hp) (C : Addr) (cl : List (Str × Addr)) (fp : List Addr), SG (X.blk s H scope (compEnvC scope cl C X.env) fp) tg1 g1 sl1)
    (ht1 : ∀ (s : Shared) (H : Hp) (C : Addr) (cl : List (Str × Addr)) (fp : List Addr), STs (X.blk s H scope (compEnvC scope cl C X.env) fp) WF0 ifs1 tt1)
    (he : ∀ (s : Shared) (H : Hp) (C : Addr) (cl : List (Str × Addr)) (fp : List Addr), SE (X.blk s H scope (compEnvC scope cl C X.env) fp) WF0 elt te)
    (hs : ∀ x, foldedSetIterable it X.env x = pure x := by intro _; rfl) (hs1 : ∀ env x, foldedSetIterable it1 env x = pure x := by intro _ _; rfl) :
    SS X W (.Assign [.Name y py] (.ListComp elt [⟨tg, it, ifs, 0⟩, ⟨tg1, it1, ifs1, 0⟩] scope pos) spos) (sAsg (fLc2V wi g tt wi1 g1 tt1 te (own.map (·.2)) vs1) (gNm i)) := by
  obtain ⟨t, pi, st'⟩ := id hi
  refine ⟨_, ps_setLc2 (g := cG X.K g sl) (tt := cT X.K X.mg WF0 tt) (wi1 := cI X.K X.mg WF0 wi1) (g1 := cG X.K g1 sl1) (tt1 := cT X.K X.mg WF0 tt1) (te := cE X.K X.mg WF0 te) hc hN hy hyl hsw pi ok hv1 (fun s H C cl fp => (hg s H C cl fp).c) (fun s H C cl fp => (ht s H C cl fp).c) (fun s H C cl fp => (hi1 s H C cl fp).c) (fun s H C cl fp => (hg1 s H C cl fp).c) (fun s H C cl fp => (ht1 s H C cl fp).c) (fun s H C cl fp => (he s H C cl fp).c) hs hs1, ?_⟩
  refine sp_asg (sl := [i]) ?_ ?_
  · intro σ H as ρ h Q E QV eR hR hq k kx
    refine st' σ H as ρ h _ E _ eR hR hq (fun xs st h1 as1 H1 J q1 s1 l1 r1 wk => ?_) kx
    refine lc2_walk hsl hsl1 r1 (eR.later l1) wk q1.1 q1.2 fun p as2 H2 h2 hp q2 l2 r2 e2 => ?_
    obtain ⟨hh, acc, ps, rfl, hlen, hno, hps, q⟩ := q2
    obtain ⟨l3, r3, rv⟩ := pop_last r1 l2 r2 hlen hno e2 hps
    exact k _ _ _ _ _ q (l1.trans l3) r3 rv
  · intro v x σ H as ρ h ρ' Q eR hR r e k
    simp only [gNm, Option.some.injEq] at e
    subst e
    exact k _ (eR.set i r) fun vs hv => wipe_set (hv i (by simp))
end
end V2
set_option Elab.async false
set_option linter.all false
set_option maxRecDepth 100000
set_option maxHeartbeats 4000000
/-! dict(pairs), list.remove, `and` in an except suite -/
namespace V2
open PySem PySem.Spec PyProof.Rows L2
open PySem.W (Frag)
section
variable {X : Cx} {i : Nat} {pos : Pos} {e b : Expr} {rest : List Expr} {fe fb : XE'}
theorem SXE.one {op} (he : SXE X i e fe) : SXE X i (.BoolOp op [e] pos) fe := fun a oe cls d pn hz hd => let ⟨_, p, s⟩ := he a oe cls d pn hz hd; ⟨_, pe_one p, s⟩
end
/-! l.remove(k) of a list of ints of the store -/
def mgD (acc : List (Int × D)) (kvs : List (Int × PyData)) : List (Int × D) := kvs.foldl (fun acc z => stD acc z.1 (.d z.2)) acc
def prD (z : Int × PyData) : PyData := .tuple [.int z.1, z.2]
/-- dict(x), x a list or a tuple (one that is known) of pairs -/
def rDictP : WR := fun xs h Q => ∃ x kvs, xs = [x] ∧ (x = .tp (kvs.map prD) ∨ x = .d (.list (kvs.map prD))) ∧ kvs.length ≤ sizeLine ∧ Q (.loc h.length) (h ++ [.di (mgD [] kvs)])
section
variable {X : Cx} {W : WX} {o e a : Expr} {fo : WE} {ga : WA} {pos apos cpos p : Pos}
theorem pairs_at {pins : List (Addr × Obj)} {σ : L2.St} {H : Hp} {s : Shared} (I : Inv X pins σ H s) : ∀ {ps : List Addr} {kvs : List (Key × V)}, Paired (fun p kv => SqT X.K H p [kV kv.1, kv.2]) ps kvs →
    ∃ (prs : List (Key × Value)) (vs : List (Value × Value)), KV kvs prs ∧ vs.length = ps.length ∧ prs.length = ps.length ∧ ∀ (j : Nat) (k v : Value), vs[j]? = some (k, v) → ∃ b q, ps[j]? = some b ∧ s.heap.IsTuple b #[k, v] ∧ prs[j]? = some (q, v) ∧ (mixKind X.prog X.w).is q k = true
  | _, _, .nil => ⟨[], [], .nil, rfl, rfl, fun j k v e => by simp at e⟩
  | _, _, .cons (a := b) (b := kv) h t => by
    obtain ⟨prs, vs, r, hl, hl2, hp⟩ := pairs_at I t
    obtain ⟨its, rv, ht, _⟩ := I.tuple h
    obtain ⟨u, y, ei, ru, ry⟩ := vals2 rv
    subst ei
    refine ⟨(kv.1, y) :: prs, (u, y) :: vs, .cons ⟨rfl, ry⟩ r, congrArg (· + 1) hl, congrArg (· + 1) hl2, fun j k v e => ?_⟩
    cases j with
    | zero =>
      cases Option.some.inj e
      exact ⟨b, kv.1, rfl, ht, rfl, kV_is (P := X.prog) (w := X.w) ru⟩
    | succ j =>
      obtain ⟨b', q, e1, e2, e3, e4⟩ := hp j k v (by simpa using e)
      exact ⟨b', q, by simpa using e1, e2, by simpa using e3, e4⟩
def rDictTV (K : Frag) : List V → Hp → VK → Prop := fun xs H Q => ∃ (a : Addr) (ob : Obj) (ps : List Addr) (kvs : List (Key × V)), xs = [.ref a] ∧ H a = some (.frz ob (.tup (ps.map V.ref))) ∧ ob.dict = none ∧ Paired (fun p kv => SqT K H p [kV kv.1, kv.2]) ps kvs ∧ ps.length ≤ sizeLine ∧
  ∀ p, H p = none → Q (.ref p) (upd H p (.dK (mergeK [] kvs)))
theorem call_dictTV (hc : X.calm = true) : CallR X (.type "dict") (rDictTV X.K) := by
  intro pins s σ H xs us Q I r h
  obtain ⟨a, ob, ps, kvs, rfl, ea, hd, hp, hz, q⟩ := h
  obtain ⟨u, rfl, rx⟩ := vals1 r
  cases rx
  obtain ⟨g, _, its, rv, o, h1, h2, n, h3⟩ := (show ObjOk X.prog X.w H s.heap a (.frz ob (.tup (ps.map V.ref))) from I.hok a _ ea)
  rw [g] at h1
  cases h1
  have ei := refs_at rv
  subst ei
  obtain ⟨prs, vs, rel, hl, hl2, hpr⟩ := pairs_at I hp
  have key := PySem.call_dict_pairs (prog := X.prog) (w := X.w) (A := X.A) (E := X.xe) (s := s) (knd := mixKind X.prog X.w) (kvs := prs) (Q := fun v s' => EP X pins σ Q v s')
    (PairArg.tuple a (ps.map Value.ref).toArray (fun j => ps.getD j 0) vs) (I.ok.hd hc) ⟨⟨_, n, g, h2, hd, h3⟩, by simp [hl], fun j k v e => ?_⟩ ⟨by rw [hl2, hl], fun j k v e => ?_⟩ (by rw [hl]; exact hz) fun h' tk hd' hk => ?_
  · exact key
  · obtain ⟨b, q', e1, e2, _⟩ := hpr j k v e
    have e5 : ps.getD j 0 = b := by rw [List.getD_eq_getElem?_getD, e1]; rfl
    show _ = some (Value.ref (ps.getD j 0)) ∧ PairAt s.heap (ps.getD j 0) k v
    rw [e5]
    exact ⟨by simp [e1], .inl e2⟩
  · obtain ⟨b, q', _, _, e3, e4⟩ := hpr j k v e
    exact ⟨q', e3, e4⟩
  · have hm : (s.heap.objs.size == sysModules) = false := beq_eq_false_iff_ne.mpr (Nat.ne_of_gt I.big)
    have hlen : (mergeK [] kvs).length ≤ sizeLine := by
      have := length_mergeK kvs []
      rw [List.length_nil, Nat.zero_add, rel.length, hl2] at this
      omega
    exact ⟨.ref s.heap.objs.size, upd H s.heap.objs.size (.dK (mergeK [] kvs)), I.laid (t' := tk) (fun b o e => hk b o (fun m => nomatch m) e) (Nat.le_refl _) (show ObjOk X.prog X.w _ _ _ (.dK (mergeK [] kvs)) from ⟨hlen, hm, merged [] prs, KV.merge rel .nil, hd'⟩), rfl, q _ (I.hok.fresh (Nat.le_refl _))⟩
theorem DiR.merge {K : Frag} {as : List Addr} {H : Hp} : ∀ (ls : List (Int × PyData)) (kvs xs : List (Key × V)) (acc : List (Int × D)), DiR K as H kvs (ls.map fun z => (z.1, D.d z.2)) → DiR K as H xs acc → DiR K as H (mergeK xs kvs) (mgD acc ls)
  | [], _, _, _, h, r => by cases h; exact r
  | z :: ls, _, xs, acc, h, r => by
    cases h with
    | @cons i v d xs0 kvs0 h1 h2 =>
      have := DiR.merge ls xs0 (putK xs (.inl z.1) v) (stD acc z.1 (.d z.2)) h2 (r.put h1)
      exact this
theorem pairs_rel {K : Frag} {as : List Addr} {H : Hp} : ∀ {vs : List V} {ls : List (Int × PyData)}, DvAll K as H vs (ls.map prD) → ∃ (ps : List Addr) (kvs : List (Key × V)), vs = ps.map V.ref ∧ Paired (fun p kv => SqT K H p [kV kv.1, kv.2]) ps kvs ∧ DiR K as H kvs (ls.map fun z => (z.1, D.d z.2))
  | _, [], h => by cases h; exact ⟨[], [], rfl, .nil, .nil⟩
  | _, z :: ls, h => by
    cases h with
    | cons h1 h2 =>
      obtain ⟨ps, kvs, rfl, q1, q2⟩ := pairs_rel h2
      cases h1 with
      | @tup a xs ds t1 t2 =>
        cases t2 with | cons u1 t2 =>
        cases t2 with | cons u2 t2 =>
        cases t2
        cases u1
        exact ⟨a :: ps, (.inl z.1, _) :: kvs, rfl, .cons t1.sq q1, .cons (.d u2) q2⟩
theorem cp_dictP : CpA X (fun xs H Q => rDictTV X.K xs H Q ∨ ∃ (a : Addr) (ps : List Addr) (kvs : List (Key × V)), xs = [.ref a] ∧ SqL X.K H a (ps.map V.ref) ∧ Paired (fun p kv => SqT X.K H p [kV kv.1, kv.2]) ps kvs ∧
    ∀ p, H p = none → Q (.ref p) (upd H p (.dK (mergeK [] kvs)))) rDictP := by
  rintro xs h Q vs as H QV rv hR ⟨x, ls, rfl, ex, hl, q⟩ k
  obtain ⟨v, rfl, r⟩ := relAll1 rv
  have fin : ∀ kvs, DiR X.K as H kvs (ls.map fun z => (z.1, D.d z.2)) → ∀ p, H p = none → QV (.ref p) (upd H p (.dK (mergeK [] kvs))) := by
    intro kvs dr p hp
    have lp : Later as H (as ++ [p]) (upd H p (.dK (mergeK [] kvs))) := Later.place _ hp
    obtain ⟨r1, e⟩ := hR.placeO (ob := .dK (mergeK [] kvs)) (o := .di (mgD [] ls)) hp ⟨_, upd_same, (DiR.merge _ _ _ _ dr .nil).imp fun z _ v r => r.later lp⟩
    exact k _ _ _ _ _ q lp r1 (.loc e)
  rcases ex with rfl | rfl
  · cases r with | tp z1 z2 z3 z4 =>
    obtain ⟨ps, kvs, rfl, q1, q2⟩ := pairs_rel z4
    refine .inl ⟨_, _, ps, kvs, rfl, z1, z2, q1, ?_, fin kvs q2⟩
    have := z4.length
    rw [List.length_map, List.length_map] at this
    omega
  · cases r with | d r =>
    cases r with | lst s1 s2 =>
    obtain ⟨ps, kvs, rfl, q1, q2⟩ := pairs_rel s2
    exact .inr ⟨_, ps, kvs, rfl, s1.sq, q1, fin kvs q2⟩
theorem SE.dictP (hc : X.calm = true) (hg : Gl X "dict") (hm : X.mg "dict" = none) (ha : SA X W [a] ga) (he : starEach [a] X.env = (false, eval a X.env) :: starEach [] X.env := by rfl) : SE X W (.Call (.Name "dict" p) [a] [] pos) (fCall rDictP ga) :=
  .callTy (fun pins s σ H xs us Q I r h => h.elim (call_dictTV hc pins s σ H xs us Q I r) (call_dictP hc pins s σ H xs us Q I r)) cp_dictP hg hm (by decide +kernel) ha (he := he) (hpl := rfl)
end
end V2
set_option Elab.async false
set_option linter.all false
set_option maxRecDepth 100000
set_option maxHeartbeats 4000000
/-! for .. in d.items(), d a dict by tuples of ints that is not used behind -/
namespace V2
open PySem PySem.Spec PyProof.Rows L2
open PySem.W (Frag)
end V2
set_option Elab.async false
set_option linter.all false
set_option maxRecDepth 100000
set_option maxHeartbeats 4000000
/-! the words of for (k), v in d.items(), d a dict by tuples of ints, its values data -/
namespace V2
open PySem PySem.Spec PyProof.Rows L2
open PySem.W (Frag)
end V2
set_option Elab.async false
set_option linter.all false
set_option maxRecDepth 100000
set_option maxHeartbeats 4000000
/-! sorted(set(e)), e a list of tuples of ints, few and small -/
namespace V2
open PySem PySem.Spec PyProof.Rows L2
open PySem.W (Frag)
end V2
set_option Elab.async false
set_option linter.all false
set_option maxRecDepth 100000
set_option maxHeartbeats 4000000
/-! ## try: body, several clauses `except c as n`, all with one name -/
namespace V2
open PySem PySem.Spec PyProof.Rows L2
open PySem.W (Frag)
/-- the wishes of the clauses, each behind the other -/
def wAsL (K : Frag) (i : Nat) (Wo : WX) (D : Ends) : List (Value × (Addr → Value → Option Addr → TS)) → WX
  | [] => Wo
  | z :: zs => wAs K z.1 i z.2 (wAsL K i Wo D zs) D
/-- the clauses, one by one, with what each suite's reading is -/
inductive Cls (Y : Cx) (nm : Str) : List ExceptHandler → List (Value × (Addr → Value → Option Addr → TS)) → Prop
  | nil : Cls Y nm [] []
  | cons {x : Str} {v : Value} {ts : Addr → Value → Option Addr → TS} {b : Stmt} {bs : List Stmt} {p1 p2 : Pos} {cs : List ExceptHandler} {zs : List (Value × (Addr → Value → Option Addr → TS))} (hx : Names Y x v)
      (run : ∀ (e : Addr) (o : Obj) (cv : Value) (dd : Option Addr) (ps : List (Addr × Obj)), Zc cv dd o → (∃ us, o.data = .fields us) → PSs (Y.suite e ((e, o) :: ps)) (b :: bs) (ts e cv dd)) (more : Cls Y nm cs zs) :
      Cls Y nm (.ExceptHandler (some (.Name x p1)) (some nm) (b :: bs) p2 :: cs) ((v, ts) :: zs)
section
variable {Y : Cx} {nm : Str} {i : Nat} {D : Ends} {Wo : WX} {ls : List (Addr × Obj)} {μ : L2.St} {G : Hp} {e : Addr} {B : Heap} {cv : Value} {dd : Option Addr} {sI sh : Shared}
/-- what is known of the exception e when the clauses are looked at -/
structure Come (Y : Cx) (ls : List (Addr × Obj)) (μ : L2.St) (G : Hp) (e : Addr) (B : Heap) (cv : Value) (dd : Option Addr) (sI sh : Shared) : Prop where
  ok : Y.Ok
  st : Y.stack = Y.env :: Y.outer
  fr : Y.env.frame = some Y.env.locals
  inv : Inv Y ls μ G sI
  kept : ∀ q ob, sI.heap.get? q = some ob → q ∉ frs Y.stack → B.get? q = some ob
  up : sI.heap.UpToSlots sh.heap
  none : G e = .none
  os : sh.os = sI.os
  bare : AllBare sh.gens
  fly : HandSPX.FlyingZ B (Y.env :: Y.outer) e (Zc cv dd) sh.heap
theorem Come.now (k : Come Y ls μ G e B cv dd sI sh) : Inv Y ls μ G sh := k.inv.landed k.kept k.fly.1 k.up k.os k.bare
/-- no clause is left: it goes on -/
theorem Come.on (k : Come Y ls μ G e B cv dd sI sh) (tk : Takes Y Wo) (w : Wo cv dd μ G) : wpAny (model Y.prog Y.w) Y.A (handleBy (.ref e) Y.env []) (SP Y ls D) Y.xe sh := by
  apply wpAny_handleBy_nil
  unfold PySem.passOn
  obtain ⟨-, -, -, o, us, tb, otb, tts, g1, -, g3, g4, -⟩ := id k.fly
  apply wpAny_bind
  refine wpAny_field g1 g3 g4 ?_
  rw [if_neg (by simp : ¬ ((Value.ref tb == Value.none) = true))]
  have last : wpAny (model Y.prog Y.w) Y.A (setFlight (.ref e) Y.env.frame) (fun _ s2 => wpAny (model Y.prog Y.w) Y.A (throw (.ref e) : Sem Flow) (SP Y ls D) Y.xe s2) Y.xe sh := by
    rw [k.fr]
    refine HandSPX.setFlight_upZ k.fly fun h2 hold u2 => ?_
    refine wpAny_throw (tk _ _ ⟨e, B, sI, ls, μ, G, cv, dd, rfl, k.inv, k.kept, k.up.trans u2, ?_, k.none, k.os, k.bare, w⟩)
    rw [k.st]
    exact .inr (.inr hold)
  first
    | exact wpAny_bind last
    | exact wpAny_bind (wpAny_pure (wpAny_bind last))
end
/-! over data -/
def tryL (i : Nat) (D : Nx) : List ((Str → Option Bool) × (Ex → WS)) → Ex → En → Ho → Prop
  | [] => D.ex
  | z :: zs => fun x ρ1 h1 => match z.1 x.cls with
    | some true => i < ρ1.length ∧ z.2 x (ρ1.set i none) h1 (sufN i D)
    | some false => tryL i D zs x ρ1 h1
    | none => False
inductive ClsD (X : Cx) (i : Nat) (nm : Str) : List ExceptHandler → List ((Str → Option Bool) × (Ex → WS)) → Prop
  | nil : ClsD X i nm [] []
  | cons {x : Str} {v : Value} {m : Str → Option Bool} {sf : Ex → WS} {b : Stmt} {bs : List Stmt} {p1 p2 : Pos} {cs : List ExceptHandler} {zs : List ((Str → Option Bool) × (Ex → WS))} (hx : Names X x v)
      (hm : ∀ n C t, X.mg n = some (.ref C) → m n = some t → PySem.W.exmOne X.K (.ref C) v = some t) (su : SSuite X i (b :: bs) sf) (more : ClsD X i nm cs zs) :
      ClsD X i nm (.ExceptHandler (some (.Name x p1)) (some nm) (b :: bs) p2 :: cs) ((m, sf) :: zs)
section
variable {X : Cx} {W : WX} {i : Nat} {nm : Str}
theorem ClsD.plain {cs : List ExceptHandler} {zs : List ((Str → Option Bool) × (Ex → WS))} (c : ClsD X i nm cs zs) : ∃ us, Cls X nm cs us ∧
    ∀ {as : List Addr} {H : Hp} {D : Nx} {D' : Ends}, STo X W as H D D' → ∀ {x : Ex} {ρ1 : En} {h1 : Ho} {cv : Value} {dd : Option Addr} {σ1 : L2.St} {as1 : List Addr} {H1 : Hp}, tryL i D zs x ρ1 h1 → Later as H as1 H1 → HeapR X.K as1 H1 h1 → EnvR X.K as1 H1 ρ1 σ1 → ExR X.K X.mg as1 H1 cv dd x →
      wAsL X.K i W D' us cv dd σ1 H1 := by
  induction c with
  | nil => exact ⟨_, .nil, fun k _ _ _ _ _ _ _ _ q l1 r1 eR1 xr => k.ex _ _ _ _ _ _ _ _ q l1 r1 eR1 xr⟩
  | @cons xn v m sf b bs p1 p2 cs zs hx hm su more ih =>
    obtain ⟨us, ok, go⟩ := ih
    refine ⟨_, .cons (ts := cSu X.K X.mg i sf X) hx (fun e o cv dd ps z1 z2 => ?_) ok, fun {as H D D'} k {x ρ1 h1 cv dd σ1 as1 H1} q l1 r1 eR1 xr => ?_⟩
    · obtain ⟨t, pt, st⟩ := su e o cv dd ps z1 z2
      refine pss_mono pt ?_
      rintro D' σ H ⟨x, as, ρ, h, D, k1, k2, k3, k4, k5, k6⟩
      exact st x σ H as ρ h D D' k1 k2 k3 k4 k5 k6
    · have xr0 := xr
      obtain ⟨C, c1, rfl, -⟩ := xr0
      unfold tryL at q
      dsimp only at q
      split at q
      · rename_i em
        refine ⟨true, hm _ _ _ c1 em, fun _ a ha => ?_, fun z => nomatch z⟩
        have hlen : i < σ1.length := by rw [← eR1.1]; exact q.1
        refine ⟨x, as1, ρ1.set i none, h1, _, eR1.none i _, List.getElem?_set_self hlen, r1, xr, q.2, ?_⟩
        exact {
          nx := fun ρ2 h2 σ2 as2 H2 q2 l2 r2 e2 => k.nx _ _ _ _ _ q2 (l1.trans l2) r2 (e2.none i none)
          bk := fun ρ2 h2 σ2 as2 H2 q2 l2 r2 e2 => k.bk _ _ _ _ _ q2 (l1.trans l2) r2 (e2.none i none)
          ct := fun ρ2 h2 σ2 as2 H2 q2 l2 r2 e2 => k.ct _ _ _ _ _ q2 (l1.trans l2) r2 (e2.none i none)
          rt := fun y h2 v2 as2 H2 q2 l2 r2 e2 => k.rt _ _ _ _ _ q2 (l1.trans l2) r2 e2
          ex := fun _ _ _ _ _ _ _ _ q2 => q2.elim }
      · rename_i em
        exact ⟨false, hm _ _ _ c1 em, fun z => (nomatch z), fun _ => go k q l1 r1 eR1 xr⟩
      · exact q.elim
end
inductive NoM (K : Frag) (mg : Str → Option Value) (C : Addr) : List Str → Prop
  | nil : NoM K mg C []
  | cons {n : Str} {D : Addr} {l : List Str} (g : mg n = some (.ref D)) (e : PySem.W.exmOne K (.ref D) (.ref C) = some false) (t : NoM K mg C l) : NoM K mg C (n :: l)
theorem NoM.at {K : Frag} {mg : Str → Option Value} {C : Addr} {l : List Str} (t : NoM K mg C l) {n : Str} {D : Addr} (hn : n ∈ l) (g : mg n = some (.ref D)) : PySem.W.exmOne K (.ref D) (.ref C) = some false := by
  induction t with
  | nil => cases hn
  | @cons m D' l g' e t ih =>
    rcases List.mem_cons.1 hn with rfl | hn
    · rw [g] at g'
      cases g'
      exact e
    · exact ih hn
end V2
set_option Elab.async false
set_option linter.all false
set_option maxRecDepth 100000
set_option maxHeartbeats 4000000
/-! ## dicts by tuples of ints: pop -/
namespace V2
open PySem PySem.Spec PyProof.Rows L2
open PySem.W (Frag)
/-- an entry less -/
def drD (kvs : List (List Int × D)) (k : List Int) : List (List Int × D) := kvs.filter fun z => decide (z.1 ≠ k)
theorem DtR.drop {K : Frag} {as : List Addr} {H : Hp} {k : List Int} : ∀ {xs : List (List Int × Addr × Value)} {kvs : List (List Int × D)}, DtR K as H xs kvs → DtR K as H (withoutH xs k) (drD kvs k)
  | _, _, .nil => .nil
  | _, _, .cons (k := j) a b c t => by
    have ih := DtR.drop (k := k) t
    unfold withoutH drD at *
    by_cases e : j = k
    · rw [List.filter_cons_of_neg (by simp [e]), List.filter_cons_of_neg (by simp [e])]
      exact ih
    · rw [List.filter_cons_of_pos (by simp [e]), List.filter_cons_of_pos (by simp [e])]
      exact .cons a b c ih
end V2
set_option Elab.async false
set_option linter.all false
set_option maxRecDepth 100000
set_option maxHeartbeats 4000000
/-! x not in a tuple of data -/
namespace V2
open PySem PySem.Spec PyProof.Rows L2
open PySem.W (Frag)
end V2
set_option Elab.async false
set_option linter.all false
set_option maxRecDepth 100000
set_option maxHeartbeats 4000000
/-! a dict comprehension stored at a name, on one row -/
namespace L2
open PySem PySem.Spec PyProof.Rows
section
variable {X : Cx} {i : Nat} {y : Str} {py : Pos} {kx vx tg iter : Expr} {ifs : List Expr} {scope : Scope} {own : List (Str × Nat)} {pos spos : Pos} {wi : TI} {g : TG} {tt : TT} {tk tv : TE}
theorem ps_setDc (hc : X.calm = true) (hN : X.N.Nodup) (hy : X.N[i]? = some y) (hyl : X.env.scope.names.lookup y = some .local)
    (hsw : swapsWith (.DictComp kx vx [⟨tg, iter, ifs, 0⟩] scope pos) (some (.Name y py)) spos.line X.env = pure true) (hi : PI X tg iter wi) (ok : BlkOk X.N X.env.scope scope own)
    (hg : ∀ (s : Shared) (H : Hp) (C : Addr) (cl : List (Str × Addr)) (fp : List Addr), PG (X.blk s H scope (compEnvC scope cl C X.env) fp) tg g)
    (ht : ∀ (s : Shared) (H : Hp) (C : Addr) (cl : List (Str × Addr)) (fp : List Addr), PTs (X.blk s H scope (compEnvC scope cl C X.env) fp) ifs tt)
    (hk : ∀ (s : Shared) (H : Hp) (C : Addr) (cl : List (Str × Addr)) (fp : List Addr), PE (X.blk s H scope (compEnvC scope cl C X.env) fp) kx tk)
    (he : ∀ (s : Shared) (H : Hp) (C : Addr) (cl : List (Str × Addr)) (fp : List Addr), PE (X.blk s H scope (compEnvC scope cl C X.env) fp) vx tv)
    (hs : ∀ x, foldedSetIterable iter X.env x = pure x := by intro _; rfl) :
    PS X (.Assign [.Name y py] (.DictComp kx vx [⟨tg, iter, ifs, 0⟩] scope pos) spos) (tAsg (tDc wi g tt tk tv (own.map (·.2))) (gName i)) := by
  constructor
  intro pins s σ H D I h
  rw [exec_Assign_Name_used _ _ _ _ hsw]
  refine wpAny_bind (wpAny_standAt (wpAny_bind ?_))
  have h : tDc wi g tt tk tv (own.map (·.2)) σ H (fun x H1 => gName i x σ H1 D.nx) := h
  refine wpAny_bind (thn (dc_core (pos' := firstIterPos [⟨tg, iter, ifs, 0⟩] pos) (use := some (assign (.Name y py) X.env)) (Qf := fun _ s' => SP X pins D .next s') hc hN I hi ok hg ht hk he hs h fun L C s' m H' I' q hn f => ?_) fun _ s' hq => wpAny_pure (wpAny_pure hq))
  show wpAny _ _ (assign (.Name y py) X.env (.ref L)) _ _ _
  refine wpAny_assign_Name (store_ok2 (v := V.ref L) I' hN hy (.inl hyl) rfl (fun s2 I2 ⟨a, sb, ha⟩ => ?_) (.inr hyl))
  obtain ⟨f0, f1, f2, f3, f4, f5⟩ := f
  have hne : C ≠ a := by
    cases ha with
    | inl z => rw [z]; exact f1
    | inr z => exact fun e => f4 y a z e.symm
  exact ⟨m, hn.sameBut sb hne, fun h3 sb3 => ⟨_, H', I2.turned (t' := s2.toks) (fun b o hb e => (sb3.2 b hb).trans e) f0 f1 f3 f4 f5, q⟩⟩
theorem sw_trueD {kx vx : Expr} {gs : List Comprehension} {scope : Scope} {pos py : Pos} {y : Str} {l : Nat} {env : Env} (hk : env.scope.kind = .function) (hy : env.scope.names.lookup y = some .local) (hl : (py.line == pos.line) = true)
    (ha : (scope.names.any fun (n, k) => n == y && (k == .local || k == .cell)) = false) : swapsWith (.DictComp kx vx gs scope pos) (some (.Name y py)) l env = pure true := by
  have k1 : env.kindOf y = some .local := hy
  have k2 : env.blockKind = .function := by
    unfold Env.blockKind
    rw [hk]
    rfl
  unfold swapsWith
  simp only [k2, k1, ha, Expr.pos, hl]
  rfl
end
end L2
namespace V2
open PySem PySem.Spec PyProof.Rows L2
open PySem.W (Frag)
section
variable {X : Cx} {W : WX} {kx vx tg it : Expr} {ifs : List Expr} {scope : Scope} {own : List (Str × Nat)} {pos : Pos} {wi : WI} {g : WG} {sl : List Nat} {tt : WT} {tk tv : WE}
theorem SS.setDc {i : Nat} {y : Str} {py spos : Pos} (hc : X.calm = true) (hN : X.N.Nodup) (hi : SI X W tg it wi) (ok : BlkOk X.N X.env.scope scope own) (hsl : ∀ i ∈ sl, i ∈ own.map (·.2))
    (hg : ∀ (s : Shared) (H : Hp) (C : Addr) (cl : List (Str × Addr)) (fp : List Addr), SG (X.blk s H scope (compEnvC scope cl C X.env) fp) tg g sl)
    (ht : ∀ (s : Shared) (H : Hp) (C : Addr) (cl : List (Str × Addr)) (fp : List Addr), STs (X.blk s H scope (compEnvC scope cl C X.env) fp) WF0 ifs tt)
    (hk : ∀ (s : Shared) (H : Hp) (C : Addr) (cl : List (Str × Addr)) (fp : List Addr), SE (X.blk s H scope (compEnvC scope cl C X.env) fp) WF0 kx tk)
    (hv : ∀ (s : Shared) (H : Hp) (C : Addr) (cl : List (Str × Addr)) (fp : List Addr), SE (X.blk s H scope (compEnvC scope cl C X.env) fp) WF0 vx tv)
    (hy : X.N[i]? = some y) (hyl : X.env.scope.names.lookup y = some .local) (hsw : swapsWith (.DictComp kx vx [⟨tg, it, ifs, 0⟩] scope pos) (some (.Name y py)) spos.line X.env = pure true)
    (hs : ∀ x, foldedSetIterable it X.env x = pure x := by intro _; rfl) : SS X W (.Assign [.Name y py] (.DictComp kx vx [⟨tg, it, ifs, 0⟩] scope pos) spos) (sAsg (fDc wi g tt tk tv (own.map (·.2))) (gNm i)) := by
  obtain ⟨t, pi, st'⟩ := id hi
  refine ⟨_, ps_setDc (g := cG X.K g sl) (tt := cT X.K X.mg WF0 tt) (tk := cE X.K X.mg WF0 tk) (tv := cE X.K X.mg WF0 tv) hc hN hy hyl hsw pi ok (fun s H C cl fp => (hg s H C cl fp).c) (fun s H C cl fp => (ht s H C cl fp).c) (fun s H C cl fp => (hk s H C cl fp).c) (fun s H C cl fp => (hv s H C cl fp).c) hs, ?_⟩
  refine sp_asg (sl := [i]) (te := tDc t (cG X.K g sl) (cT X.K X.mg WF0 tt) (cE X.K X.mg WF0 tk) (cE X.K X.mg WF0 tv) (own.map (·.2))) ?_ fun v x σ H as ρ h ρ' Q eR hR r e k => ?_
  · intro σ H as ρ h Q E QV eR hR hq k kx
    refine st' σ H as ρ h _ E _ eR hR hq (fun xs st h1 as1 H1 J q1 s1 l1 r1 wk => ?_) kx
    refine dc_walk hsl r1 (eR.later l1) wk q1.1 q1.2 fun p as2 H2 h2 hp q2 l2 r2 e2 => ?_
    exact k _ _ _ _ _ q2 (l1.trans l2) r2 (.loc e2)
  simp only [gNm, Option.some.injEq] at e
  subst e
  exact k _ (eR.set i r) fun vs hv => wipe_set (hv i (by simp))
end
end V2
set_option Elab.async false
set_option linter.all false
set_option maxRecDepth 100000
set_option maxHeartbeats 4000000
/-! repr of numbers of up to 4300 digits -/
namespace V2
open PySem PySem.Spec PyProof PyProof.Rows L2
open PySem.Builtin PySem.Builtin.Str PySem.Builtin.Int
section
variable {prog : Program} {w : World} {A : Around} {E : Value → Shared → Prop} {s : Shared} {a : Int} {t : Tok}
theorem call_int_wide {Q : Value → Shared → Prop} (hn : s.heap.NoDigits) (ha : a.natAbs < 10 ^ 4300) (h : Q (.str (toString a) s.toks) { s with toks := s.toks + 1 }) :
    wpAny (model prog w) A (call (.builtin "int.__repr__") [.int a t]) Q E s := by
  refine wpAny_call_entry F.slot_int_repr (typeIs_int s a t) F.entry_int_repr ?_ (F.args_int_repr_1 _)
  unfold Builtin.«int.__repr__»
  show wpAny _ _ (do let r ← Builtin.overDigitLimit? a; _) _ _ s
  refine wpAny_bind (overDigitLimit_any hn (fun hlt => ?_) (fun hge => absurd ha (Nat.not_lt.2 hge)))
  exact wpAny_bind (wpAny_mkStr (wpAny_pure ⟨_, rfl, h⟩) (int_text_fits10 hlt))
theorem reprObj_wide {Q : Value → Shared → Prop} (hn : s.heap.NoDigits) (ha : a.natAbs < 10 ^ 4300) (h : Q (.str (toString a) s.toks) { s with toks := s.toks + 1 }) :
    wpAny (model prog w) A (pyReprObj (.int a t)) Q E s := by
  unfold pyReprObj
  have hv : [Value.int a t].any Value.onHeap = false := rfl
  simp only [cRoomFor, hv, Bool.false_eq_true, if_false, pure_bind]
  refine wpAny_bind (wpAny_specialOf (name := Str.ofString "__repr__") (typeIs_int s a t) F.slot_int_repr.lookup ?_)
  refine wpAny_bind (m := callSpecialIfBound? (.int a t) (Str.ofString "__repr__")) (wpAny_callSpecialIfBound?_slot (name := Str.ofString "__repr__") (typeIs_int s a t) F.slot_int_repr (call_int_wide hn ha ?_))
  exact wpAny_bind (wpAny_isInstance (T := "str") (b := true) rfl isSubtype_str_str (wpAny_pure h))
theorem int_wideK {h₀ : Heap} {d : Nat} (hn : h₀.NoDigits) (ha : a.natAbs < 10 ^ 4300) : ReprK prog w [] h₀ d (.int a t) (toString a : String) := fun base hz A g E s Q hg hcl hu hk hQ => by
  rw [pyReprUnder_leaf (v := .int a t) (by omega) (fun _ e => nomatch e)]
  unfold pyRepr
  exact wpAny_bind (reprObj_wide (hn.keeps hk) ha (wpAny_pure (hQ s.heap _ fun _ _ e => e)))
end
mutual
/-- numbers of up to 12900 bits, in tuples and lists at any depth -/
def wideB : PyData → Bool
  | .int i => decide (i.natAbs.log2 < 12900)
  | .none | .bool _ | .str _ => true
  | .list xs | .tuple xs => wideAll xs
  | .dict _ => false
def wideAll : List PyData → Bool
  | [] => true
  | x :: xs => wideB x && wideAll xs
end
theorem wide_lt {i : Int} (h : i.natAbs.log2 < 12900) : i.natAbs < 10 ^ 4300 := Nat.lt_of_lt_of_le (lt_of_log2 h) pow_lo
section
variable {prog : Program} {w : World} {h₀ : Heap}
mutual
theorem readsW (hn : h₀.NoDigits) : ∀ {v : Value} {d : PyData} {as : List Addr}, Reads h₀ v d as → wideB d = true → d.shown.length ≤ sizeLine → ∃ bs, ReadAtMost h₀ d.depth bs ∧ ReprK prog w bs h₀ d.depth v d.shown
  | _, _, _, .none, _, _ => ⟨[], (fun _ h => nomatch h), by simp only [PyData.shown]; exact .of_is ReprIs.none _ _ _⟩
  | _, _, _, .bool b, _, _ => ⟨[], (fun _ h => nomatch h), by simp only [PyData.shown]; exact .of_is (ReprIs.bool b) _ _ _⟩
  | _, _, _, .int i t, hs, _ => ⟨[], (fun _ h => nomatch h), by simp only [PyData.shown]; exact int_wideK hn (wide_lt (by simpa [wideB] using hs))⟩
  | _, _, _, .str x t, _, hz => ⟨[], (fun _ h => nomatch h), by simp only [PyData.shown]; exact .of_is (ReprIs.str x t (by simpa only [PyData.shown] using hz)) _ _ _⟩
  | _, _, _, .list (a := a) (vs := vs) (xs := xs) h1 h2 h3 h4, hs, hz => by
    have hz' : (listText (PyData.shownAll xs)).length ≤ sizeLine := by simpa only [PyData.shown] using hz
    obtain ⟨bs, hb, hk⟩ := readsAllW hn h4 (by simpa [wideB] using hs) fun t ht => Nat.le_trans (listText_mem_le ht) hz'
    have r : Reads h₀ (.ref a) (.list xs) _ := .list h1 h2 h3 h4
    have hna : a ∉ bs := not_mem_of_deeper r (by simp only [PyData.depth]; omega) hb
    refine ⟨a :: bs, ReadAtMost.cons r (by simp only [PyData.depth]; omega) hb, ?_⟩
    simp only [PyData.depth, PyData.shown]
    obtain ⟨l⟩ := vs
    cases l with
    | nil =>
      have h5 : ReadsAll h₀ [] xs _ := h4
      cases h5
      simp only [PyData.shownAll, listText_nil]
      exact ReprK.listEmpty h1 h2 h3
    | cons x l => exact ReprK.list h1 h2 h3 hna (by simpa using hk.length_eq) fun i y e => hk.item i y (by simpa using e)
  | _, _, _, .tuple (a := a) (xs := xs) h1 h2 h3 h4, hs, hz => by
    have hz' : (tupleText (PyData.shownAll xs)).length ≤ sizeLine := by simpa only [PyData.shown] using hz
    obtain ⟨bs, hb, hk⟩ := readsAllW hn h4 (by simpa [wideB] using hs) fun t ht => Nat.le_trans (tupleText_mem_le ht) hz'
    have r : Reads h₀ (.ref a) (.tuple xs) _ := .tuple h1 h2 h3 h4
    have hna : a ∉ bs := not_mem_of_deeper r (by simp only [PyData.depth]; omega) hb
    refine ⟨a :: bs, ReadAtMost.cons r (by simp only [PyData.depth]; omega) hb, ?_⟩
    simp only [PyData.depth, PyData.shown]
    exact ReprK.tuple h1 h2 h3 hna hk
  | _, _, _, .dict _ _ _ _ _, hs, _ => by
    simp [wideB] at hs
theorem readsAllW (hn : h₀.NoDigits) : ∀ {vs : List Value} {ds : List PyData} {as : List Addr}, ReadsAll h₀ vs ds as → wideAll ds = true → (∀ t ∈ PyData.shownAll ds, t.length ≤ sizeLine) →
    ∃ bs, ReadAtMost h₀ (PyData.depthAll ds) bs ∧ ReprAllK prog w bs h₀ (PyData.depthAll ds) vs (PyData.shownAll ds)
  | _, _, _, .nil, _, _ => ⟨[], (fun _ h => nomatch h), by simp only [PyData.shownAll]; exact .nil⟩
  | _, _, _, .cons (d := d) (ds := ds) r rs, hs, hz => by
    have hs' : wideB d = true ∧ wideAll ds = true := by simpa [wideAll] using hs
    obtain ⟨b1, hb1, k1⟩ := readsW hn r hs'.1 (hz _ (by simp only [PyData.shownAll]; exact List.mem_cons_self ..))
    obtain ⟨b2, hb2, k2⟩ := readsAllW hn rs hs'.2 fun t ht => hz t (by simp only [PyData.shownAll]; exact List.mem_cons_of_mem _ ht)
    refine ⟨b1 ++ b2, fun b hm => ?_, ?_⟩
    · simp only [PyData.depthAll]
      rcases List.mem_append.1 hm with hm | hm
      · obtain ⟨d', as', r', hd'⟩ := hb1 b hm
        exact ⟨d', as', r', Nat.le_trans hd' (Nat.le_max_left _ _)⟩
      · obtain ⟨d', as', r', hd'⟩ := hb2 b hm
        exact ⟨d', as', r', Nat.le_trans hd' (Nat.le_max_right _ _)⟩
    · simp only [PyData.depthAll, PyData.shownAll]
      exact .cons ((k1.more fun b hb => List.mem_append_left _ hb).level_le (Nat.le_max_left _ _)) (k2.more_le (fun b hb => List.mem_append_right _ hb) (Nat.le_max_right _ _))
end
variable {a : Addr} {d : PyData} {as : List Addr} {A : Around} {E : Value → Shared → Prop} {s : Shared} {Q : Value → Shared → Prop}
theorem repr_wide (hn : h₀.NoDigits) (r : Reads h₀ (.ref a) d as) (hs : wideB d = true) (hg : A.guards = some []) (hu : A.units + (d.depth + 1) < cLine) (hk0 : ∀ b o, h₀.get? b = some o → s.heap.get? b = some o)
    (hQ : ∀ h' u tk, (∀ b o, s.heap.get? b = some o → h'.get? b = some o) → Q (.str d.shown u) { s with heap := h', toks := tk })
    (hsz : d.shown.length ≤ sizeLine) : wpAny (model prog w) A (call (.builtin "repr") [.ref a]) Q E s := by
  cases r with
  | list h1 h2 h3 h4 =>
    rename_i o vs n xs bs₀
    have hz' : (listText (PyData.shownAll xs)).length ≤ sizeLine := by simpa only [PyData.shown] using hsz
    obtain ⟨bs, hb, hk⟩ := readsAllW (prog := prog) (w := w) hn h4 (by simpa [wideB] using hs) fun t ht => Nat.le_trans (listText_mem_le ht) hz'
    have hna : a ∉ bs := not_mem_of_deeper (.list h1 h2 h3 h4) (by simp only [PyData.depth]; omega) hb
    have tI : s.TypeIs (.ref a) "list" := ⟨o, hk0 _ _ h1, h2⟩
    simp only [PyData.depth] at hu
    simp only [PyData.shown] at hQ
    refine call_repr_slot (by omega) tI F.slot_list_repr.toG ?_
    obtain ⟨l⟩ := vs
    cases l with
    | nil =>
      have h5 : ReadsAll h₀ [] xs _ := h4
      cases h5
      simp only [PyData.shownAll, listText_nil] at hQ
      exact call_list_repr_empty tI (hk0 _ _ h1) h3 ⟨_, _, rfl, hQ s.heap _ _ fun _ _ e => e⟩
    | cons x l =>
      exact call_list_reprK h1 h2 h3 hna (by simpa using hk.length_eq) (fun i y e => hk.item i y (by simpa using e)) (A := A.in1) hg (fun b _ => Clear.nil b) (by show A.units + 1 + _ < cLine; omega) hk0 (fun h' u tk hk => ⟨_, _, rfl, hQ h' u tk hk⟩) hz'
  | tuple h1 h2 h3 h4 =>
    rename_i o vs n xs
    have hz' : (tupleText (PyData.shownAll xs)).length ≤ sizeLine := by simpa only [PyData.shown] using hsz
    obtain ⟨bs, hb, hk⟩ := readsAllW (prog := prog) (w := w) hn h4 (by simpa [wideB] using hs) fun t ht => Nat.le_trans (tupleText_mem_le ht) hz'
    have hna : a ∉ bs := not_mem_of_deeper (.tuple h1 h2 h3 h4) (by simp only [PyData.depth]; omega) hb
    have tI : s.TypeIs (.ref a) "tuple" := ⟨o, hk0 _ _ h1, h2⟩
    simp only [PyData.depth] at hu
    simp only [PyData.shown] at hQ
    refine call_repr_slot (by omega) tI F.slot_tuple_repr ?_
    exact call_tuple_reprK h1 h2 h3 hna hk (A := A.in1) hg (fun b _ => Clear.nil b) (by show A.units + 1 + _ < cLine; omega) hk0 (fun h' u tk hk => ⟨_, _, rfl, hQ h' u tk hk⟩) hz'
  | dict h1 h2 h3 h4 h5 => simp [wideB] at hs
end
section
variable {X : Cx} {W : WX} {ga : WA} {a : Expr} {p pos : Pos}
/-- repr of a tuple of wide data -/
def rReprWV (K : PySem.W.Frag) : List V → Hp → VK → Prop := fun xs H Q => ∃ v ps, xs = [v] ∧ Dp K H v (.tuple ps) ∧ wideAll ps = true ∧ (PyData.tuple ps).depth < 60 ∧ (PyData.tuple ps).shown.length ≤ sizeLine ∧ Q (.str (PyData.tuple ps).shown) H
theorem call_reprW (hn : X.base.NoDigits) (hg : X.A.guards = some []) (hu : X.A.units + 64 < cLine) : CallR X (.builtin "repr") (rReprWV X.K) := by
  intro pins s σ H xs us Q I r h
  obtain ⟨v, ps, rfl, hd, hs, hdep, hz, q⟩ := h
  obtain ⟨u, rfl, ru⟩ := vals1 r
  cases hd with
  | tup h1 h2 =>
    have hd' : Dp X.K H _ _ := .tup h1 h2
    obtain ⟨as, rd⟩ := Dp.reads I _ _ u hd' ru
    cases ru
    refine repr_wide (hn.keeps I.bk) rd (by rw [wideB]; exact hs) hg (by omega) (fun _ _ e => e) (fun h' t tk kp => ?_) hz
    exact ⟨.str _, H, I.kept kp, ⟨_, rfl⟩, q⟩
def rReprW : WR := fun xs h Q => match xs with
  | [x] => match datum h x with
    | some (.tuple ps) => wideAll ps = true ∧ (PyData.tuple ps).depth < 60 ∧ (PyData.tuple ps).shown.length ≤ sizeLine ∧ Q (.d (.str (PyData.tuple ps).shown)) h
    | _ => False
  | _ => False
theorem cp_reprW : CpA X (rReprWV X.K) rReprW := by
  intro xs h Q vs as H QV rv hR hq k
  unfold rReprW at hq
  split at hq
  · split at hq
    · rename_i ps e
      obtain ⟨v, rfl, r⟩ := relAll1 rv
      exact ⟨v, ps, rfl, datum_dp r hR e, hq.1, hq.2.1, hq.2.2.1, k.qd hR hq.2.2.2 (.str _)⟩
    · exact hq.elim
  · exact hq.elim
theorem SE.reprW (hn : X.base.NoDigits) (hgu : X.A.guards = some []) (hu : X.A.units + 64 < cLine) (hg : Gl X "repr") (hm : X.mg "repr" = none) (ha : SA X W [a] ga) (he : starEach [a] X.env = (false, eval a X.env) :: starEach [] X.env := by rfl) : SE X W (.Call (.Name "repr" p) [a] [] pos) (fCall rReprW ga) := .callB (call_reprW hn hgu hu) cp_reprW hg hm (by decide +kernel) ha (he := he) (hpl := rfl)
theorem i_reprW {ps : List PyData} {h : Ho} {Q : KD} (hs : wideAll ps = true) (hd : (PyData.tuple ps).depth < 60) (hz : (PyData.tuple ps).shown.length ≤ sizeLine) (k : Q (.d (.str (PyData.tuple ps).shown)) h) : rReprW [.d (.tuple ps)] h Q := ⟨hs, hd, hz, k⟩
end
end V2
set_option Elab.async false
set_option linter.all false
set_option maxRecDepth 100000
set_option maxHeartbeats 4000000
/-! the law's end, where the base tells that no limit of digits is set -/
namespace V2
open PySem PySem.Spec PyProof.Rows L2
open PySem.W (Frag)
theorem law_endD {P : Program} {w : World} {K : Frag} {mg mb : Str → Option Value} {k : Nat} {fa a : Addr} {fd : FuncData} {x : Str} {F : WF} {s₁ : Shared} {vs : List Value} {ns : List Int}
    (inK : K.In s₁.heap) (gns : s₁.heap.Ns mainGlobals mg) (gb : s₁.heap.Ns builtinsNs mb) (gbb : ∀ x : Str, x ≠ "__name__" → mb x = bootBuiltins x) (nol : s₁.heap.NoLimit) (nd : s₁.heap.NoDigits) (gen : s₁.gens = #[])
    (oa : s₁.heap.get? a = some { cls := .type "list", data := .seq vs.toArray }) (hints : IntsAre vs ns) (hl : ns.length ≤ sizeLine) (hr : Room k callerA)
    (G : ∀ base : Heap, K.In base → base.Ns mainGlobals mg → base.NoDigits → FnG P w K mg base k fa fd [x] F) (bind1 : ∀ (s : Shared) (u : Value), BindsTo s fd ⟨[u], []⟩ [(x, u)]) (says : Says F ns) :
    codeAny (model P w) callerA (.call (.ref fa) ⟨[.ref a], []⟩) (fun r s' => r = .ok (.ret (.bool true)) ∧ OldK s₁.heap s'.heap ∧ s'.os = s₁.os ∧ AllBare s'.gens) s₁ := by
  have rv := vals_ints hints
  have main : ∀ H : Hp, Only H → LstR K [] H a (ns.map V.int) → HOk P w H s₁.heap → (∀ b, H b ≠ none → b = a) → (H a ≠ none → K.lookup a = none) →
      codeAny (model P w) callerA (.call (.ref fa) ⟨[.ref a], []⟩) (fun r s' => r = .ok (.ret (.bool true)) ∧ OldK s₁.heap s'.heap ∧ s'.os = s₁.os ∧ AllBare s'.gens) s₁ := by
    intro H only lst ok onlyA notK
    have noDict : ∀ {b : Addr} {o : Obj} {es : Array DictEntry} {ep : Nat}, s₁.heap.get? b = some o → o.data = .dict es ep → H b = none := by
      intro b o es ep e d
      refine Classical.byContradiction fun z => ?_
      rw [onlyA b z, oa] at e
      cases e
      cases d
    have nsH : ∀ {b : Addr} {m : Str → Option Value}, s₁.heap.Ns b m → (hidT s₁.heap H).Ns b m := by
      rintro b m ⟨o, es, ep, e, d, r⟩
      exact ⟨o, es, ep, hidT_get e (noDict e d), d, r⟩
    have baseK : K.In (hidT s₁.heap H) := by
      intro b o e
      refine hidT_get (inK b o e) (Classical.byContradiction fun z => ?_)
      have eb := onlyA b z
      subst eb
      rw [notK z] at e
      cases e
    obtain ⟨mc, nol1, nol2⟩ := id nol
    have md : Mod K mg (hidT s₁.heap H) := ⟨baseK, nsH gns, ⟨mb, nsH gb, gbb⟩, ⟨mc, nsH nol1, nol2⟩⟩
    have e0 : Env0 P w K mg (hidT s₁.heap H) callerA [] s₁ H := ⟨rfl, md, fun b o e => of_hidT e, Nat.le_of_eq (hidT_size _ _), trivial, fun b hb => absurd (show b ∈ ([] : List Addr) from hb) (by simp), ok, .of_eq gen⟩
    have sp : spD K mg 1 F [.ref a] H (fun v _ => v = .bl true) (fun _ _ _ => False) := by
      refine ⟨[], [scriptD ns], [], _, _, rfl, .cons (.d (.lst lst (DvAll.ints ns))) .nil, ⟨rfl, List.nodup_nil, fun i o b e => by simp at e⟩, says, fun y h' v as1 H1 q l r rr => ?_, fun x h' cls dd as1 H1 q => q.elim⟩
      subst q
      exact rel_bl rr
    refine codeAny_mono ((G _ baseK (nsH gns) (let ⟨mc', d1, d2⟩ := nd; ⟨mc', nsH d1, d2⟩)).run callerA [] s₁ H ⟨[.ref a], []⟩ [.ref a] [.ref a] _ _ hr rfl e0 (bind1 s₁ (.ref a)) (.cons rfl .nil) sp) fun r s' h => ?_
    cases r with
    | error e =>
      obtain ⟨_, _, _, _, _, _, _, _, _, _, _, _, z⟩ := h
      exact z.elim
    | ok fl =>
      cases fl with
      | next => exact h.elim
      | brk => exact h.elim
      | cont => exact h.elim
      | ret u =>
        obtain ⟨v, H', os, bare, un, ok', r', q⟩ := h
        have q' : v = .bl true := q
        subst q'
        obtain rfl : u = Value.bool true := r'
        refine ⟨rfl, OldK.of_keep fun b o e => ?_, os, bare⟩
        rcases only b with z | ⟨ob, xs, z⟩
        · exact un.keep b o e z (by intro y; exact absurd (show b ∈ ([] : List Addr) from y) (by simp)) (by simp)
        · have z2 := un.frzs b ob _ z
          obtain ⟨e1, _⟩ := ok b _ z
          obtain ⟨e2, _⟩ := ok' b _ z2
          rw [e] at e1
          cases e1
          exact e2
  cases hk : K.lookup a with
  | some o =>
    have e := inK a o hk
    rw [oa] at e
    cases e
    refine main (fun _ => none) (fun _ => .inl rfl) (.inr ⟨_, vs.toArray, _, hk, rfl, rfl, rfl, by rw [List.size_toArray, hints.length]; exact hl, by simpa using rv⟩) (fun b u z => nomatch z) (fun b z => absurd rfl z) (fun z => absurd rfl z)
  | none =>
    have self : (fun b => if b = a then some (HO.frz { cls := .type "list", data := .seq vs.toArray } (.lst (ns.map V.int))) else none : Hp) a = some (.frz { cls := .type "list", data := .seq vs.toArray } (.lst (ns.map V.int))) := if_pos rfl
    refine main (fun b => if b = a then some (.frz { cls := .type "list", data := .seq vs.toArray } (.lst (ns.map V.int))) else none) (fun b => ?_) (.inl ⟨.inr ⟨_, self⟩, by simp⟩) (fun b u z => ?_) (fun b z => ?_) (fun _ => hk)
    · by_cases hb : b = a
      · subst hb; exact .inr ⟨_, _, self⟩
      · exact .inl (if_neg hb)
    · by_cases hb : b = a
      · subst hb
        rw [self] at z
        cases z
        exact ⟨oa, by rw [List.length_map]; exact hl, vs, _, rv, oa⟩
      · have z' : (none : Option HO) = some u := (if_neg hb).symm.trans z
        cases z'
    · exact Classical.byContradiction fun hb => z (if_neg hb)
/-- the goal that k_head leaves, from the law's reading over data -/
theorem walkD {l : PySem.W.OpenLaw} {n k : Nat} {q : Program} {loose : List Str} {XP : (Str → Option Value) → Heap → Prop} {YP : World → Heap → Prop} {d : DefRec} {K : Params → Frag} {F : WF} {x : Str}
    (hn : l.most = some n) (hn2 : n ≤ sizeLine) (hdf : d.params.defaults = []) (hr : Room k callerA) (hY : ∀ (w : World) (h : Heap), YP w h → (K w.params).In h)
    (all : ∀ (w : World) (mg : Str → Option Value) (fa : Addr) (h : Heap), (K w.params).In h → h.Ns mainGlobals mg → mg d.name = some (.ref fa) →
      ∃ fd : FuncData, (∀ (s : Shared) (u : Value), BindsTo s fd ⟨[u], []⟩ [(x, u)]) ∧ ∀ base : Heap, (K w.params).In base → base.Ns mainGlobals mg → base.NoDigits → FnG l.prog w (K w.params) mg base k fa fd [x] F)
    (says : ∀ ns : List Int, ns.length ≤ n → (∀ i ∈ ns, Builtin.Int.intBits i ≤ 1048576) → Says F ns) : PySem.W.WalkO q loose XP YP l.row.toRowW d [] (fun f vs => PySem.call f vs) := by
  refine Att.attach_callB hn hdf fun w s₀ s₁ mg mb fa o pm cd doc a vs ns G Y ho hd hcd hmg hobj hints hlen hbits hg => ?_
  have inK := hY w _ Y
  obtain ⟨fd, hb, hF⟩ := all w mg fa _ inK G.T.g hmg
  exact law_endD inK G.T.g G.T.b G.T.builtins G.T.nolimit (Top.nodigits G.T) hg hobj hints (Nat.le_trans hlen hn2) hr hF hb (says ns hlen hbits)
end V2
set_option Elab.async false
set_option linter.all false
set_option maxRecDepth 100000
set_option maxHeartbeats 4000000
/-! pairs of ints by `<=`; tuple displays that are known -/
namespace V2
open PySem PySem.Spec PyProof.Rows L2
open PySem.W (Frag)
def rLeI2 : WR2 := fun x y h Q => ∃ a b c d : Int, x = .d (.tuple [.int a, .int b]) ∧ y = .d (.tuple [.int c, .int d]) ∧ Q (.d (.bool (decide (a < c ∨ (a = c ∧ b ≤ d))))) h
section
variable {X : Cx} {W : WX} {a b : Expr} {fa fb : WE} {es : List Expr} {ga : WA} {pos : Pos}
theorem lexAt_two (a b c d : Int) : Ob.lexAt (fun j => decide (([a, b] : List Int).getD j 0 = ([c, d] : List Int).getD j 0)) (fun j => decide (([a, b] : List Int).getD j 0 ≤ ([c, d] : List Int).getD j 0)) (decide (([a, b] : List Int).length ≤ ([c, d] : List Int).length)) 0 (min ([a, b] : List Int).length ([c, d] : List Int).length) = decide (a < c ∨ (a = c ∧ b ≤ d)) := by
  show Ob.lexAt _ _ _ 0 2 = _
  unfold Ob.lexAt
  show (if decide (a = c) = true then Ob.lexAt _ _ _ 1 1 else decide (a ≤ c)) = _
  by_cases e : a = c
  · rw [if_pos (decide_eq_true e)]
    unfold Ob.lexAt
    show (if decide (b = d) = true then Ob.lexAt _ _ _ 2 0 else decide (b ≤ d)) = _
    by_cases f : b = d
    · rw [if_pos (decide_eq_true f)]
      unfold Ob.lexAt
      exact (decide_eq_true (show a < c ∨ (a = c ∧ b ≤ d) from .inr ⟨e, by omega⟩)).symm
    · rw [if_neg (by rw [decide_eq_false f]; decide)]
      exact decide_eq_decide.2 ⟨fun h => .inr ⟨e, h⟩, fun h => h.elim (fun h => by omega) fun h => h.2⟩
  · rw [if_neg (by rw [decide_eq_false e]; decide)]
    exact decide_eq_decide.2 ⟨fun h => .inl (by omega), fun h => h.elim (fun h => by omega) fun h => absurd h.1 e⟩
theorem cp_leI2 : Cp2 X (rLeT X.K) rLeI2 := by
  rintro x y h Q v w as H QV rx ry hR ⟨a, b, c, d, rfl, rfl, q⟩ k
  cases rx with | d rx =>
  cases ry with | d ry =>
  cases rx with | @tup p xs _ t1 d1 =>
  cases ry with | @tup p' ys _ t2 d2 =>
  have e1 : xs = [a, b].map V.int := DvAll.ints_inv (ns := [a, b]) d1
  have e2 : ys = [c, d].map V.int := DvAll.ints_inv (ns := [c, d]) d2
  subst e1
  subst e2
  refine ⟨p, p', [a, b], [c, d], rfl, rfl, t1.sq, t2.sq, ?_⟩
  rw [lexAt_two]
  exact k.qd hR q (.bl _)
theorem ST.leT (hu : X.A.units + 64 < cLine) (ha : SE X W a fa) (hb : SE X W b fb) : ST X W (.Compare a [.LtE] [b] pos) (tVal (fBin rLeI2 fa fb)) := .cmp (op_leT (by omega)) cp_leI2 ha hb (nomark _)
theorem pe_tupK {x1} {t : TA} (ha : PA X es t) : PE X (.Tuple es x1 pos) (fun σ H Q => t σ H fun xs H1 => xs.length ≤ sizeLine ∧ ∀ l ob, H1 l = none → ob.dict = none → Q (.ref l) (upd H1 l (.frz ob (.tup xs)))) := by
  refine ⟨fun pins s σ H Q I h => ?_⟩
  refine PyProof.Rows.Tuple_ (thn (ha.run pos pins s σ H _ I h) fun us s2 ⟨vs, H2, I2, r2, hz, q2⟩ => ?_)
  have hlen := r2.length
  have hz' : us.length ≤ sizeLine := by omega
  refine wpAny_newTuple ?_ hz'
  have I3 : Inv X pins σ (upd H2 s2.heap.objs.size (.frz { cls := .type "tuple", data := .seq us.toArray } (.tup vs))) { s2 with heap := s2.heap.push { cls := .type "tuple", data := .seq us.toArray } } :=
    I2.laid (t' := s2.toks) (fun b o e => Heap.get?_push_of_some _ e) (Nat.le_refl _) (show ObjOk X.prog X.w _ _ _ (.frz _ (.tup vs)) from ⟨Heap.get?_push_size _ rfl, hz, us, r2, IsTup.new _ _⟩)
  exact ⟨.ref s2.heap.objs.size, _, I3, rfl, q2 _ _ (I2.hok.fresh (Nat.le_refl _)) rfl⟩
/-- a tuple display that is known -/
def fTupK (ga : WA) : WE := fun ρ h Q E => ga ρ h (fun xs h1 => ∃ ps, AllD xs ps ∧ ps.length ≤ sizeLine ∧ Q (.tp ps) h1) E
theorem SE.tupK {x1} (ha : SA X W es ga) : SE X W (.Tuple es x1 pos) (fTupK ga) := by
  obtain ⟨_, pa, sa⟩ := ha
  refine ⟨_, pe_tupK pa, fun σ H as ρ h Q E QV eR hR hq k kx => ?_⟩
  refine sa σ H as ρ h _ E _ eR hR hq (fun xs h1 vs as1 H1 hq1 l1 r1 rv => ?_) kx
  obtain ⟨ps, e, hz, q⟩ := hq1
  have dv := rv.ofAllD e.eq
  refine ⟨by rw [dv.length]; exact hz, fun l ob hl hd => ?_⟩
  have lt : Later as1 H1 as1 (upd H1 l (.frz ob (.tup vs))) := Later.new _ hl
  refine (k.later l1) _ _ _ _ _ q lt (r1.new _ hl) (.tp upd_same hd (fun hm => ?_) (dv.later lt))
  obtain ⟨u, e⟩ := r1.there hm
  rw [hl] at e
  cases e
end
end V2
set_option Elab.async false
set_option linter.all false
set_option maxRecDepth 100000
set_option maxHeartbeats 8000000
namespace LW
open PySem PySem.Spec PyProof.Rows L2 V2
open PySem.W (Frag)
/-! the readings over data -/
def B_is_int : WS := (sRet (fAnd (fIsi "int" (fVar 0)) (fNot (fIsi "bool" (fVar 0)))))
def M_is_int : WF := mir 1 1 B_is_int
def B_is_tuple_of : WS := (sRet (fAnd (fIsi "tuple" (fVar 0)) (fBin rEq2 (fCall rLen (aCons (fVar 0) aNil)) (fVar 1))))
def M_is_tuple_of : WF := mir 2 2 B_is_tuple_of
def B_fraction : WS := (sSeq (sIf (tVal (fBin rEq2 (fVar 1) (fC (.int 0)))) (sRaise "InvalidSize" "word" (aCons (fC (.str "bottom")) aNil)) sNext)
  (sSeq (sAsg (fCall rGcd2 (aCons (fVar 0) (aCons (fVar 1) aNil))) (gNm 2))
  (sSeq (sIf (tVal (fBin (rCmp2 fun i j => decide (i < j)) (fVar 1) (fC (.int 0)))) (sAsg (fUn (fun i => .int (-i)) (fVar 2)) (gNm 2)) sNext)
  (sRet (fTup (aCons (fBin rDiv2 (fVar 0) (fVar 2)) (aCons (fBin rDiv2 (fVar 1) (fVar 2)) aNil)))))))
def M_fraction : WF := mir 3 2 B_fraction
def B_plus : WS := (sSeq (sAsg (fVar 0) (gTp 2 (gsCons (gNm 2) (gsCons (gNm 3) gsNil))))
  (sSeq (sAsg (fVar 1) (gTp 2 (gsCons (gNm 4) (gsCons (gNm 5) gsNil))))
  (sSeq (sAsg (fCall rGcd2 (aCons (fVar 3) (aCons (fVar 5) aNil))) (gNm 6))
  (sSeq (sAsg (fBin rDiv2 (fVar 3) (fVar 6)) (gNm 7))
  (sSeq (sAsg (fBin rAdd2 (fBin rMul2 (fVar 2) (fBin rDiv2 (fVar 5) (fVar 6))) (fBin rMul2 (fVar 4) (fVar 7))) (gNm 8))
  (sSeq (sAsg (fCall rGcd2 (aCons (fVar 8) (aCons (fVar 6) aNil))) (gNm 9))
  (sRet (fTup (aCons (fBin rDiv2 (fVar 8) (fVar 9)) (aCons (fBin rMul2 (fVar 7) (fBin rDiv2 (fVar 5) (fVar 9))) aNil))))))))))
def M_plus : WF := mir 10 2 B_plus
def B_times : WS := (sSeq (sAsg (fVar 0) (gTp 2 (gsCons (gNm 2) (gsCons (gNm 3) gsNil))))
  (sSeq (sAsg (fVar 1) (gTp 2 (gsCons (gNm 4) (gsCons (gNm 5) gsNil))))
  (sSeq (sPar 6 7 (aCons (fCall rGcd2 (aCons (fVar 2) (aCons (fVar 5) aNil))) (aCons (fCall rGcd2 (aCons (fVar 4) (aCons (fVar 3) aNil))) aNil)))
  (sRet (fTup (aCons (fBin rMul2 (fBin rDiv2 (fVar 2) (fVar 6)) (fBin rDiv2 (fVar 4) (fVar 7))) (aCons (fBin rMul2 (fBin rDiv2 (fVar 3) (fVar 7)) (fBin rDiv2 (fVar 5) (fVar 6))) aNil)))))))
def M_times : WF := mir 8 2 B_times
def B_negative : WS := (sRet (fTup (aCons (fUn (fun i => .int (-i)) (fBin rIx2 (fVar 0) (fC (.int 0)))) (aCons (fBin rIx2 (fVar 0) (fC (.int 1))) aNil))))
def M_negative : WF := mir 1 1 B_negative
def B_ties_by_point : WS := (sSeq (sAsg (fVar 0) (gTp 2 (gsCons (gNm 1) (gsCons (gNm 2) gsNil))))
  (sSeq (sAsg (fDc (iSeq (fVar 1)) (gNm 4) tTrue (fVar 4) fDi [4]) (gNm 3))
  (sSeq (sFor (iSeq (fVar 2)) (gTp 3 (gsCons (gNm 5) (gsCons (gNm 6) (gsCons (gNm 7) gsNil)))) (sSeq (sDsI (fVar 7) (fDgI (fVar 3) (fVar 5)) (fVar 6))
  (sDsI (fVar 7) (fDgI (fVar 3) (fVar 6)) (fVar 5))))
  (sRet (fVar 3)))))
def M_ties_by_point : WF := mir 8 1 B_ties_by_point
def B_network_in : WS := (sSeq (sAsg (fLc2V (iSeq (fCall rSortDi (aCons (fVar 0) aNil))) (gNm 2) tTrue (iSeq (fCall rSortDi (aCons (fDgI (fVar 0) (fVar 2)) aNil))) (gNm 3) (tVal (fBin (rCmp2 fun i j => decide (i < j)) (fVar 2) (fVar 3))) (fTup (aCons (fVar 2) (aCons (fVar 3) (aCons (fDgI (fDgI (fVar 0) (fVar 2)) (fVar 3)) aNil)))) [2, 3] [3]) (gNm 1))
  (sRet (fTup (aCons (fCall rTup1 (aCons (fCall rSortDi (aCons (fVar 0) aNil)) aNil)) (aCons (fCall rTup1 (aCons (fVar 1) aNil)) aNil)))))
def M_network_in : WF := mir 4 1 B_network_in
def B__law_deal : WS := (sSeq (sAsg (fLcV (iSeq (fSl (fVar 0) oNone (oSome (fC (.int 63))))) (gNm 3) tTrue (fCall rAbs (aCons (fCall rInt1 (aCons (fVar 3) aNil)) aNil)) [3]) (gNm 2))
  (sSeq (sAsg (fBin rAdd2 (fBin rMul2 (fC (.int 40127)) (fVar 1)) (fC (.int 863))) (gNm 4))
  (sSeq (sFor (iSeq (fVar 2)) (gNm 3) (sAsg (fBin rMod2 (fCall rInt1 (aCons (fBin rAdd2 (fBin rAdd2 (fBin rMul2 (fVar 4) (fC (.int 48271))) (fBin rMod2 (fVar 3) (fC (.int 2147483579)))) (fC (.int 61))) aNil)) (fC (.int 2147483647))) (gNm 4)))
  (sRet (fLoc (aCons (fRevLoc (fLcV (iSeq (fVar 2)) (gNm 3) (tVal (fBin (rCmp2 fun i j => decide (j ≤ i)) (fVar 3) (fBin rPow2 (fC (.int 10)) (fC (.int 18))))) (fVar 3) [3])) (aCons (fVar 4) aNil)))))))
def M__law_deal : WF := mir 5 2 B__law_deal
def B__law_any : WS := (sSeq (sWhile (tAnd2 (tVal (fBin rNe2 (fBin rIx2 (fVar 0) (fC (.int 0))) (fLst aNil))) (tVal (fBin rEq2 (fBin rIx2 (fBin rIx2 (fVar 0) (fC (.int 0))) (fUn (fun i => .int (-i)) (fC (.int 1)))) (fC (.int 0))))) (sDrop (fPop (fBin rIx2 (fVar 0) (fC (.int 0))))))
  (sSeq (sIf (tVal (fBin rNe2 (fBin rIx2 (fVar 0) (fC (.int 0))) (fLst aNil))) (sSeq (sAsg (fCall rInt1 (aCons (fPop (fBin rIx2 (fVar 0) (fC (.int 0)))) aNil)) (gNm 2))
  (sSeq (sDrop (fAppend (fBin rIx2 (fVar 0) (fC (.int 0))) (aCons (fBin rDiv2 (fVar 2) (fVar 1)) aNil)))
  (sRet (fBin rMod2 (fVar 2) (fVar 1))))) sNext)
  (sSeq (sSub (fBin rMod2 (fCall rInt1 (aCons (fBin rAdd2 (fBin rMul2 (fBin rIx2 (fVar 0) (fC (.int 1))) (fC (.int 48271))) (fC (.int 83))) aNil)) (fC (.int 2147483647))) (fVar 0) (fC (.int 1)))
  (sRet (fBin rMod2 (fCall rInt1 (aCons (fBin rDiv2 (fBin rIx2 (fVar 0) (fC (.int 1))) (fC (.int 64))) aNil)) (fVar 1))))))
def M__law_any : WF := mir 3 2 B__law_any
def B__law_frac : WS := (sSeq (sPar 2 3 (aCons (fCall rAbs (aCons (fVar 0) aNil)) (aCons (fCall rAbs (aCons (fVar 1) aNil)) aNil)))
  (sSeq (sFor (iRange1 (aCons (fC (.int 6000)) aNil)) (gNm 4) (sSeq (sIf (tVal (fBin rEq2 (fVar 3) (fC (.int 0)))) sBrk sNext)
  (sPar 2 3 (aCons (fVar 3) (aCons (fBin rMod2 (fCall rInt1 (aCons (fVar 2) aNil)) (fVar 3)) aNil)))))
  (sSeq (sAsg (fIf (tVal (fBin (rCmp2 fun i j => decide (j < i)) (fVar 1) (fC (.int 0)))) (fVar 2) (fUn (fun i => .int (-i)) (fVar 2))) (gNm 2))
  (sRet (fTup (aCons (fBin rDiv2 (fVar 0) (fVar 2)) (aCons (fBin rDiv2 (fVar 1) (fVar 2)) aNil)))))))
def M__law_frac : WF := mir 5 2 B__law_frac
def B__law_is_number : WS := (sRet (fAnd (fIsi "int" (fVar 0)) (fAnd (fNot (fIsi "bool" (fVar 0))) (fBin (rCmp2 fun i j => decide (j ≤ i)) (fVar 0) (fC (.int 0))))))
def M__law_is_number : WF := mir 1 1 B__law_is_number
def B_are_ints : WS := (sRet (fAnd (fFn M_is_tuple_of (aCons (fVar 0) (aCons (fVar 1) aNil))) (fCall rAllB (aCons (fLcV (iSeq (fVar 0)) (gNm 2) tTrue (fFn M_is_int (aCons (fVar 2) aNil)) [2]) aNil))))
def M_are_ints : WF := mir 3 2 B_are_ints
def B_are_numbers : WS := (sSeq (sIf (tNot2 (tVal (fIsi "tuple" (fVar 0)))) (sRet (fC (.bool false))) sNext)
  (sSeq (sAsg (fC (.int 0)) (gNm 1))
  (sSeq (sFor (iSeq (fVar 0)) (gNm 2) (sSeq (sIf (tOr2 (tNot2 (tVal (fFn M_is_int (aCons (fVar 2) aNil)))) (tVal (fBin (rCmp2 fun i j => decide (i < j)) (fVar 2) (fVar 1)))) (sRet (fC (.bool false))) sNext)
  (sAsg (fBin rAdd2 (fVar 2) (fC (.int 1))) (gNm 1))))
  (sRet (fC (.bool true))))))
def M_are_numbers : WF := mir 3 1 B_are_numbers
def B_minus : WS := (sRet (fFn M_plus (aCons (fVar 0) (aCons (fFn M_negative (aCons (fVar 1) aNil)) aNil))))
def M_minus : WF := mir 2 2 B_minus
def B_over : WS := (sSeq (sAsg (fVar 1) (gTp 2 (gsCons (gNm 2) (gsCons (gNm 3) gsNil))))
  (sSeq (sIf (tVal (fBin rEq2 (fVar 2) (fC (.int 0)))) (sRaise "InvalidSize" "word" (aCons (fC (.str "bottom")) aNil)) sNext)
  (sSeq (sIf (tVal (fBin (rCmp2 fun i j => decide (i < j)) (fVar 2) (fC (.int 0)))) (sPar 2 3 (aCons (fUn (fun i => .int (-i)) (fVar 2)) (aCons (fUn (fun i => .int (-i)) (fVar 3)) aNil))) sNext)
  (sRet (fFn M_times (aCons (fVar 0) (aCons (fTup (aCons (fVar 3) (aCons (fVar 2) aNil))) aNil)))))))
def M_over : WF := mir 4 2 B_over
def B_half : WS := (sRet (fFn M_fraction (aCons (fBin rIx2 (fVar 0) (fC (.int 0))) (aCons (fBin rMul2 (fC (.int 2)) (fBin rIx2 (fVar 0) (fC (.int 1)))) aNil))))
def M_half : WF := mir 1 1 B_half
def B_total_of : WS := (sSeq (sAsg (fCall rList1 (aCons (fVar 0) aNil)) (gNm 1))
  (sSeq (sIf (tNot2 (tTru (fVar 1))) (sRet (fC (.tuple [(.int 0), (.int 1)]))) sNext)
  (sSeq (sWhile (tVal (fBin (rCmp2 fun i j => decide (j < i)) (fCall rLen (aCons (fVar 1) aNil)) (fC (.int 1)))) (sSeq (sAsg (fSl (fVar 1) (oSome (fBin rMul2 (fBin rDiv2 (fCall rLen (aCons (fVar 1) aNil)) (fC (.int 2))) (fC (.int 2)))) oNone) (gNm 2))
  (sAsg (fBin rAdd2 (fLcV (iZip2 (aCons (fSlL (2) (fVar 1) oNone oNone) (aCons (fSlL (2) (fVar 1) (oSome (fC (.int 1))) oNone) aNil))) (gTp 2 (gsCons (gNm 3) (gsCons (gNm 4) gsNil))) tTrue (fFn M_plus (aCons (fVar 3) (aCons (fVar 4) aNil))) [3, 4]) (fVar 2)) (gNm 1))))
  (sRet (fBin rIx2 (fVar 1) (fC (.int 0)))))))
def M_total_of : WF := mir 5 1 B_total_of
def B_tie_more : WS := (sSeq (sAsg (fFn M_plus (aCons (fDg2I (fDgI (fVar 0) (fVar 1)) (fVar 2) (fC (.tuple [(.int 0), (.int 1)]))) (aCons (fVar 3) aNil))) (gNm 4))
  (sIf (tVal (fBin rEq2 (fVar 4) (fC (.tuple [(.int 0), (.int 1)])))) (sSeq (sDrop (fDp2I (fDgI (fVar 0) (fVar 1)) (fVar 2) (fC .none)))
  (sDrop (fDp2I (fDgI (fVar 0) (fVar 2)) (fVar 1) (fC .none)))) (sSeq (sDsI (fVar 4) (fDgI (fVar 0) (fVar 1)) (fVar 2))
  (sDsI (fVar 4) (fDgI (fVar 0) (fVar 2)) (fVar 1)))))
def M_tie_more : WF := mir 5 4 B_tie_more
def B_pairs_of : WS := (sSeq (sAsg (fDgI (fFn M_ties_by_point (aCons (fVar 0) aNil)) (fVar 1)) (gNm 2))
  (sRet (fCall rTup1 (aCons (fLcV (iSeq (fCall rSortDi (aCons (fVar 2) aNil))) (gNm 3) tTrue (fTup (aCons (fVar 3) (aCons (fDgI (fVar 2) (fVar 3)) aNil))) [3]) aNil))))
def M_pairs_of : WF := mir 4 2 B_pairs_of
def B__law_of : WS := (sRet (fBin rIx2 (fVar 1) (fFn M__law_any (aCons (fVar 0) (aCons (fCall rLen (aCons (fVar 1) aNil)) aNil)))))
def M__law_of : WF := mir 2 2 B__law_of
def B__law_plus : WS := (sRet (fFn M__law_frac (aCons (fBin rAdd2 (fBin rMul2 (fBin rIx2 (fVar 0) (fC (.int 0))) (fBin rIx2 (fVar 1) (fC (.int 1)))) (fBin rMul2 (fBin rIx2 (fVar 1) (fC (.int 0))) (fBin rIx2 (fVar 0) (fC (.int 1))))) (aCons (fBin rMul2 (fBin rIx2 (fVar 0) (fC (.int 1))) (fBin rIx2 (fVar 1) (fC (.int 1)))) aNil))))
def M__law_plus : WF := mir 2 2 B__law_plus
def B__law_less : WS := (sRet (fFn M__law_frac (aCons (fBin rSub2 (fBin rMul2 (fBin rIx2 (fVar 0) (fC (.int 0))) (fBin rIx2 (fVar 1) (fC (.int 1)))) (fBin rMul2 (fBin rIx2 (fVar 1) (fC (.int 0))) (fBin rIx2 (fVar 0) (fC (.int 1))))) (aCons (fBin rMul2 (fBin rIx2 (fVar 0) (fC (.int 1))) (fBin rIx2 (fVar 1) (fC (.int 1)))) aNil))))
def M__law_less : WF := mir 2 2 B__law_less
def B__law_times : WS := (sRet (fFn M__law_frac (aCons (fBin rMul2 (fBin rIx2 (fVar 0) (fC (.int 0))) (fBin rIx2 (fVar 1) (fC (.int 0)))) (aCons (fBin rMul2 (fBin rIx2 (fVar 0) (fC (.int 1))) (fBin rIx2 (fVar 1) (fC (.int 1)))) aNil))))
def M__law_times : WF := mir 2 2 B__law_times
def B__law_is_weight : WS := (sSeq (sIf (tOr2 (tNot2 (tVal (fIsi "tuple" (fVar 0)))) (tVal (fBin rNe2 (fCall rLen (aCons (fVar 0) aNil)) (fC (.int 2))))) (sRet (fC (.bool false))) sNext)
  (sSeq (sFor (iSeq (fVar 0)) (gNm 1) (sIf (tOr2 (tNot2 (tVal (fIsi "int" (fVar 1)))) (tVal (fIsi "bool" (fVar 1)))) (sRet (fC (.bool false))) sNext))
  (sRet (fAnd (fBin (rCmp2 fun i j => decide (j < i)) (fBin rIx2 (fVar 0) (fC (.int 1))) (fC (.int 0))) (fAnd (fBin rNe2 (fBin rIx2 (fVar 0) (fC (.int 0))) (fC (.int 0))) (fBin rEq2 (fFn M__law_frac (aCons (fBin rIx2 (fVar 0) (fC (.int 0))) (aCons (fBin rIx2 (fVar 0) (fC (.int 1))) aNil))) (fVar 0)))))))
def M__law_is_weight : WF := mir 2 1 B__law_is_weight
def B__fault_of : WS := (sSeq (sIf (tNot2 (tVal (fFn M_are_ints (aCons (fVar 0) (aCons (fC (.int 2)) aNil))))) (sRet (fUn (fun i => .int (-i)) (fC (.int 1)))) sNext)
  (sSeq (sAsg (fVar 0) (gTp 2 (gsCons (gNm 1) (gsCons (gNm 2) gsNil))))
  (sSeq (sIf (tVal (fBin (rCmp2 fun i j => decide (i ≤ j)) (fVar 2) (fC (.int 0)))) (sRet (fC (.int 1))) sNext)
  (sSeq (sIf (tVal (fBin rNe2 (fCall rGcd2 (aCons (fVar 1) (aCons (fVar 2) aNil))) (fC (.int 1)))) (sRet (fC (.int 0))) sNext)
  (sRet (fC .none))))))
def M__fault_of : WF := mir 3 1 B__fault_of
def B_drop_point : WS := (sSeq (sAsg (fLcV (iSeq (fCall rSortDi (aCons (fDgI (fVar 0) (fVar 1)) aNil))) (gNm 3) tTrue (fTup (aCons (fVar 3) (aCons (fDgI (fDgI (fVar 0) (fVar 1)) (fVar 3)) aNil))) [3]) (gNm 2))
  (sSeq (sAsg (fFn M_total_of (aCons (fLcV (iSeq (fVar 2)) (gTp 2 (gsCons (gNm 5) (gsCons (gNm 6) gsNil))) tTrue (fVar 6) [5, 6]) aNil)) (gNm 4))
  (sSeq (sIf (tVal (fBin (rCmp2 fun i j => decide (i ≤ j)) (fBin rIx2 (fVar 4) (fC (.int 0))) (fC (.int 0)))) (sRaise "Refused" "word" (aCons (fC (.str "pull")) aNil)) sNext)
  (sSeq (sDdI (fVar 0) (fVar 1))
  (sSeq (sAsg (fLoc aNil) (gNm 7))
  (sSeq (sFor (iEnum1 (aCons (fVar 2) aNil)) (gTp 2 (gsCons (gNm 8) (gsCons (gTp 2 (gsCons (gNm 3) (gsCons (gNm 6) gsNil))) gsNil))) (sSeq (sDdI (fDgI (fVar 0) (fVar 3)) (fVar 1))
  (sSeq (sAsg (fFn M_over (aCons (fVar 6) (aCons (fVar 4) aNil))) (gNm 9))
  (sSeq (sDrop (fAppend (fVar 7) (aCons (fTup (aCons (fVar 3) (aCons (fVar 9) aNil))) aNil)))
  (sFor (iSeq (fSl (fVar 2) oNone (oSome (fVar 8)))) (gTp 2 (gsCons (gNm 10) (gsCons (gNm 11) gsNil))) (sDrop (fFn M_tie_more (aCons (fVar 0) (aCons (fVar 10) (aCons (fVar 3) (aCons (fFn M_times (aCons (fVar 11) (aCons (fVar 9) aNil))) aNil)))))))))))
  (sRet (fCall rTup1 (aCons (fVar 7) aNil)))))))))
def M_drop_point : WF := mir 12 2 B_drop_point
def B_pull_of : WS := (sRet (fFn M_total_of (aCons (fLcV (iSeq (fFn M_pairs_of (aCons (fVar 0) (aCons (fVar 1) aNil)))) (gTp 2 (gsCons (gNm 2) (gsCons (gNm 3) gsNil))) tTrue (fVar 3) [2, 3]) aNil)))
def M_pull_of : WF := mir 4 2 B_pull_of
def B_network_energy : WS := (sSeq (sAsg (fCall rDictP (aCons (fVar 1) aNil)) (gNm 2))
  (sSeq (sAsg (fLcV (iSeq (fBin rIx2 (fVar 0) (fC (.int 1)))) (gTp 3 (gsCons (gNm 4) (gsCons (gNm 5) (gsCons (gNm 6) gsNil)))) tTrue (fTup (aCons (fVar 6) (aCons (fFn M_minus (aCons (fDgI (fVar 2) (fVar 4)) (aCons (fDgI (fVar 2) (fVar 5)) aNil))) aNil))) [4, 5, 6]) (gNm 3))
  (sRet (fFn M_half (aCons (fFn M_total_of (aCons (fLcV (iSeq (fVar 3)) (gTp 2 (gsCons (gNm 6) (gsCons (gNm 7) gsNil))) tTrue (fFn M_times (aCons (fVar 6) (aCons (fFn M_times (aCons (fVar 7) (aCons (fVar 7) aNil))) aNil))) [6, 7]) aNil)) aNil)))))
def M_network_energy : WF := mir 8 2 B_network_energy
def B_outflow : WS := (sSeq (sAsg (fCall rDictP (aCons (fVar 1) aNil)) (gNm 3))
  (sRet (fFn M_total_of (aCons (fLcV (iSeq (fFn M_pairs_of (aCons (fVar 0) (aCons (fVar 2) aNil)))) (gTp 2 (gsCons (gNm 4) (gsCons (gNm 5) gsNil))) tTrue (fFn M_times (aCons (fVar 5) (aCons (fFn M_minus (aCons (fDgI (fVar 3) (fVar 2)) (aCons (fDgI (fVar 3) (fVar 4)) aNil))) aNil))) [4, 5]) aNil))))
def M_outflow : WF := mir 6 3 B_outflow
def B_tied_more : WS := (sSeq (sAsg (fFn M_ties_by_point (aCons (fVar 0) aNil)) (gNm 4))
  (sSeq (sDrop (fFn M_tie_more (aCons (fVar 4) (aCons (fVar 1) (aCons (fVar 2) (aCons (fVar 3) aNil))))))
  (sRet (fFn M_network_in (aCons (fVar 4) aNil)))))
def M_tied_more : WF := mir 5 4 B_tied_more
def B__law_some : WS := (sSeq (sAsg (fBin rSub2 (fFn M__law_any (aCons (fVar 0) (aCons (fBin rAdd2 (fBin rMul2 (fC (.int 2)) (fVar 1)) (fC (.int 1))) aNil))) (fVar 1)) (gNm 2))
  (sSeq (sAsg (fBin rAdd2 (fC (.int 1)) (fFn M__law_any (aCons (fVar 0) (aCons (fFn M__law_of (aCons (fVar 0) (aCons (fLst (aCons (fC (.int 1)) (aCons (fC (.int 3)) (aCons (fC (.int 12)) aNil)))) aNil))) aNil)))) (gNm 3))
  (sSeq (sIf (tVal (fBin rEq2 (fFn M__law_any (aCons (fVar 0) (aCons (fC (.int 30)) aNil))) (fC (.int 0)))) (sRet (fFn M__law_frac (aCons (fBin rAdd2 (fVar 2) (fFn M__law_any (aCons (fVar 0) (aCons (fBin rPow2 (fC (.int 10)) (fC (.int 40))) aNil)))) (aCons (fBin rAdd2 (fVar 3) (fFn M__law_any (aCons (fVar 0) (aCons (fBin rPow2 (fC (.int 10)) (fC (.int 30))) aNil)))) aNil)))) sNext)
  (sRet (fFn M__law_frac (aCons (fVar 2) (aCons (fVar 3) aNil)))))))
def M__law_some : WF := mir 4 2 B__law_some
def B__law_energy : WS := (sSeq (sAsg (fTup (aCons (fC (.int 0)) (aCons (fC (.int 1)) aNil))) (gNm 2))
  (sSeq (sFor (iSeq (fVar 0)) (gTp 3 (gsCons (gNm 3) (gsCons (gNm 4) (gsCons (gNm 5) gsNil)))) (sSeq (sAsg (fFn M__law_less (aCons (fDgI (fVar 1) (fVar 3)) (aCons (fDgI (fVar 1) (fVar 4)) aNil))) (gNm 6))
  (sAsg (fFn M__law_plus (aCons (fVar 2) (aCons (fFn M__law_times (aCons (fVar 5) (aCons (fFn M__law_times (aCons (fVar 6) (aCons (fVar 6) aNil))) aNil))) aNil))) (gNm 2))))
  (sRet (fFn M__law_times (aCons (fTup (aCons (fC (.int 1)) (aCons (fC (.int 2)) aNil))) (aCons (fVar 2) aNil))))))
def M__law_energy : WF := mir 7 2 B__law_energy
def B__law_out : WS := (sSeq (sAsg (fTup (aCons (fC (.int 0)) (aCons (fC (.int 1)) aNil))) (gNm 3))
  (sSeq (sFor (iSeq (fVar 0)) (gTp 3 (gsCons (gNm 4) (gsCons (gNm 5) (gsCons (gNm 6) gsNil)))) (sIf (tOr2 (tVal (fBin rEq2 (fVar 2) (fVar 4))) (tVal (fBin rEq2 (fVar 2) (fVar 5)))) (sAsg (fFn M__law_plus (aCons (fVar 3) (aCons (fFn M__law_times (aCons (fVar 6) (aCons (fFn M__law_less (aCons (fDgI (fVar 1) (fVar 2)) (aCons (fDgI (fVar 1) (fBin rSub2 (fBin rAdd2 (fVar 4) (fVar 5)) (fVar 2))) aNil))) aNil))) aNil))) (gNm 3)) sNext))
  (sRet (fVar 3))))
def M__law_out : WF := mir 7 3 B__law_out
def B__law_turned : WS := (sSeq (sAsg (fVar 1) (gTp 2 (gsCons (gNm 2) (gsCons (gNm 3) gsNil))))
  (sSeq (sAsg (fFn M__law_any (aCons (fVar 0) (aCons (fC (.int 11)) aNil))) (gNm 4))
  (sSeq (sIf (tVal (fBin rEq2 (fVar 4) (fC (.int 0)))) (sRet (fFn M__law_of (aCons (fVar 0) (aCons (fLst (aCons (fC .none) (aCons (fC (.bool true)) (aCons (fC (.int 3)) (aCons (fC (.str "net")) (aCons (fTup aNil) (aCons (fLst aNil) (aCons (fTup (aCons (fVar 2) aNil)) (aCons (fLst (aCons (fVar 2) (aCons (fVar 3) aNil))) (aCons (fTup (aCons (fVar 2) (aCons (fVar 3) (aCons (fTup aNil) aNil)))) (aCons (fTup (aCons (fCall rList1 (aCons (fVar 2) aNil)) (aCons (fVar 3) aNil))) aNil))))))))))) aNil)))) sNext)
  (sSeq (sIf (tVal (fBin rEq2 (fVar 4) (fC (.int 1)))) (sRet (fTup (aCons (fBin rAdd2 (fVar 2) (fTup (aCons (fFn M__law_of (aCons (fVar 0) (aCons (fLst (aCons (fBin rIx2 (fVar 2) (fUn (fun i => .int (-i)) (fC (.int 1)))) (aCons (fBin rSub2 (fBin rIx2 (fVar 2) (fC (.int 0))) (fC (.int 1))) (aCons (fBin rAdd2 (fBin rIx2 (fVar 2) (fUn (fun i => .int (-i)) (fC (.int 1)))) (fC (.int 1))) (aCons (fC (.bool true)) (aCons (fUn (fun i => .int (-i)) (fC (.int 1))) (aCons (fC .none) (aCons (fC (.str "1")) aNil)))))))) aNil))) aNil))) (aCons (fVar 3) aNil)))) sNext)
  (sSeq (sIf (tVal (fBin rEq2 (fVar 3) (fTup aNil))) (sRet (fTup (aCons (fVar 2) (aCons (fTup (aCons (fTup (aCons (fBin rIx2 (fVar 2) (fC (.int 0))) (aCons (fBin rIx2 (fVar 2) (fC (.int 0))) (aCons (fTup (aCons (fC (.int 1)) (aCons (fC (.int 1)) aNil))) aNil)))) aNil)) aNil)))) sNext)
  (sSeq (sAsg (fFn M__law_any (aCons (fVar 0) (aCons (fCall rLen (aCons (fVar 3) aNil)) aNil))) (gNm 5))
  (sSeq (sAsg (fBin rIx2 (fVar 3) (fVar 5)) (gTp 3 (gsCons (gNm 6) (gsCons (gNm 7) (gsCons (gNm 8) gsNil)))))
  (sSeq (sAsg (fLst (aCons (fTup (aCons (fVar 7) (aCons (fVar 6) (aCons (fVar 8) aNil)))) (aCons (fTup (aCons (fVar 6) (aCons (fVar 7) aNil))) (aCons (fTup (aCons (fVar 6) (aCons (fVar 7) (aCons (fVar 8) (aCons (fVar 8) aNil))))) (aCons (fTup (aCons (fVar 6) (aCons (fVar 6) (aCons (fVar 8) aNil)))) (aCons (fLst (aCons (fVar 6) (aCons (fVar 7) (aCons (fVar 8) aNil)))) aNil)))))) (gNm 9))
  (sSeq (sAsg (fBin rAdd2 (fVar 9) (fLst (aCons (fTup (aCons (fVar 6) (aCons (fBin rPow2 (fC (.int 10)) (fC (.int 9))) (aCons (fVar 8) aNil)))) (aCons (fTup (aCons (fVar 6) (aCons (fVar 7) (aCons (fTup (aCons (fC (.int 0)) (aCons (fC (.int 1)) aNil))) aNil)))) (aCons (fTup (aCons (fVar 6) (aCons (fVar 7) (aCons (fBin rIx2 (fVar 8) (fC (.int 0))) aNil)))) (aCons (fTup (aCons (fVar 6) (aCons (fC (.bool true)) (aCons (fVar 8) aNil)))) (aCons (fTup (aCons (fVar 6) (aCons (fVar 7) (aCons (fC .none) aNil)))) aNil))))))) (gNm 9))
  (sSeq (sAsg (fBin rAdd2 (fVar 9) (fLst (aCons (fTup (aCons (fVar 6) (aCons (fVar 7) (aCons (fTup (aCons (fBin rMul2 (fC (.int 2)) (fBin rIx2 (fVar 8) (fC (.int 0)))) (aCons (fBin rMul2 (fC (.int 2)) (fBin rIx2 (fVar 8) (fC (.int 1)))) aNil))) aNil)))) (aCons (fTup (aCons (fVar 6) (aCons (fVar 7) (aCons (fTup (aCons (fBin rIx2 (fVar 8) (fC (.int 0))) (aCons (fUn (fun i => .int (-i)) (fBin rIx2 (fVar 8) (fC (.int 1)))) aNil))) aNil)))) (aCons (fTup (aCons (fVar 6) (aCons (fVar 7) (aCons (fTup (aCons (fC (.bool true)) (aCons (fC (.int 1)) aNil))) aNil)))) aNil))))) (gNm 9))
  (sSeq (sIf (tVal (fBin (rCmp2 fun i j => decide (i < j)) (fVar 4) (fC (.int 9)))) (sRet (fTup (aCons (fVar 2) (aCons (fBin rAdd2 (fBin rAdd2 (fSl (fVar 3) oNone (oSome (fVar 5))) (fTup (aCons (fFn M__law_of (aCons (fVar 0) (aCons (fVar 9) aNil))) aNil))) (fSl (fVar 3) (oSome (fBin rAdd2 (fVar 5) (fC (.int 1)))) oNone)) aNil)))) sNext)
  (sRet (fIf (tVal (fBin rEq2 (fVar 4) (fC (.int 9)))) (fTup (aCons (fVar 2) (aCons (fBin rAdd2 (fVar 3) (fTup (aCons (fBin rIx2 (fVar 3) (fVar 5)) aNil))) aNil))) (fTup (aCons (fVar 2) (aCons (fSlT (-1) (fVar 3) oNone oNone) aNil))))))))))))))))
def M__law_turned : WF := mir 10 2 B__law_turned
def B__law_is_net : WS := (sSeq (sIf (tOr2 (tNot2 (tVal (fIsi "tuple" (fVar 0)))) (tOr2 (tVal (fBin rNe2 (fCall rLen (aCons (fVar 0) aNil)) (fC (.int 2)))) (tOr2 (tNot2 (tVal (fIsi "tuple" (fBin rIx2 (fVar 0) (fC (.int 0)))))) (tNot2 (tVal (fIsi "tuple" (fBin rIx2 (fVar 0) (fC (.int 1))))))))) (sRet (fC (.bool false))) sNext)
  (sSeq (sFor (iRange1 (aCons (fCall rLen (aCons (fBin rIx2 (fVar 0) (fC (.int 0))) aNil)) aNil)) (gNm 1) (sIf (tOr2 (tNot2 (tVal (fFn M__law_is_number (aCons (fBin rIx2 (fBin rIx2 (fVar 0) (fC (.int 0))) (fVar 1)) aNil)))) (tAnd2 (tVal (fBin (rCmp2 fun i j => decide (j < i)) (fVar 1) (fC (.int 0)))) (tVal (fBin (rCmp2 fun i j => decide (i ≤ j)) (fBin rIx2 (fBin rIx2 (fVar 0) (fC (.int 0))) (fVar 1)) (fBin rIx2 (fBin rIx2 (fVar 0) (fC (.int 0))) (fBin rSub2 (fVar 1) (fC (.int 1)))))))) (sRet (fC (.bool false))) sNext))
  (sSeq (sAsg (fTup (aCons (fUn (fun i => .int (-i)) (fC (.int 1))) (aCons (fUn (fun i => .int (-i)) (fC (.int 1))) aNil))) (gNm 2))
  (sSeq (sFor (iSeq (fBin rIx2 (fVar 0) (fC (.int 1)))) (gNm 3) (sSeq (sIf (tOr2 (tNot2 (tVal (fIsi "tuple" (fVar 3)))) (tOr2 (tVal (fBin rNe2 (fCall rLen (aCons (fVar 3) aNil)) (fC (.int 3)))) (tOr2 (tNot2 (tVal (fFn M__law_is_number (aCons (fBin rIx2 (fVar 3) (fC (.int 0))) aNil)))) (tNot2 (tVal (fFn M__law_is_number (aCons (fBin rIx2 (fVar 3) (fC (.int 1))) aNil))))))) (sRet (fC (.bool false))) sNext)
  (sSeq (sIf (tOr2 (tVal (fBin (rCmp2 fun i j => decide (j ≤ i)) (fBin rIx2 (fVar 3) (fC (.int 0))) (fBin rIx2 (fVar 3) (fC (.int 1))))) (tOr2 (tVal (fBin (rInD true) (fBin rIx2 (fVar 3) (fC (.int 0))) (fBin rIx2 (fVar 0) (fC (.int 0))))) (tOr2 (tVal (fBin (rInD true) (fBin rIx2 (fVar 3) (fC (.int 1))) (fBin rIx2 (fVar 0) (fC (.int 0))))) (tNot2 (tVal (fFn M__law_is_weight (aCons (fBin rIx2 (fVar 3) (fC (.int 2))) aNil))))))) (sRet (fC (.bool false))) sNext)
  (sSeq (sIf (tVal (fBin rLeI2 (fTup (aCons (fBin rIx2 (fVar 3) (fC (.int 0))) (aCons (fBin rIx2 (fVar 3) (fC (.int 1))) aNil))) (fVar 2))) (sRet (fC (.bool false))) sNext)
  (sAsg (fTup (aCons (fBin rIx2 (fVar 3) (fC (.int 0))) (aCons (fBin rIx2 (fVar 3) (fC (.int 1))) aNil))) (gNm 2))))))
  (sRet (fC (.bool true)))))))
def M__law_is_net : WF := mir 4 1 B__law_is_net
def B_is_fraction : WS := (sRet (fBin rIsN2 (fFn M__fault_of (aCons (fVar 0) aNil)) (fC .none)))
def M_is_fraction : WF := mir 1 1 B_is_fraction
def B_dropped : WS := (sSeq (sAsg (fFn M_ties_by_point (aCons (fVar 0) aNil)) (gNm 2))
  (sSeq (sDrop (fFn M_drop_point (aCons (fVar 2) (aCons (fVar 1) aNil))))
  (sRet (fFn M_network_in (aCons (fVar 2) aNil)))))
def M_dropped : WF := mir 3 2 B_dropped
def B__law_net : WS := (sSeq (sPar 3 4 (aCons (fLoc aNil) (aCons (fC (.int 0)) aNil)))
  (sSeq (sFor (iRange1 (aCons (fVar 1) aNil)) (gNm 5) (sSeq (sAsg (fBin rAdd2 (fBin rAdd2 (fVar 4) (fFn M__law_any (aCons (fVar 0) (aCons (fFn M__law_of (aCons (fVar 0) (aCons (fLst (aCons (fC (.int 1)) (aCons (fC (.int 1)) (aCons (fC (.int 5)) aNil)))) aNil))) aNil)))) (fIf (tVal (fBin (rCmp2 fun i j => decide (j < i)) (fVar 5) (fC (.int 0)))) (fC (.int 1)) (fC (.int 0)))) (gNm 4))
  (sDrop (fAppend (fVar 3) (aCons (fVar 4) aNil)))))
  (sSeq (sAsg (fLoc aNil) (gNm 6))
  (sSeq (sFor (iRange1 (aCons (fVar 1) aNil)) (gNm 5) (sFor (iRange1 (aCons (fVar 5) aNil)) (gNm 7) (sIf (tVal (fBin (rCmp2 fun i j => decide (j < i)) (fFn M__law_any (aCons (fVar 0) (aCons (fC (.int 3)) aNil))) (fC (.int 0)))) (sSeq (sAsg (fFn M__law_some (aCons (fVar 0) (aCons (fC (.int 9)) aNil))) (gNm 8))
  (sSeq (sAsg (fIf (tOr2 (tTru (fVar 2)) (tVal (fBin (rCmp2 fun i j => decide (j < i)) (fFn M__law_any (aCons (fVar 0) (aCons (fC (.int 3)) aNil))) (fC (.int 0))))) (fTup (aCons (fCall rAbs (aCons (fBin rIx2 (fVar 8) (fC (.int 0))) aNil)) (aCons (fBin rIx2 (fVar 8) (fC (.int 1))) aNil))) (fVar 8)) (gNm 8))
  (sDrop (fAppend (fVar 6) (aCons (fTup (aCons (fBin rIx2 (fVar 3) (fVar 7)) (aCons (fBin rIx2 (fVar 3) (fVar 5)) (aCons (fIf (tVal (fBin rNe2 (fBin rIx2 (fVar 8) (fC (.int 0))) (fC (.int 0)))) (fVar 8) (fTup (aCons (fC (.int 1)) (aCons (fC (.int 1)) aNil)))) aNil)))) aNil))))) sNext)))
  (sRet (fTup (aCons (fCall rTup1 (aCons (fVar 3) aNil)) (aCons (fCall rTup1 (aCons (fCall rSortD (aCons (fVar 6) aNil)) aNil)) aNil))))))))
def M__law_net : WF := mir 9 3 B__law_net
def B__law_sums : WS := (sSeq (sAsg (fVar 1) (gTp 2 (gsCons (gNm 2) (gsCons (gNm 3) gsNil))))
  (sSeq (sAsg (fCall rTup1K (aCons (fLcV (iSeq (fVar 2)) (gNm 5) tTrue (fTup (aCons (fVar 5) (aCons (fFn M__law_some (aCons (fVar 0) (aCons (fC (.int 20)) aNil))) aNil))) [5]) aNil)) (gNm 4))
  (sSeq (sAsg (fCall rDictP (aCons (fVar 4) aNil)) (gNm 6))
  (sSeq (sIf (tVal (fBin rNe2 (fCall rReprW (aCons (fFnK [0, 1] 2 M_network_energy (aCons (fVar 1) (aCons (fVar 4) aNil))) aNil)) (fCall rReprW (aCons (fFn M__law_energy (aCons (fVar 3) (aCons (fVar 6) aNil))) aNil)))) (sRet (fC (.bool false))) sNext)
  (sSeq (sFor (iSeq (fVar 2)) (gNm 5) (sSeq (sAsg (fCall rSortD (aCons (fLcV (iSeq (fVar 3)) (gNm 8) (tVal (fBin rInT2 (fVar 5) (fSl (fVar 8) oNone (oSome (fC (.int 2)))))) (fTup (aCons (fBin rSub2 (fBin rAdd2 (fBin rIx2 (fVar 8) (fC (.int 0))) (fBin rIx2 (fVar 8) (fC (.int 1)))) (fVar 5)) (aCons (fBin rIx2 (fVar 8) (fC (.int 2))) aNil))) [8]) aNil)) (gNm 7))
  (sSeq (sAsg (fTup (aCons (fC (.int 0)) (aCons (fC (.int 1)) aNil))) (gNm 9))
  (sSeq (sFor (iSeq (fVar 7)) (gTp 2 (gsCons (gNm 10) (gsCons (gNm 11) gsNil))) (sAsg (fFn M__law_plus (aCons (fVar 9) (aCons (fVar 11) aNil))) (gNm 9)))
  (sSeq (sIf (tVal (fBin rNe2 (fCall rRepr (aCons (fLst (aCons (fFnK [0, 1] 2 M_pairs_of (aCons (fVar 1) (aCons (fVar 5) aNil))) (aCons (fFnK [1, 0] 2 M_pull_of (aCons (fVar 5) (aCons (fVar 1) aNil))) aNil))) aNil)) (fCall rRepr (aCons (fLst (aCons (fCall rTup1 (aCons (fVar 7) aNil)) (aCons (fVar 9) aNil))) aNil)))) (sRet (fC (.bool false))) sNext)
  (sIf (tVal (fBin rNe2 (fCall rReprW (aCons (fFnK [1, 0, 2] 3 M_outflow (aCons (fVar 4) (aCons (fVar 1) (aCons (fVar 5) aNil)))) aNil)) (fCall rReprW (aCons (fFn M__law_out (aCons (fVar 3) (aCons (fVar 6) (aCons (fVar 5) aNil)))) aNil)))) (sRet (fC (.bool false))) sNext))))))
  (sRet (fC (.bool true))))))))
def M__law_sums : WF := mir 12 2 B__law_sums
def B__law_more : WS := (sSeq (sAsg (fVar 1) (gTp 2 (gsCons (gNm 2) (gsCons (gNm 3) gsNil))))
  (sSeq (sIf (tVal (fBin (rCmp2 fun i j => decide (i < j)) (fCall rLen (aCons (fVar 2) aNil)) (fC (.int 2)))) (sRet (fC (.bool true))) sNext)
  (sSeq (sAsg (fFn M__law_any (aCons (fVar 0) (aCons (fBin rSub2 (fCall rLen (aCons (fVar 2) aNil)) (fC (.int 1))) aNil))) (gNm 4))
  (sSeq (sAsg (fTup (aCons (fBin rIx2 (fVar 2) (fVar 4)) (aCons (fBin rIx2 (fVar 2) (fBin rAdd2 (fBin rAdd2 (fVar 4) (fC (.int 1))) (fFn M__law_any (aCons (fVar 0) (aCons (fBin rSub2 (fBin rSub2 (fCall rLen (aCons (fVar 2) aNil)) (fC (.int 1))) (fVar 4)) aNil))))) aNil))) (gTp 2 (gsCons (gNm 5) (gsCons (gNm 6) gsNil))))
  (sSeq (sAsg (fBin rAdd2 (fLcV (iSeq (fVar 3)) (gNm 8) (tVal (fBin rEq2 (fSl (fVar 8) oNone (oSome (fC (.int 2)))) (fTup (aCons (fVar 5) (aCons (fVar 6) aNil))))) (fBin rIx2 (fVar 8) (fC (.int 2))) [8]) (fLst (aCons (fTup (aCons (fC (.int 0)) (aCons (fC (.int 1)) aNil))) aNil))) (gNm 7))
  (sSeq (sAsg (fFn M__law_of (aCons (fVar 0) (aCons (fLst (aCons (fFn M__law_some (aCons (fVar 0) (aCons (fC (.int 9)) aNil))) (aCons (fFn M__law_less (aCons (fTup (aCons (fC (.int 0)) (aCons (fC (.int 1)) aNil))) (aCons (fBin rIx2 (fVar 7) (fC (.int 0))) aNil))) aNil))) aNil))) (gNm 9))
  (sSeq (sAsg (fLcV (iSeq (fVar 3)) (gNm 8) (tVal (fBin rNe2 (fSl (fVar 8) oNone (oSome (fC (.int 2)))) (fTup (aCons (fVar 5) (aCons (fVar 6) aNil))))) (fVar 8) [8]) (gNm 10))
  (sSeq (sAsg (fFn M__law_plus (aCons (fBin rIx2 (fVar 7) (fC (.int 0))) (aCons (fVar 9) aNil))) (gNm 11))
  (sSeq (sAsg (fTup (aCons (fVar 2) (aCons (fCall rTup1 (aCons (fCall rSortD (aCons (fBin rAdd2 (fVar 10) (fIf (tVal (fBin rNe2 (fBin rIx2 (fVar 11) (fC (.int 0))) (fC (.int 0)))) (fLst (aCons (fTup (aCons (fVar 5) (aCons (fVar 6) (aCons (fVar 11) aNil)))) aNil)) (fLst aNil))) aNil)) aNil)) aNil))) (gNm 12))
  (sRet (fBin rEq2 (fCall rReprW (aCons (fFnK [0, 1, 3, 2] 4 M_tied_more (aCons (fVar 1) (aCons (fVar 5) (aCons (fVar 9) (aCons (fVar 6) aNil))))) aNil)) (fCall rReprW (aCons (fVar 12) aNil)))))))))))))
def M__law_more : WF := mir 13 2 B__law_more
def B__is_tie : WS := (sSeq (sIf (tNot2 (tVal (fFn M_is_tuple_of (aCons (fVar 1) (aCons (fC (.int 3)) aNil))))) (sRet (fC (.bool false))) sNext)
  (sSeq (sAsg (fVar 1) (gTp 3 (gsCons (gNm 2) (gsCons (gNm 3) (gsCons (gNm 4) gsNil)))))
  (sSeq (sIf (tNot2 (tAnd2 (tVal (fFn M_is_int (aCons (fVar 2) aNil))) (tAnd2 (tVal (fFn M_is_int (aCons (fVar 3) aNil))) (tVal (fFn M_is_fraction (aCons (fVar 4) aNil)))))) (sRet (fC (.bool false))) sNext)
  (sRet (fAnd (fBin (rCmp2 fun i j => decide (i < j)) (fVar 2) (fVar 3)) (fAnd (fBin (rInD false) (fVar 2) (fVar 0)) (fAnd (fBin (rInD false) (fVar 3) (fVar 0)) (fBin rNe2 (fVar 4) (fC (.tuple [(.int 0), (.int 1)]))))))))))
def M__is_tie : WF := mir 5 2 B__is_tie
def B_is_network : WS := (sSeq (sIf (tNot2 (tAnd2 (tVal (fFn M_is_tuple_of (aCons (fVar 0) (aCons (fC (.int 2)) aNil)))) (tAnd2 (tVal (fFn M_are_numbers (aCons (fBin rIx2 (fVar 0) (fC (.int 0))) aNil))) (tVal (fIsi "tuple" (fBin rIx2 (fVar 0) (fC (.int 1)))))))) (sRet (fC (.bool false))) sNext)
  (sSeq (sAsg (fVar 0) (gTp 2 (gsCons (gNm 1) (gsCons (gNm 2) gsNil))))
  (sSeq (sAsg (fTup (aCons (fUn (fun i => .int (-i)) (fC (.int 1))) (aCons (fUn (fun i => .int (-i)) (fC (.int 1))) aNil))) (gNm 3))
  (sSeq (sFor (iSeq (fVar 2)) (gNm 4) (sSeq (sIf (tOr2 (tNot2 (tVal (fFn M__is_tie (aCons (fVar 1) (aCons (fVar 4) aNil))))) (tVal (fBin rLeI2 (fSl (fVar 4) oNone (oSome (fC (.int 2)))) (fVar 3)))) (sRet (fC (.bool false))) sNext)
  (sAsg (fSl (fVar 4) oNone (oSome (fC (.int 2)))) (gNm 3))))
  (sRet (fC (.bool true)))))))
def M_is_network : WF := mir 5 1 B_is_network
def B_law : WS := (sSeq (sAsg (fFn M__law_deal (aCons (fVar 0) (aCons (fC (.int 47)) aNil))) (gNm 1))
  (sSeq (sFor (iRange1 (aCons (fC (.int 3)) aNil)) (gNm 2) (sSeq (sAsg (fFn M__law_net (aCons (fVar 1) (aCons (fBin rAdd2 (fC (.int 1)) (fFn M__law_any (aCons (fVar 1) (aCons (fC (.int 6)) aNil)))) (aCons (fC (.bool false)) aNil)))) (gNm 3))
  (sSeq (sIf (tOr2 (tVal (fBin rNotB2 (fFn M_is_network (aCons (fVar 3) aNil)) (fC (.bool true)))) (tOr2 (tNot2 (tVal (fFn M__law_sums (aCons (fVar 1) (aCons (fVar 3) aNil))))) (tNot2 (tVal (fFn M__law_more (aCons (fVar 1) (aCons (fVar 3) aNil))))))) (sRet (fC (.bool false))) sNext)
  (sFor (iRange1 (aCons (fC (.int 3)) aNil)) (gNm 4) (sSeq (sAsg (fFn M__law_turned (aCons (fVar 1) (aCons (fVar 3) aNil))) (gNm 5))
  (sIf (tVal (fBin rNe2 (fCall rRepr (aCons (fFnK [0] 1 M_is_network (aCons (fVar 5) aNil)) aNil)) (fCall rRepr (aCons (fFn M__law_is_net (aCons (fVar 5) aNil)) aNil)))) (sRet (fC (.bool false))) sNext))))))
  (sSeq (sAsg (fTup (aCons (fTup (aCons (fC (.int 3)) (aCons (fC (.int 5)) (aCons (fC (.int 9)) aNil)))) (aCons (fTup (aCons (fTup (aCons (fC (.int 3)) (aCons (fC (.int 5)) (aCons (fTup (aCons (fC (.int 2)) (aCons (fC (.int 1)) aNil))) aNil)))) aNil)) aNil))) (gNm 6))
  (sRet (fAnd (fBin rEq2 (fCall rReprW (aCons (fFn M_dropped (aCons (fVar 6) (aCons (fC (.int 3)) aNil))) aNil)) (fCall rReprW (aCons (fTup (aCons (fTup (aCons (fC (.int 5)) (aCons (fC (.int 9)) aNil))) (aCons (fTup aNil) aNil))) aNil))) (fBin rEq2 (fCall rReprW (aCons (fFn M_network_energy (aCons (fTup (aCons (fTup (aCons (fC (.int 4)) aNil)) (aCons (fTup aNil) aNil))) (aCons (fTupK (aCons (fTup (aCons (fC (.int 4)) (aCons (fTup (aCons (fC (.int 1)) (aCons (fC (.int 2)) aNil))) aNil))) aNil)) aNil))) aNil)) (fCall rReprW (aCons (fTup (aCons (fC (.int 0)) (aCons (fC (.int 1)) aNil))) aNil))))))))
def M_law : WF := mir 7 1 B_law
end LW
set_option Elab.async false
set_option linter.all false
set_option maxRecDepth 100000
set_option maxHeartbeats 8000000
namespace LW
open PySem PySem.Spec PyProof.Rows L2 V2
open PySem.W (Frag)
def top (i : Nat) : Stmt := PySem.Challenge.pw_leastfield_k47_networks.main.body.getD i (.Pass ⟨0, 0, 0, 0⟩)
abbrev s_is_int : Stmt := top 6
abbrev s_is_tuple_of : Stmt := top 7
abbrev s_are_ints : Stmt := top 8
abbrev s_are_numbers : Stmt := top 9
abbrev s__fault_of : Stmt := top 12
abbrev s_is_fraction : Stmt := top 13
abbrev s_fraction : Stmt := top 14
abbrev s_plus : Stmt := top 15
abbrev s_minus : Stmt := top 16
abbrev s_times : Stmt := top 17
abbrev s_over : Stmt := top 18
abbrev s_negative : Stmt := top 19
abbrev s_half : Stmt := top 20
abbrev s_total_of : Stmt := top 21
abbrev s_ties_by_point : Stmt := top 23
abbrev s_network_in : Stmt := top 24
abbrev s_tie_more : Stmt := top 25
abbrev s_drop_point : Stmt := top 26
abbrev s__is_tie : Stmt := top 28
abbrev s_is_network : Stmt := top 29
abbrev s_pairs_of : Stmt := top 30
abbrev s_pull_of : Stmt := top 31
abbrev s_network_energy : Stmt := top 32
abbrev s_outflow : Stmt := top 33
abbrev s_tied_more : Stmt := top 34
abbrev s_dropped : Stmt := top 35
abbrev s__law_deal : Stmt := top 37
abbrev s__law_any : Stmt := top 38
abbrev s__law_of : Stmt := top 39
abbrev s__law_frac : Stmt := top 40
abbrev s__law_plus : Stmt := top 41
abbrev s__law_less : Stmt := top 42
abbrev s__law_times : Stmt := top 43
abbrev s__law_some : Stmt := top 44
abbrev s__law_energy : Stmt := top 45
abbrev s__law_out : Stmt := top 46
abbrev s__law_net : Stmt := top 47
abbrev s__law_turned : Stmt := top 48
abbrev s__law_is_number : Stmt := top 49
abbrev s__law_is_weight : Stmt := top 50
abbrev s__law_is_net : Stmt := top 51
abbrev s__law_sums : Stmt := top 52
abbrev s__law_more : Stmt := top 53
abbrev s_law : Stmt := top 54
structure Ad where
  a_is_int : Addr
  fd_is_int : FuncData
  a_is_tuple_of : Addr
  fd_is_tuple_of : FuncData
  a_are_ints : Addr
  fd_are_ints : FuncData
  a_are_numbers : Addr
  fd_are_numbers : FuncData
  a__fault_of : Addr
  fd__fault_of : FuncData
  a_is_fraction : Addr
  fd_is_fraction : FuncData
  a_fraction : Addr
  fd_fraction : FuncData
  a_plus : Addr
  fd_plus : FuncData
  a_minus : Addr
  fd_minus : FuncData
  a_times : Addr
  fd_times : FuncData
  a_over : Addr
  fd_over : FuncData
  a_negative : Addr
  fd_negative : FuncData
  a_half : Addr
  fd_half : FuncData
  a_total_of : Addr
  fd_total_of : FuncData
  a_ties_by_point : Addr
  fd_ties_by_point : FuncData
  a_network_in : Addr
  fd_network_in : FuncData
  a_tie_more : Addr
  fd_tie_more : FuncData
  a_drop_point : Addr
  fd_drop_point : FuncData
  a__is_tie : Addr
  fd__is_tie : FuncData
  a_is_network : Addr
  fd_is_network : FuncData
  a_pairs_of : Addr
  fd_pairs_of : FuncData
  a_pull_of : Addr
  fd_pull_of : FuncData
  a_network_energy : Addr
  fd_network_energy : FuncData
  a_outflow : Addr
  fd_outflow : FuncData
  a_tied_more : Addr
  fd_tied_more : FuncData
  a_dropped : Addr
  fd_dropped : FuncData
  a__law_deal : Addr
  fd__law_deal : FuncData
  a__law_any : Addr
  fd__law_any : FuncData
  a__law_of : Addr
  fd__law_of : FuncData
  a__law_frac : Addr
  fd__law_frac : FuncData
  a__law_plus : Addr
  fd__law_plus : FuncData
  a__law_less : Addr
  fd__law_less : FuncData
  a__law_times : Addr
  fd__law_times : FuncData
  a__law_some : Addr
  fd__law_some : FuncData
  a__law_energy : Addr
  fd__law_energy : FuncData
  a__law_out : Addr
  fd__law_out : FuncData
  a__law_net : Addr
  fd__law_net : FuncData
  a__law_turned : Addr
  fd__law_turned : FuncData
  a__law_is_number : Addr
  fd__law_is_number : FuncData
  a__law_is_weight : Addr
  fd__law_is_weight : FuncData
  a__law_is_net : Addr
  fd__law_is_net : FuncData
  a__law_sums : Addr
  fd__law_sums : FuncData
  a__law_more : Addr
  fd__law_more : FuncData
  a_law : Addr
  fd_law : FuncData
  c_InvalidSize : Addr
  c_Refused : Addr
  i_InvalidSize : Addr
  i_Refused : Addr
  k_ZERO : Addr
structure Txt (K : Frag) (mg : Str → Option Value) (z : Ad) : Prop where
  d_is_int : DefAt K mg "is_int" s_is_int z.a_is_int z.fd_is_int
  b_is_int : Binds K z.fd_is_int ["value"] []
  d_is_tuple_of : DefAt K mg "is_tuple_of" s_is_tuple_of z.a_is_tuple_of z.fd_is_tuple_of
  b_is_tuple_of : Binds K z.fd_is_tuple_of ["value", "many"] []
  d_are_ints : DefAt K mg "are_ints" s_are_ints z.a_are_ints z.fd_are_ints
  b_are_ints : Binds K z.fd_are_ints ["value", "many"] []
  d_are_numbers : DefAt K mg "are_numbers" s_are_numbers z.a_are_numbers z.fd_are_numbers
  b_are_numbers : Binds K z.fd_are_numbers ["value"] []
  d__fault_of : DefAt K mg "_fault_of" s__fault_of z.a__fault_of z.fd__fault_of
  b__fault_of : Binds K z.fd__fault_of ["value"] []
  d_is_fraction : DefAt K mg "is_fraction" s_is_fraction z.a_is_fraction z.fd_is_fraction
  b_is_fraction : Binds K z.fd_is_fraction ["value"] []
  d_fraction : DefAt K mg "fraction" s_fraction z.a_fraction z.fd_fraction
  b_fraction : Binds K z.fd_fraction ["top", "bottom"] []
  d_plus : DefAt K mg "plus" s_plus z.a_plus z.fd_plus
  b_plus : Binds K z.fd_plus ["one", "other"] []
  d_minus : DefAt K mg "minus" s_minus z.a_minus z.fd_minus
  b_minus : Binds K z.fd_minus ["one", "other"] []
  d_times : DefAt K mg "times" s_times z.a_times z.fd_times
  b_times : Binds K z.fd_times ["one", "other"] []
  d_over : DefAt K mg "over" s_over z.a_over z.fd_over
  b_over : Binds K z.fd_over ["one", "other"] []
  d_negative : DefAt K mg "negative" s_negative z.a_negative z.fd_negative
  b_negative : Binds K z.fd_negative ["one"] []
  d_half : DefAt K mg "half" s_half z.a_half z.fd_half
  b_half : Binds K z.fd_half ["one"] []
  d_total_of : DefAt K mg "total_of" s_total_of z.a_total_of z.fd_total_of
  b_total_of : Binds K z.fd_total_of ["some"] []
  d_ties_by_point : DefAt K mg "ties_by_point" s_ties_by_point z.a_ties_by_point z.fd_ties_by_point
  b_ties_by_point : Binds K z.fd_ties_by_point ["network"] []
  d_network_in : DefAt K mg "network_in" s_network_in z.a_network_in z.fd_network_in
  b_network_in : Binds K z.fd_network_in ["table"] []
  d_tie_more : DefAt K mg "tie_more" s_tie_more z.a_tie_more z.fd_tie_more
  b_tie_more : Binds K z.fd_tie_more ["table", "one", "other", "more"] []
  d_drop_point : DefAt K mg "drop_point" s_drop_point z.a_drop_point z.fd_drop_point
  b_drop_point : Binds K z.fd_drop_point ["table", "point"] []
  d__is_tie : DefAt K mg "_is_tie" s__is_tie z.a__is_tie z.fd__is_tie
  b__is_tie : Binds K z.fd__is_tie ["points", "value"] []
  d_is_network : DefAt K mg "is_network" s_is_network z.a_is_network z.fd_is_network
  b_is_network : Binds K z.fd_is_network ["value"] []
  k_is_network_value : KwB K z.fd_is_network ["value"] ["value"] [0]
  d_pairs_of : DefAt K mg "pairs_of" s_pairs_of z.a_pairs_of z.fd_pairs_of
  b_pairs_of : Binds K z.fd_pairs_of ["network", "point"] []
  k_pairs_of_network_point : KwB K z.fd_pairs_of ["network", "point"] ["network", "point"] [0, 1]
  d_pull_of : DefAt K mg "pull_of" s_pull_of z.a_pull_of z.fd_pull_of
  b_pull_of : Binds K z.fd_pull_of ["network", "point"] []
  k_pull_of_point_network : KwB K z.fd_pull_of ["network", "point"] ["point", "network"] [1, 0]
  d_network_energy : DefAt K mg "network_energy" s_network_energy z.a_network_energy z.fd_network_energy
  b_network_energy : Binds K z.fd_network_energy ["network", "worths"] []
  k_network_energy_network_worths : KwB K z.fd_network_energy ["network", "worths"] ["network", "worths"] [0, 1]
  d_outflow : DefAt K mg "outflow" s_outflow z.a_outflow z.fd_outflow
  b_outflow : Binds K z.fd_outflow ["network", "worths", "point"] []
  k_outflow_worths_network_point : KwB K z.fd_outflow ["network", "worths", "point"] ["worths", "network", "point"] [1, 0, 2]
  d_tied_more : DefAt K mg "tied_more" s_tied_more z.a_tied_more z.fd_tied_more
  b_tied_more : Binds K z.fd_tied_more ["network", "low", "high", "more"] []
  k_tied_more_network_low_more_high : KwB K z.fd_tied_more ["network", "low", "high", "more"] ["network", "low", "more", "high"] [0, 1, 3, 2]
  d_dropped : DefAt K mg "dropped" s_dropped z.a_dropped z.fd_dropped
  b_dropped : Binds K z.fd_dropped ["network", "point"] []
  d__law_deal : DefAt K mg "_law_deal" s__law_deal z.a__law_deal z.fd__law_deal
  b__law_deal : Binds K z.fd__law_deal ["script", "base"] []
  d__law_any : DefAt K mg "_law_any" s__law_any z.a__law_any z.fd__law_any
  b__law_any : Binds K z.fd__law_any ["deal", "bound"] []
  d__law_of : DefAt K mg "_law_of" s__law_of z.a__law_of z.fd__law_of
  b__law_of : Binds K z.fd__law_of ["deal", "some"] []
  d__law_frac : DefAt K mg "_law_frac" s__law_frac z.a__law_frac z.fd__law_frac
  b__law_frac : Binds K z.fd__law_frac ["top", "bottom"] []
  d__law_plus : DefAt K mg "_law_plus" s__law_plus z.a__law_plus z.fd__law_plus
  b__law_plus : Binds K z.fd__law_plus ["one", "other"] []
  d__law_less : DefAt K mg "_law_less" s__law_less z.a__law_less z.fd__law_less
  b__law_less : Binds K z.fd__law_less ["one", "other"] []
  d__law_times : DefAt K mg "_law_times" s__law_times z.a__law_times z.fd__law_times
  b__law_times : Binds K z.fd__law_times ["one", "other"] []
  d__law_some : DefAt K mg "_law_some" s__law_some z.a__law_some z.fd__law_some
  b__law_some : Binds K z.fd__law_some ["deal", "size"] []
  d__law_energy : DefAt K mg "_law_energy" s__law_energy z.a__law_energy z.fd__law_energy
  b__law_energy : Binds K z.fd__law_energy ["ties", "known"] []
  d__law_out : DefAt K mg "_law_out" s__law_out z.a__law_out z.fd__law_out
  b__law_out : Binds K z.fd__law_out ["ties", "known", "point"] []
  d__law_net : DefAt K mg "_law_net" s__law_net z.a__law_net z.fd__law_net
  b__law_net : Binds K z.fd__law_net ["deal", "many", "is_strict"] []
  d__law_turned : DefAt K mg "_law_turned" s__law_turned z.a__law_turned z.fd__law_turned
  b__law_turned : Binds K z.fd__law_turned ["deal", "network"] []
  d__law_is_number : DefAt K mg "_law_is_number" s__law_is_number z.a__law_is_number z.fd__law_is_number
  b__law_is_number : Binds K z.fd__law_is_number ["value"] []
  d__law_is_weight : DefAt K mg "_law_is_weight" s__law_is_weight z.a__law_is_weight z.fd__law_is_weight
  b__law_is_weight : Binds K z.fd__law_is_weight ["value"] []
  d__law_is_net : DefAt K mg "_law_is_net" s__law_is_net z.a__law_is_net z.fd__law_is_net
  b__law_is_net : Binds K z.fd__law_is_net ["value"] []
  d__law_sums : DefAt K mg "_law_sums" s__law_sums z.a__law_sums z.fd__law_sums
  b__law_sums : Binds K z.fd__law_sums ["deal", "network"] []
  d__law_more : DefAt K mg "_law_more" s__law_more z.a__law_more z.fd__law_more
  b__law_more : Binds K z.fd__law_more ["deal", "network"] []
  d_law : DefAt K mg "law" s_law z.a_law z.fd_law
  b_law : Binds K z.fd_law ["script"] []
  n_abs : mg "abs" = none
  n_all : mg "all" = none
  n_bool : mg "bool" = none
  n_dict : mg "dict" = none
  n_enumerate : mg "enumerate" = none
  m_gcd : mg "gcd" = some (.builtin "math.gcd")
  n_int : mg "int" = none
  n_isinstance : mg "isinstance" = none
  n_len : mg "len" = none
  n_list : mg "list" = none
  n_range : mg "range" = none
  n_repr : mg "repr" = none
  n_sorted : mg "sorted" = none
  n_tuple : mg "tuple" = none
  n_zip : mg "zip" = none
  g_InvalidSize : mg "InvalidSize" = some (.ref z.c_InvalidSize)
  g_Refused : mg "Refused" = some (.ref z.c_Refused)
  x_InvalidSize : XOwn K mg "InvalidSize" z.c_InvalidSize z.i_InvalidSize "word"
  x_Refused : XOwn K mg "Refused" z.c_Refused z.i_Refused "word"
  m_ZERO : mg "ZERO" = some (.ref z.k_ZERO)
  c_ZERO : ∀ as H, Dv K as H (.ref z.k_ZERO) (.tuple [(.int 0), (.int 1)])
section
variable {P : Program} {w : World} {K : Frag} {mg : Str → Option Value} {base : Heap} {z : Ad}
theorem sc_is_int : FnScope ["value"] ["value"] (defScope s_is_int) := ⟨rfl, rfl, rfl, by decide +kernel, rfl, by decide +kernel, by decide +kernel⟩
theorem g_is_int (T : Txt K mg z) (nd : base.NoDigits) : FnG P w K mg base 1 z.a_is_int z.fd_is_int ["value"] M_is_int := by
  refine fnG_of (N := ["value"]) T.d_is_int.F sc_is_int fun cdv A outer s H E hr hgu => ?_
  have hu := hr.units
  exact (SB.one (SS.ret (SE.and (SE.isi (p2 := ⟨0, 0, 0, 0⟩) (T := "int") (by rfl) T.n_isinstance (by rfl) T.n_int (by decide +kernel) (SE.var 0)) (SE.one (SE.not (SE.isi (p2 := ⟨0, 0, 0, 0⟩) (T := "bool") (by rfl) T.n_isinstance (by rfl) T.n_bool (by decide +kernel) (SE.var 0)))))))
theorem sc_is_tuple_of : FnScope ["value", "many"] ["value", "many"] (defScope s_is_tuple_of) := ⟨rfl, rfl, rfl, by decide +kernel, rfl, by decide +kernel, by decide +kernel⟩
theorem g_is_tuple_of (T : Txt K mg z) (nd : base.NoDigits) : FnG P w K mg base 1 z.a_is_tuple_of z.fd_is_tuple_of ["value", "many"] M_is_tuple_of := by
  refine fnG_of (N := ["value", "many"]) T.d_is_tuple_of.F sc_is_tuple_of fun cdv A outer s H E hr hgu => ?_
  have hu := hr.units
  exact (SB.one (SS.ret (SE.and (SE.isi (p2 := ⟨0, 0, 0, 0⟩) (T := "tuple") (by rfl) T.n_isinstance (by rfl) T.n_tuple (by decide +kernel) (SE.var 0)) (SE.one (SE.eq hu (SE.len (by rfl) T.n_len (SA.cons (SE.var 0) SA.nil)) (SE.var 1))))))
theorem sc_fraction : FnScope ["top", "bottom", "common"] ["top", "bottom"] (defScope s_fraction) := ⟨rfl, rfl, rfl, by decide +kernel, rfl, by decide +kernel, by decide +kernel⟩
theorem g_fraction (T : Txt K mg z) (nd : base.NoDigits) : FnG P w K mg base 1 z.a_fraction z.fd_fraction ["top", "bottom"] M_fraction := by
  refine fnG_of (N := ["top", "bottom", "common"]) T.d_fraction.F sc_fraction fun cdv A outer s H E hr hgu => ?_
  have hu := hr.units
  exact (SB.cons (SS.ifS (ST.eq hu (SE.var 1) SE.int) (SB.one (SS.raise (by rfl) T.x_InvalidSize hr tkD (SA.cons SE.str SA.nil) (by rfl))) SB.nil)
    (SB.cons (SS.set 2 sc_fraction.nd (by rfl) (Or.inl (by rfl)) (SE.gcd (by rfl) T.m_gcd (SA.cons (SE.var 0) (SA.cons (SE.var 1) SA.nil))))
    (SB.cons (SS.ifS (ST.lt (SE.var 1) SE.int) (SB.one (SS.set 2 sc_fraction.nd (by rfl) (Or.inl (by rfl)) (SE.neg (SE.var 2)))) SB.nil)
    (SB.one (SS.ret (SE.tup (SA.cons (SE.div (SE.var 0) (SE.var 2)) (SA.cons (SE.div (SE.var 1) (SE.var 2)) SA.nil))))))))
theorem sc_plus : FnScope ["one", "other", "top", "bottom", "more", "under", "common", "rest", "total", "left"] ["one", "other"] (defScope s_plus) := ⟨rfl, rfl, rfl, by decide +kernel, rfl, by decide +kernel, by decide +kernel⟩
theorem g_plus (T : Txt K mg z) (nd : base.NoDigits) : FnG P w K mg base 1 z.a_plus z.fd_plus ["one", "other"] M_plus := by
  refine fnG_of (N := ["one", "other", "top", "bottom", "more", "under", "common", "rest", "total", "left"]) T.d_plus.F sc_plus fun cdv A outer s H E hr hgu => ?_
  have hu := hr.units
  exact (SB.cons (SS.asg (SE.var 0) (SG.tup (by rfl) (SGs.cons (SG.name 2 sc_plus.nd (by rfl) (Or.inl (by rfl))) (SGs.cons (SG.name 3 sc_plus.nd (by rfl) (Or.inl (by rfl))) SGs.nil))))
    (SB.cons (SS.asg (SE.var 1) (SG.tup (by rfl) (SGs.cons (SG.name 4 sc_plus.nd (by rfl) (Or.inl (by rfl))) (SGs.cons (SG.name 5 sc_plus.nd (by rfl) (Or.inl (by rfl))) SGs.nil))))
    (SB.cons (SS.set 6 sc_plus.nd (by rfl) (Or.inl (by rfl)) (SE.gcd (by rfl) T.m_gcd (SA.cons (SE.var 3) (SA.cons (SE.var 5) SA.nil))))
    (SB.cons (SS.set 7 sc_plus.nd (by rfl) (Or.inl (by rfl)) (SE.div (SE.var 3) (SE.var 6)))
    (SB.cons (SS.set 8 sc_plus.nd (by rfl) (Or.inl (by rfl)) (SE.add (SE.mul (SE.var 2) (SE.div (SE.var 5) (SE.var 6))) (SE.mul (SE.var 4) (SE.var 7))))
    (SB.cons (SS.set 9 sc_plus.nd (by rfl) (Or.inl (by rfl)) (SE.gcd (by rfl) T.m_gcd (SA.cons (SE.var 8) (SA.cons (SE.var 6) SA.nil))))
    (SB.one (SS.ret (SE.tup (SA.cons (SE.div (SE.var 8) (SE.var 9)) (SA.cons (SE.mul (SE.var 7) (SE.div (SE.var 5) (SE.var 9))) SA.nil)))))))))))
theorem sc_times : FnScope ["one", "other", "top", "bottom", "more", "under", "first", "second"] ["one", "other"] (defScope s_times) := ⟨rfl, rfl, rfl, by decide +kernel, rfl, by decide +kernel, by decide +kernel⟩
theorem g_times (T : Txt K mg z) (nd : base.NoDigits) : FnG P w K mg base 1 z.a_times z.fd_times ["one", "other"] M_times := by
  refine fnG_of (N := ["one", "other", "top", "bottom", "more", "under", "first", "second"]) T.d_times.F sc_times fun cdv A outer s H E hr hgu => ?_
  have hu := hr.units
  exact (SB.cons (SS.asg (SE.var 0) (SG.tup (by rfl) (SGs.cons (SG.name 2 sc_times.nd (by rfl) (Or.inl (by rfl))) (SGs.cons (SG.name 3 sc_times.nd (by rfl) (Or.inl (by rfl))) SGs.nil))))
    (SB.cons (SS.asg (SE.var 1) (SG.tup (by rfl) (SGs.cons (SG.name 4 sc_times.nd (by rfl) (Or.inl (by rfl))) (SGs.cons (SG.name 5 sc_times.nd (by rfl) (Or.inl (by rfl))) SGs.nil))))
    (SB.cons (SS.par 6 7 (by rfl) sc_times.nd (by rfl) (by rfl) (by decide) (by rfl) (by rfl) (SA.cons (SE.gcd (by rfl) T.m_gcd (SA.cons (SE.var 2) (SA.cons (SE.var 5) SA.nil))) (SA.cons (SE.gcd (by rfl) T.m_gcd (SA.cons (SE.var 4) (SA.cons (SE.var 3) SA.nil))) SA.nil)) (by rfl))
    (SB.one (SS.ret (SE.tup (SA.cons (SE.mul (SE.div (SE.var 2) (SE.var 6)) (SE.div (SE.var 4) (SE.var 7))) (SA.cons (SE.mul (SE.div (SE.var 3) (SE.var 7)) (SE.div (SE.var 5) (SE.var 6))) SA.nil))))))))
theorem sc_negative : FnScope ["one"] ["one"] (defScope s_negative) := ⟨rfl, rfl, rfl, by decide +kernel, rfl, by decide +kernel, by decide +kernel⟩
theorem g_negative (T : Txt K mg z) (nd : base.NoDigits) : FnG P w K mg base 1 z.a_negative z.fd_negative ["one"] M_negative := by
  refine fnG_of (N := ["one"]) T.d_negative.F sc_negative fun cdv A outer s H E hr hgu => ?_
  have hu := hr.units
  exact (SB.one (SS.ret (SE.tup (SA.cons (SE.neg (SE.ix (SE.var 0) SE.int)) (SA.cons (SE.ix (SE.var 0) SE.int) SA.nil)))))
theorem sc_ties_by_point : FnScope ["network", "points", "ties", "table", "point", "low", "high", "weight"] ["network"] (defScope s_ties_by_point) := ⟨rfl, rfl, rfl, by decide +kernel, rfl, by decide +kernel, by decide +kernel⟩
theorem g_ties_by_point (T : Txt K mg z) (nd : base.NoDigits) : FnG P w K mg base 1 z.a_ties_by_point z.fd_ties_by_point ["network"] M_ties_by_point := by
  refine fnG_of (N := ["network", "points", "ties", "table", "point", "low", "high", "weight"]) T.d_ties_by_point.F sc_ties_by_point fun cdv A outer s H E hr hgu => ?_
  have hu := hr.units
  exact (SB.cons (SS.asg (SE.var 0) (SG.tup (by rfl) (SGs.cons (SG.name 1 sc_ties_by_point.nd (by rfl) (Or.inl (by rfl))) (SGs.cons (SG.name 2 sc_ties_by_point.nd (by rfl) (Or.inl (by rfl))) SGs.nil))))
    (SB.cons (SS.setDc (i := 3) (own := [("point", 4)]) (by rfl) sc_ties_by_point.nd (SI.seq (SE.var 1)) (blkOk_by (N := ["network", "points", "ties", "table", "point", "low", "high", "weight"]) (sc := defScope s_ties_by_point) (by decide +kernel)) (by decide) (fun _ _ _ _ _ => (SG.name 4 sc_ties_by_point.nd (by rfl) (Or.inl (by rfl)))) (fun _ _ _ _ _ => STs.nil) (fun _ _ _ _ _ => (SE.var 4)) (fun _ _ _ _ _ => SE.di) (by rfl) (by rfl) (sw_trueD (by rfl) (by rfl) (by rfl) (by decide +kernel)))
    (SB.cons (SS.forS poD (by rfl) (SI.seq (SE.var 2)) (SG.tup (by rfl) (SGs.cons (SG.name 5 sc_ties_by_point.nd (by rfl) (Or.inl (by rfl))) (SGs.cons (SG.name 6 sc_ties_by_point.nd (by rfl) (Or.inl (by rfl))) (SGs.cons (SG.name 7 sc_ties_by_point.nd (by rfl) (Or.inl (by rfl))) SGs.nil)))) (SB.cons (SS.dsI hu (SE.var 7) (SE.dgI hu (SE.var 3) (SE.var 5)) (SE.var 6))
    (SB.one (SS.dsI hu (SE.var 7) (SE.dgI hu (SE.var 3) (SE.var 6)) (SE.var 5)))))
    (SB.one (SS.ret (SE.var 3))))))
theorem sc_network_in : FnScope ["table", "ties", "low", "high"] ["table"] (defScope s_network_in) := ⟨rfl, rfl, rfl, by decide +kernel, rfl, by decide +kernel, by decide +kernel⟩
theorem g_network_in (T : Txt K mg z) (nd : base.NoDigits) : FnG P w K mg base 1 z.a_network_in z.fd_network_in ["table"] M_network_in := by
  refine fnG_of (N := ["table", "ties", "low", "high"]) T.d_network_in.F sc_network_in fun cdv A outer s H E hr hgu => ?_
  have hu := hr.units
  exact (SB.cons (SS.setLc2V (i := 1) (by rfl) (by rfl) (sw_true (by rfl) (by rfl) (by rfl) (by decide +kernel)) (own := [("low", 2), ("high", 3)]) (vs1 := [3]) (by rfl) sc_network_in.nd (SI.seq (SE.sortDi (by rfl) (by rfl) T.n_sorted (SA.cons (SE.var 0) SA.nil))) (blkOk_by (N := ["table", "ties", "low", "high"]) (sc := defScope s_network_in) (by decide +kernel)) (by decide) (by decide) (by decide) (fun _ _ _ _ _ => (SG.name 2 sc_network_in.nd (by rfl) (Or.inl (by rfl)))) (fun _ _ _ _ _ => STs.nil) (fun _ _ _ _ _ => (SI.seq (SE.sortDi (by rfl) (by rfl) T.n_sorted (SA.cons (SE.dgI hu (SE.var 0) (SE.var 2)) SA.nil)))) (fun _ _ _ _ _ => (SG.name 3 sc_network_in.nd (by rfl) (Or.inl (by rfl)))) (fun _ _ _ _ _ => (STs.one (ST.lt (SE.var 2) (SE.var 3)))) (fun _ _ _ _ _ => (SE.tup (SA.cons (SE.var 2) (SA.cons (SE.var 3) (SA.cons (SE.dgI hu (SE.dgI hu (SE.var 0) (SE.var 2)) (SE.var 3)) SA.nil))))))
    (SB.one (SS.ret (SE.tup (SA.cons (SE.tup1 (by rfl) T.n_tuple (SA.cons (SE.sortDi (by rfl) (by rfl) T.n_sorted (SA.cons (SE.var 0) SA.nil)) SA.nil)) (SA.cons (SE.tup1 (by rfl) T.n_tuple (SA.cons (SE.var 1) SA.nil)) SA.nil))))))
theorem sc__law_deal : FnScope ["script", "base", "cells", "cell", "mix"] ["script", "base"] (defScope s__law_deal) := ⟨rfl, rfl, rfl, by decide +kernel, rfl, by decide +kernel, by decide +kernel⟩
theorem g__law_deal (T : Txt K mg z) (nd : base.NoDigits) : FnG P w K mg base 1 z.a__law_deal z.fd__law_deal ["script", "base"] M__law_deal := by
  refine fnG_of (N := ["script", "base", "cells", "cell", "mix"]) T.d__law_deal.F sc__law_deal fun cdv A outer s H E hr hgu => ?_
  have hu := hr.units
  exact (SB.cons (SS.setLcV (i := 2) (own := [("cell", 3)]) (by rfl) sc__law_deal.nd (SI.seq (SE.slice (SE.var 0) SO.none (SO.some SE.int))) (blkOk_by (N := ["script", "base", "cells", "cell", "mix"]) (sc := defScope s__law_deal) (by decide +kernel)) (by decide) (fun _ _ _ _ _ => (SG.name 3 sc__law_deal.nd (by rfl) (Or.inl (by rfl)))) (fun _ _ _ _ _ => STs.nil) (fun _ _ _ _ _ => (SE.abs (by rfl) T.n_abs (SA.cons (SE.int1 (by rfl) T.n_int (SA.cons (SE.var 3) SA.nil)) SA.nil))) (by rfl) (by rfl) (sw_true (by rfl) (by rfl) (by rfl) (by decide +kernel)))
    (SB.cons (SS.set 4 sc__law_deal.nd (by rfl) (Or.inl (by rfl)) (SE.add (SE.mul SE.int (SE.var 1)) SE.int))
    (SB.cons (SS.forS poD (by rfl) (SI.seq (SE.var 2)) (SG.name 3 sc__law_deal.nd (by rfl) (Or.inl (by rfl))) (SB.one (SS.set 4 sc__law_deal.nd (by rfl) (Or.inl (by rfl)) (SE.mod (SE.int1 (by rfl) T.n_int (SA.cons (SE.add (SE.add (SE.mul (SE.var 4) SE.int) (SE.mod (SE.var 3) SE.int)) SE.int) SA.nil)) SE.int))))
    (SB.one (SS.ret (SE.loc (SA.cons (SE.revLoc (SE.lcV (own := [("cell", 3)]) (by rfl) sc__law_deal.nd (SI.seq (SE.var 2)) (blkOk_by (N := ["script", "base", "cells", "cell", "mix"]) (sc := defScope s__law_deal) (by decide +kernel)) (by decide) (fun _ _ _ _ _ => (SG.name 3 sc__law_deal.nd (by rfl) (Or.inl (by rfl)))) (fun _ _ _ _ _ => (STs.one (ST.ge (SE.var 3) (SE.pow SE.int SE.int)))) (fun _ _ _ _ _ => (SE.var 3)))) (SA.cons (SE.var 4) SA.nil))))))))
theorem sc__law_any : FnScope ["deal", "bound", "rest"] ["deal", "bound"] (defScope s__law_any) := ⟨rfl, rfl, rfl, by decide +kernel, rfl, by decide +kernel, by decide +kernel⟩
theorem g__law_any (T : Txt K mg z) (nd : base.NoDigits) : FnG P w K mg base 1 z.a__law_any z.fd__law_any ["deal", "bound"] M__law_any := by
  refine fnG_of (N := ["deal", "bound", "rest"]) T.d__law_any.F sc__law_any fun cdv A outer s H E hr hgu => ?_
  have hu := hr.units
  exact (SB.cons (SS.whileS poD (SW.pt (SW.and (ST.ne hu (SE.ix (SE.var 0) SE.int) (SE.lst SA.nil)) (SW.and1 (ST.eq hu (SE.ix (SE.ix (SE.var 0) SE.int) (SE.neg SE.int)) SE.int)))) (SB.one (SS.expr (SE.pop (SE.ix (SE.var 0) SE.int)))))
    (SB.cons (SS.ifS (ST.ne hu (SE.ix (SE.var 0) SE.int) (SE.lst SA.nil)) (SB.cons (SS.set 2 sc__law_any.nd (by rfl) (Or.inl (by rfl)) (SE.int1 (by rfl) T.n_int (SA.cons (SE.pop (SE.ix (SE.var 0) SE.int)) SA.nil)))
    (SB.cons (SS.expr (SE.append (SE.ix (SE.var 0) SE.int) (SA.cons (SE.div (SE.var 2) (SE.var 1)) SA.nil)))
    (SB.one (SS.ret (SE.mod (SE.var 2) (SE.var 1)))))) SB.nil)
    (SB.cons (SS.sub (SE.mod (SE.int1 (by rfl) T.n_int (SA.cons (SE.add (SE.mul (SE.ix (SE.var 0) SE.int) SE.int) SE.int) SA.nil)) SE.int) (SE.var 0) SE.int)
    (SB.one (SS.ret (SE.mod (SE.int1 (by rfl) T.n_int (SA.cons (SE.div (SE.ix (SE.var 0) SE.int) SE.int) SA.nil)) (SE.var 1)))))))
theorem sc__law_frac : FnScope ["top", "bottom", "high", "low", "turn"] ["top", "bottom"] (defScope s__law_frac) := ⟨rfl, rfl, rfl, by decide +kernel, rfl, by decide +kernel, by decide +kernel⟩
theorem g__law_frac (T : Txt K mg z) (nd : base.NoDigits) : FnG P w K mg base 1 z.a__law_frac z.fd__law_frac ["top", "bottom"] M__law_frac := by
  refine fnG_of (N := ["top", "bottom", "high", "low", "turn"]) T.d__law_frac.F sc__law_frac fun cdv A outer s H E hr hgu => ?_
  have hu := hr.units
  exact (SB.cons (SS.par 2 3 (by rfl) sc__law_frac.nd (by rfl) (by rfl) (by decide) (by rfl) (by rfl) (SA.cons (SE.abs (by rfl) T.n_abs (SA.cons (SE.var 0) SA.nil)) (SA.cons (SE.abs (by rfl) T.n_abs (SA.cons (SE.var 1) SA.nil)) SA.nil)) (by rfl))
    (SB.cons (SS.forS poD (by rfl) (SI.range1 (by rfl) T.n_range (SA.cons SE.int SA.nil)) (SG.name 4 sc__law_frac.nd (by rfl) (Or.inl (by rfl))) (SB.cons (SS.ifS (ST.eq hu (SE.var 3) SE.int) (SB.one SS.brk) SB.nil)
    (SB.one (SS.par 2 3 (by rfl) sc__law_frac.nd (by rfl) (by rfl) (by decide) (by rfl) (by rfl) (SA.cons (SE.var 3) (SA.cons (SE.mod (SE.int1 (by rfl) T.n_int (SA.cons (SE.var 2) SA.nil)) (SE.var 3)) SA.nil)) (by rfl)))))
    (SB.cons (SS.set 2 sc__law_frac.nd (by rfl) (Or.inl (by rfl)) (SE.ifExp (ST.gt (SE.var 1) SE.int) (SE.var 2) (SE.neg (SE.var 2))))
    (SB.one (SS.ret (SE.tup (SA.cons (SE.div (SE.var 0) (SE.var 2)) (SA.cons (SE.div (SE.var 1) (SE.var 2)) SA.nil))))))))
theorem sc__law_is_number : FnScope ["value"] ["value"] (defScope s__law_is_number) := ⟨rfl, rfl, rfl, by decide +kernel, rfl, by decide +kernel, by decide +kernel⟩
theorem g__law_is_number (T : Txt K mg z) (nd : base.NoDigits) : FnG P w K mg base 1 z.a__law_is_number z.fd__law_is_number ["value"] M__law_is_number := by
  refine fnG_of (N := ["value"]) T.d__law_is_number.F sc__law_is_number fun cdv A outer s H E hr hgu => ?_
  have hu := hr.units
  exact (SB.one (SS.ret (SE.and (SE.isi (p2 := ⟨0, 0, 0, 0⟩) (T := "int") (by rfl) T.n_isinstance (by rfl) T.n_int (by decide +kernel) (SE.var 0)) (SE.and (SE.not (SE.isi (p2 := ⟨0, 0, 0, 0⟩) (T := "bool") (by rfl) T.n_isinstance (by rfl) T.n_bool (by decide +kernel) (SE.var 0))) (SE.one (SE.ge (SE.var 0) SE.int))))))
theorem sc_are_ints : FnScope ["value", "many", "thing"] ["value", "many"] (defScope s_are_ints) := ⟨rfl, rfl, rfl, by decide +kernel, rfl, by decide +kernel, by decide +kernel⟩
theorem g_are_ints (T : Txt K mg z) (nd : base.NoDigits) : FnG P w K mg base 2 z.a_are_ints z.fd_are_ints ["value", "many"] M_are_ints := by
  refine fnG_of (N := ["value", "many", "thing"]) T.d_are_ints.F sc_are_ints fun cdv A outer s H E hr hgu => ?_
  have hu := hr.units
  exact (SB.one (SS.ret (SE.and (SE.fn T.d_is_tuple_of (g_is_tuple_of T nd) mir_len hr (by decide) hgu tkD (by rfl) T.b_is_tuple_of (SA.cons (SE.var 0) (SA.cons (SE.var 1) SA.nil))) (SE.one (SE.all (by rfl) T.n_all (by rfl) (SA.cons (SE.lcV (own := [("thing", 2)]) (by rfl) sc_are_ints.nd (SI.seq (SE.var 0)) (blkOk_by (N := ["value", "many", "thing"]) (sc := defScope s_are_ints) (by decide +kernel)) (by decide) (fun _ _ _ _ _ => (SG.name 2 sc_are_ints.nd (by rfl) (Or.inl (by rfl)))) (fun _ _ _ _ _ => STs.nil) (fun _ _ _ _ _ => (SE.fn T.d_is_int (g_is_int T nd) mir_len hr (by decide) hgu tk0 (by rfl) T.b_is_int (SA.cons (SE.var 2) SA.nil)))) SA.nil))))))
theorem sc_are_numbers : FnScope ["value", "least", "number"] ["value"] (defScope s_are_numbers) := ⟨rfl, rfl, rfl, by decide +kernel, rfl, by decide +kernel, by decide +kernel⟩
theorem g_are_numbers (T : Txt K mg z) (nd : base.NoDigits) : FnG P w K mg base 2 z.a_are_numbers z.fd_are_numbers ["value"] M_are_numbers := by
  refine fnG_of (N := ["value", "least", "number"]) T.d_are_numbers.F sc_are_numbers fun cdv A outer s H E hr hgu => ?_
  have hu := hr.units
  exact (SB.cons (SS.ifS (ST.not (ST.val (SE.isi (p2 := ⟨0, 0, 0, 0⟩) (T := "tuple") (by rfl) T.n_isinstance (by rfl) T.n_tuple (by decide +kernel) (SE.var 0)))) (SB.one (SS.ret SE.bl)) SB.nil)
    (SB.cons (SS.set 1 sc_are_numbers.nd (by rfl) (Or.inl (by rfl)) SE.int)
    (SB.cons (SS.forS poD (by rfl) (SI.seq (SE.var 0)) (SG.name 2 sc_are_numbers.nd (by rfl) (Or.inl (by rfl))) (SB.cons (SS.ifS (SW.pt (SW.or (ST.not (ST.val (SE.fn T.d_is_int (g_is_int T nd) mir_len hr (by decide) hgu tkD (by rfl) T.b_is_int (SA.cons (SE.var 2) SA.nil)))) (SW.or1 (ST.lt (SE.var 2) (SE.var 1))))) (SB.one (SS.ret SE.bl)) SB.nil)
    (SB.one (SS.set 1 sc_are_numbers.nd (by rfl) (Or.inl (by rfl)) (SE.add (SE.var 2) SE.int)))))
    (SB.one (SS.ret SE.bl)))))
theorem sc_minus : FnScope ["one", "other"] ["one", "other"] (defScope s_minus) := ⟨rfl, rfl, rfl, by decide +kernel, rfl, by decide +kernel, by decide +kernel⟩
theorem g_minus (T : Txt K mg z) (nd : base.NoDigits) : FnG P w K mg base 2 z.a_minus z.fd_minus ["one", "other"] M_minus := by
  refine fnG_of (N := ["one", "other"]) T.d_minus.F sc_minus fun cdv A outer s H E hr hgu => ?_
  have hu := hr.units
  exact (SB.one (SS.ret (SE.fn T.d_plus (g_plus T nd) mir_len hr (by decide) hgu tkD (by rfl) T.b_plus (SA.cons (SE.var 0) (SA.cons (SE.fn T.d_negative (g_negative T nd) mir_len hr (by decide) hgu tkD (by rfl) T.b_negative (SA.cons (SE.var 1) SA.nil)) SA.nil)))))
theorem sc_over : FnScope ["one", "other", "top", "bottom"] ["one", "other"] (defScope s_over) := ⟨rfl, rfl, rfl, by decide +kernel, rfl, by decide +kernel, by decide +kernel⟩
theorem g_over (T : Txt K mg z) (nd : base.NoDigits) : FnG P w K mg base 2 z.a_over z.fd_over ["one", "other"] M_over := by
  refine fnG_of (N := ["one", "other", "top", "bottom"]) T.d_over.F sc_over fun cdv A outer s H E hr hgu => ?_
  have hu := hr.units
  exact (SB.cons (SS.asg (SE.var 1) (SG.tup (by rfl) (SGs.cons (SG.name 2 sc_over.nd (by rfl) (Or.inl (by rfl))) (SGs.cons (SG.name 3 sc_over.nd (by rfl) (Or.inl (by rfl))) SGs.nil))))
    (SB.cons (SS.ifS (ST.eq hu (SE.var 2) SE.int) (SB.one (SS.raise (by rfl) T.x_InvalidSize hr tkD (SA.cons SE.str SA.nil) (by rfl))) SB.nil)
    (SB.cons (SS.ifS (ST.lt (SE.var 2) SE.int) (SB.one (SS.par 2 3 (by rfl) sc_over.nd (by rfl) (by rfl) (by decide) (by rfl) (by rfl) (SA.cons (SE.neg (SE.var 2)) (SA.cons (SE.neg (SE.var 3)) SA.nil)) (by rfl))) SB.nil)
    (SB.one (SS.ret (SE.fn T.d_times (g_times T nd) mir_len hr (by decide) hgu tkD (by rfl) T.b_times (SA.cons (SE.var 0) (SA.cons (SE.tup (SA.cons (SE.var 3) (SA.cons (SE.var 2) SA.nil))) SA.nil))))))))
theorem sc_half : FnScope ["one"] ["one"] (defScope s_half) := ⟨rfl, rfl, rfl, by decide +kernel, rfl, by decide +kernel, by decide +kernel⟩
theorem g_half (T : Txt K mg z) (nd : base.NoDigits) : FnG P w K mg base 2 z.a_half z.fd_half ["one"] M_half := by
  refine fnG_of (N := ["one"]) T.d_half.F sc_half fun cdv A outer s H E hr hgu => ?_
  have hu := hr.units
  exact (SB.one (SS.ret (SE.fn T.d_fraction (g_fraction T nd) mir_len hr (by decide) hgu tkD (by rfl) T.b_fraction (SA.cons (SE.ix (SE.var 0) SE.int) (SA.cons (SE.mul SE.int (SE.ix (SE.var 0) SE.int)) SA.nil)))))
theorem sc_total_of : FnScope ["some", "parts", "rest", "one", "other"] ["some"] (defScope s_total_of) := ⟨rfl, rfl, rfl, by decide +kernel, rfl, by decide +kernel, by decide +kernel⟩
theorem g_total_of (T : Txt K mg z) (nd : base.NoDigits) : FnG P w K mg base 2 z.a_total_of z.fd_total_of ["some"] M_total_of := by
  refine fnG_of (N := ["some", "parts", "rest", "one", "other"]) T.d_total_of.F sc_total_of fun cdv A outer s H E hr hgu => ?_
  have hu := hr.units
  exact (SB.cons (SS.set 1 sc_total_of.nd (by rfl) (Or.inl (by rfl)) (SE.list1 (by rfl) T.n_list (SA.cons (SE.var 0) SA.nil)))
    (SB.cons (SS.ifS (ST.not (ST.tru (SE.var 1))) (SB.one (SS.ret (SE.glob (v := .ref z.k_ZERO) (by rfl) T.m_ZERO rfl T.c_ZERO))) SB.nil)
    (SB.cons (SS.whileS poD (ST.gt (SE.len (by rfl) T.n_len (SA.cons (SE.var 1) SA.nil)) SE.int) (SB.cons (SS.set 2 sc_total_of.nd (by rfl) (Or.inl (by rfl)) (SE.slice (SE.var 1) (SO.some (SE.mul (SE.div (SE.len (by rfl) T.n_len (SA.cons (SE.var 1) SA.nil)) SE.int) SE.int)) SO.none))
    (SB.one (SS.set 1 sc_total_of.nd (by rfl) (Or.inl (by rfl)) (SE.add (SE.lcV (own := [("one", 3), ("other", 4)]) (by rfl) sc_total_of.nd (SI.zip (by rfl) T.n_zip (SA.cons (SE.slL (by decide) (SE.var 1) SO.none SO.none stepc_int) (SA.cons (SE.slL (by decide) (SE.var 1) (SO.some SE.int) SO.none stepc_int) SA.nil))) (blkOk_by (N := ["some", "parts", "rest", "one", "other"]) (sc := defScope s_total_of) (by decide +kernel)) (by decide) (fun _ _ _ _ _ => (SG.tup (by rfl) (SGs.cons (SG.name 3 sc_total_of.nd (by rfl) (Or.inl (by rfl))) (SGs.cons (SG.name 4 sc_total_of.nd (by rfl) (Or.inl (by rfl))) SGs.nil)))) (fun _ _ _ _ _ => STs.nil) (fun _ _ _ _ _ => (SE.fn T.d_plus (g_plus T nd) mir_len hr (by decide) hgu tk0 (by rfl) T.b_plus (SA.cons (SE.var 3) (SA.cons (SE.var 4) SA.nil))))) (SE.var 2))))))
    (SB.one (SS.ret (SE.ix (SE.var 1) SE.int))))))
theorem sc_tie_more : FnScope ["table", "one", "other", "more", "weight"] ["table", "one", "other", "more"] (defScope s_tie_more) := ⟨rfl, rfl, rfl, by decide +kernel, rfl, by decide +kernel, by decide +kernel⟩
theorem g_tie_more (T : Txt K mg z) (nd : base.NoDigits) : FnG P w K mg base 2 z.a_tie_more z.fd_tie_more ["table", "one", "other", "more"] M_tie_more := by
  refine fnG_of (N := ["table", "one", "other", "more", "weight"]) T.d_tie_more.F sc_tie_more fun cdv A outer s H E hr hgu => ?_
  have hu := hr.units
  exact (SB.cons (SS.set 4 sc_tie_more.nd (by rfl) (Or.inl (by rfl)) (SE.fn T.d_plus (g_plus T nd) mir_len hr (by decide) hgu tkD (by rfl) T.b_plus (SA.cons (SE.dg2I hu (SE.dgI hu (SE.var 0) (SE.var 1)) (SE.var 2) (SE.glob (v := .ref z.k_ZERO) (by rfl) T.m_ZERO rfl T.c_ZERO)) (SA.cons (SE.var 3) SA.nil))))
    (SB.one (SS.ifS (ST.eq hu (SE.var 4) (SE.glob (v := .ref z.k_ZERO) (by rfl) T.m_ZERO rfl T.c_ZERO)) (SB.cons (SS.expr (SE.dp2I (SE.dgI hu (SE.var 0) (SE.var 1)) (SE.var 2) SE.non))
    (SB.one (SS.expr (SE.dp2I (SE.dgI hu (SE.var 0) (SE.var 2)) (SE.var 1) SE.non)))) (SB.cons (SS.dsI hu (SE.var 4) (SE.dgI hu (SE.var 0) (SE.var 1)) (SE.var 2))
    (SB.one (SS.dsI hu (SE.var 4) (SE.dgI hu (SE.var 0) (SE.var 2)) (SE.var 1)))))))
theorem sc_pairs_of : FnScope ["network", "point", "ties", "other"] ["network", "point"] (defScope s_pairs_of) := ⟨rfl, rfl, rfl, by decide +kernel, rfl, by decide +kernel, by decide +kernel⟩
theorem g_pairs_of (T : Txt K mg z) (nd : base.NoDigits) : FnG P w K mg base 2 z.a_pairs_of z.fd_pairs_of ["network", "point"] M_pairs_of := by
  refine fnG_of (N := ["network", "point", "ties", "other"]) T.d_pairs_of.F sc_pairs_of fun cdv A outer s H E hr hgu => ?_
  have hu := hr.units
  exact (SB.cons (SS.set 2 sc_pairs_of.nd (by rfl) (Or.inr (by rfl)) (SE.dgI hu (SE.fn T.d_ties_by_point (g_ties_by_point T nd) mir_len hr (by decide) hgu tkD (by rfl) T.b_ties_by_point (SA.cons (SE.var 0) SA.nil)) (SE.var 1)))
    (SB.one (SS.ret (SE.tup1 (by rfl) T.n_tuple (SA.cons (SE.lcV (own := [("other", 3)]) (by rfl) sc_pairs_of.nd (SI.seq (SE.sortDi (by rfl) (by rfl) T.n_sorted (SA.cons (SE.var 2) SA.nil))) (blkOk_by (N := ["network", "point", "ties", "other"]) (sc := defScope s_pairs_of) (by decide +kernel)) (by decide) (fun _ _ _ _ _ => (SG.name 3 sc_pairs_of.nd (by rfl) (Or.inl (by rfl)))) (fun _ _ _ _ _ => STs.nil) (fun _ _ _ _ _ => (SE.tup (SA.cons (SE.var 3) (SA.cons (SE.dgI hu (SE.var 2) (SE.var 3)) SA.nil))))) SA.nil)))))
theorem sc__law_of : FnScope ["deal", "some"] ["deal", "some"] (defScope s__law_of) := ⟨rfl, rfl, rfl, by decide +kernel, rfl, by decide +kernel, by decide +kernel⟩
theorem g__law_of (T : Txt K mg z) (nd : base.NoDigits) : FnG P w K mg base 2 z.a__law_of z.fd__law_of ["deal", "some"] M__law_of := by
  refine fnG_of (N := ["deal", "some"]) T.d__law_of.F sc__law_of fun cdv A outer s H E hr hgu => ?_
  have hu := hr.units
  exact (SB.one (SS.ret (SE.ix (SE.var 1) (SE.fn T.d__law_any (g__law_any T nd) mir_len hr (by decide) hgu tkD (by rfl) T.b__law_any (SA.cons (SE.var 0) (SA.cons (SE.len (by rfl) T.n_len (SA.cons (SE.var 1) SA.nil)) SA.nil))))))
theorem sc__law_plus : FnScope ["one", "other"] ["one", "other"] (defScope s__law_plus) := ⟨rfl, rfl, rfl, by decide +kernel, rfl, by decide +kernel, by decide +kernel⟩
theorem g__law_plus (T : Txt K mg z) (nd : base.NoDigits) : FnG P w K mg base 2 z.a__law_plus z.fd__law_plus ["one", "other"] M__law_plus := by
  refine fnG_of (N := ["one", "other"]) T.d__law_plus.F sc__law_plus fun cdv A outer s H E hr hgu => ?_
  have hu := hr.units
  exact (SB.one (SS.ret (SE.fn T.d__law_frac (g__law_frac T nd) mir_len hr (by decide) hgu tkD (by rfl) T.b__law_frac (SA.cons (SE.add (SE.mul (SE.ix (SE.var 0) SE.int) (SE.ix (SE.var 1) SE.int)) (SE.mul (SE.ix (SE.var 1) SE.int) (SE.ix (SE.var 0) SE.int))) (SA.cons (SE.mul (SE.ix (SE.var 0) SE.int) (SE.ix (SE.var 1) SE.int)) SA.nil)))))
theorem sc__law_less : FnScope ["one", "other"] ["one", "other"] (defScope s__law_less) := ⟨rfl, rfl, rfl, by decide +kernel, rfl, by decide +kernel, by decide +kernel⟩
theorem g__law_less (T : Txt K mg z) (nd : base.NoDigits) : FnG P w K mg base 2 z.a__law_less z.fd__law_less ["one", "other"] M__law_less := by
  refine fnG_of (N := ["one", "other"]) T.d__law_less.F sc__law_less fun cdv A outer s H E hr hgu => ?_
  have hu := hr.units
  exact (SB.one (SS.ret (SE.fn T.d__law_frac (g__law_frac T nd) mir_len hr (by decide) hgu tkD (by rfl) T.b__law_frac (SA.cons (SE.sub (SE.mul (SE.ix (SE.var 0) SE.int) (SE.ix (SE.var 1) SE.int)) (SE.mul (SE.ix (SE.var 1) SE.int) (SE.ix (SE.var 0) SE.int))) (SA.cons (SE.mul (SE.ix (SE.var 0) SE.int) (SE.ix (SE.var 1) SE.int)) SA.nil)))))
theorem sc__law_times : FnScope ["one", "other"] ["one", "other"] (defScope s__law_times) := ⟨rfl, rfl, rfl, by decide +kernel, rfl, by decide +kernel, by decide +kernel⟩
theorem g__law_times (T : Txt K mg z) (nd : base.NoDigits) : FnG P w K mg base 2 z.a__law_times z.fd__law_times ["one", "other"] M__law_times := by
  refine fnG_of (N := ["one", "other"]) T.d__law_times.F sc__law_times fun cdv A outer s H E hr hgu => ?_
  have hu := hr.units
  exact (SB.one (SS.ret (SE.fn T.d__law_frac (g__law_frac T nd) mir_len hr (by decide) hgu tkD (by rfl) T.b__law_frac (SA.cons (SE.mul (SE.ix (SE.var 0) SE.int) (SE.ix (SE.var 1) SE.int)) (SA.cons (SE.mul (SE.ix (SE.var 0) SE.int) (SE.ix (SE.var 1) SE.int)) SA.nil)))))
theorem sc__law_is_weight : FnScope ["value", "part"] ["value"] (defScope s__law_is_weight) := ⟨rfl, rfl, rfl, by decide +kernel, rfl, by decide +kernel, by decide +kernel⟩
theorem g__law_is_weight (T : Txt K mg z) (nd : base.NoDigits) : FnG P w K mg base 2 z.a__law_is_weight z.fd__law_is_weight ["value"] M__law_is_weight := by
  refine fnG_of (N := ["value", "part"]) T.d__law_is_weight.F sc__law_is_weight fun cdv A outer s H E hr hgu => ?_
  have hu := hr.units
  exact (SB.cons (SS.ifS (SW.pt (SW.or (ST.not (ST.val (SE.isi (p2 := ⟨0, 0, 0, 0⟩) (T := "tuple") (by rfl) T.n_isinstance (by rfl) T.n_tuple (by decide +kernel) (SE.var 0)))) (SW.or1 (ST.ne hu (SE.len (by rfl) T.n_len (SA.cons (SE.var 0) SA.nil)) SE.int)))) (SB.one (SS.ret SE.bl)) SB.nil)
    (SB.cons (SS.forS poD (by rfl) (SI.seq (SE.var 0)) (SG.name 1 sc__law_is_weight.nd (by rfl) (Or.inl (by rfl))) (SB.one (SS.ifS (SW.pt (SW.or (ST.not (ST.val (SE.isi (p2 := ⟨0, 0, 0, 0⟩) (T := "int") (by rfl) T.n_isinstance (by rfl) T.n_int (by decide +kernel) (SE.var 1)))) (SW.or1 (ST.val (SE.isi (p2 := ⟨0, 0, 0, 0⟩) (T := "bool") (by rfl) T.n_isinstance (by rfl) T.n_bool (by decide +kernel) (SE.var 1)))))) (SB.one (SS.ret SE.bl)) SB.nil)))
    (SB.one (SS.ret (SE.and (SE.gt (SE.ix (SE.var 0) SE.int) SE.int) (SE.and (SE.ne hu (SE.ix (SE.var 0) SE.int) SE.int) (SE.one (SE.eq hu (SE.fn T.d__law_frac (g__law_frac T nd) mir_len hr (by decide) hgu tkD (by rfl) T.b__law_frac (SA.cons (SE.ix (SE.var 0) SE.int) (SA.cons (SE.ix (SE.var 0) SE.int) SA.nil))) (SE.var 0)))))))))
theorem sc__fault_of : FnScope ["value", "top", "bottom"] ["value"] (defScope s__fault_of) := ⟨rfl, rfl, rfl, by decide +kernel, rfl, by decide +kernel, by decide +kernel⟩
theorem g__fault_of (T : Txt K mg z) (nd : base.NoDigits) : FnG P w K mg base 3 z.a__fault_of z.fd__fault_of ["value"] M__fault_of := by
  refine fnG_of (N := ["value", "top", "bottom"]) T.d__fault_of.F sc__fault_of fun cdv A outer s H E hr hgu => ?_
  have hu := hr.units
  exact (SB.cons (SS.ifS (ST.not (ST.val (SE.fn T.d_are_ints (g_are_ints T nd) mir_len hr (by decide) hgu tkD (by rfl) T.b_are_ints (SA.cons (SE.var 0) (SA.cons SE.int SA.nil))))) (SB.one (SS.ret (SE.neg SE.int))) SB.nil)
    (SB.cons (SS.asg (SE.var 0) (SG.tup (by rfl) (SGs.cons (SG.name 1 sc__fault_of.nd (by rfl) (Or.inl (by rfl))) (SGs.cons (SG.name 2 sc__fault_of.nd (by rfl) (Or.inl (by rfl))) SGs.nil))))
    (SB.cons (SS.ifS (ST.le (SE.var 2) SE.int) (SB.one (SS.ret SE.int)) SB.nil)
    (SB.cons (SS.ifS (ST.ne hu (SE.gcd (by rfl) T.m_gcd (SA.cons (SE.var 1) (SA.cons (SE.var 2) SA.nil))) SE.int) (SB.one (SS.ret SE.int)) SB.nil)
    (SB.one (SS.ret SE.non))))))
theorem sc_drop_point : FnScope ["table", "point", "pairs", "other", "pull", "_", "weight", "shares", "at", "share", "one", "much"] ["table", "point"] (defScope s_drop_point) := ⟨rfl, rfl, rfl, by decide +kernel, rfl, by decide +kernel, by decide +kernel⟩
theorem g_drop_point (T : Txt K mg z) (nd : base.NoDigits) : FnG P w K mg base 3 z.a_drop_point z.fd_drop_point ["table", "point"] M_drop_point := by
  refine fnG_of (N := ["table", "point", "pairs", "other", "pull", "_", "weight", "shares", "at", "share", "one", "much"]) T.d_drop_point.F sc_drop_point fun cdv A outer s H E hr hgu => ?_
  have hu := hr.units
  exact (SB.cons (SS.setLcV (i := 2) (own := [("other", 3)]) (by rfl) sc_drop_point.nd (SI.seq (SE.sortDi (by rfl) (by rfl) T.n_sorted (SA.cons (SE.dgI hu (SE.var 0) (SE.var 1)) SA.nil))) (blkOk_by (N := ["table", "point", "pairs", "other", "pull", "_", "weight", "shares", "at", "share", "one", "much"]) (sc := defScope s_drop_point) (by decide +kernel)) (by decide) (fun _ _ _ _ _ => (SG.name 3 sc_drop_point.nd (by rfl) (Or.inl (by rfl)))) (fun _ _ _ _ _ => STs.nil) (fun _ _ _ _ _ => (SE.tup (SA.cons (SE.var 3) (SA.cons (SE.dgI hu (SE.dgI hu (SE.var 0) (SE.var 1)) (SE.var 3)) SA.nil)))) (by rfl) (by rfl) (sw_true (by rfl) (by rfl) (by rfl) (by decide +kernel)))
    (SB.cons (SS.set 4 sc_drop_point.nd (by rfl) (Or.inl (by rfl)) (SE.fn T.d_total_of (g_total_of T nd) mir_len hr (by decide) hgu tkD (by rfl) T.b_total_of (SA.cons (SE.lcV (own := [("_", 5), ("weight", 6)]) (by rfl) sc_drop_point.nd (SI.seq (SE.var 2)) (blkOk_by (N := ["table", "point", "pairs", "other", "pull", "_", "weight", "shares", "at", "share", "one", "much"]) (sc := defScope s_drop_point) (by decide +kernel)) (by decide) (fun _ _ _ _ _ => (SG.tup (by rfl) (SGs.cons (SG.name 5 sc_drop_point.nd (by rfl) (Or.inl (by rfl))) (SGs.cons (SG.name 6 sc_drop_point.nd (by rfl) (Or.inl (by rfl))) SGs.nil)))) (fun _ _ _ _ _ => STs.nil) (fun _ _ _ _ _ => (SE.var 6))) SA.nil)))
    (SB.cons (SS.ifS (ST.le (SE.ix (SE.var 4) SE.int) SE.int) (SB.one (SS.raise (by rfl) T.x_Refused hr tkD (SA.cons SE.str SA.nil) (by rfl))) SB.nil)
    (SB.cons (SS.ddI (SE.var 0) (SE.var 1))
    (SB.cons (SS.set 7 sc_drop_point.nd (by rfl) (Or.inl (by rfl)) (SE.loc SA.nil))
    (SB.cons (SS.forS poD (by rfl) (SI.enum (by rfl) T.n_enumerate (SA.cons (SE.var 2) SA.nil)) (SG.tup (by rfl) (SGs.cons (SG.name 8 sc_drop_point.nd (by rfl) (Or.inl (by rfl))) (SGs.cons (SG.tup (by rfl) (SGs.cons (SG.name 3 sc_drop_point.nd (by rfl) (Or.inl (by rfl))) (SGs.cons (SG.name 6 sc_drop_point.nd (by rfl) (Or.inl (by rfl))) SGs.nil))) SGs.nil))) (SB.cons (SS.ddI (SE.dgI hu (SE.var 0) (SE.var 3)) (SE.var 1))
    (SB.cons (SS.set 9 sc_drop_point.nd (by rfl) (Or.inl (by rfl)) (SE.fn T.d_over (g_over T nd) mir_len hr (by decide) hgu tkD (by rfl) T.b_over (SA.cons (SE.var 6) (SA.cons (SE.var 4) SA.nil))))
    (SB.cons (SS.expr (SE.append (SE.var 7) (SA.cons (SE.tup (SA.cons (SE.var 3) (SA.cons (SE.var 9) SA.nil))) SA.nil)))
    (SB.one (SS.forS poD (by rfl) (SI.seq (SE.slice (SE.var 2) SO.none (SO.some (SE.var 8)))) (SG.tup (by rfl) (SGs.cons (SG.name 10 sc_drop_point.nd (by rfl) (Or.inl (by rfl))) (SGs.cons (SG.name 11 sc_drop_point.nd (by rfl) (Or.inl (by rfl))) SGs.nil))) (SB.one (SS.expr (SE.fn T.d_tie_more (g_tie_more T nd) mir_len hr (by decide) hgu tkD (by rfl) T.b_tie_more (SA.cons (SE.var 0) (SA.cons (SE.var 10) (SA.cons (SE.var 3) (SA.cons (SE.fn T.d_times (g_times T nd) mir_len hr (by decide) hgu tkD (by rfl) T.b_times (SA.cons (SE.var 11) (SA.cons (SE.var 9) SA.nil))) SA.nil)))))))))))))
    (SB.one (SS.ret (SE.tup1 (by rfl) T.n_tuple (SA.cons (SE.var 7) SA.nil))))))))))
theorem sc_pull_of : FnScope ["network", "point", "_", "weight"] ["network", "point"] (defScope s_pull_of) := ⟨rfl, rfl, rfl, by decide +kernel, rfl, by decide +kernel, by decide +kernel⟩
theorem g_pull_of (T : Txt K mg z) (nd : base.NoDigits) : FnG P w K mg base 3 z.a_pull_of z.fd_pull_of ["network", "point"] M_pull_of := by
  refine fnG_of (N := ["network", "point", "_", "weight"]) T.d_pull_of.F sc_pull_of fun cdv A outer s H E hr hgu => ?_
  have hu := hr.units
  exact (SB.one (SS.ret (SE.fn T.d_total_of (g_total_of T nd) mir_len hr (by decide) hgu tkD (by rfl) T.b_total_of (SA.cons (SE.lcV (own := [("_", 2), ("weight", 3)]) (by rfl) sc_pull_of.nd (SI.seq (SE.fn T.d_pairs_of (g_pairs_of T nd) mir_len hr (by decide) hgu tkD (by rfl) T.b_pairs_of (SA.cons (SE.var 0) (SA.cons (SE.var 1) SA.nil)))) (blkOk_by (N := ["network", "point", "_", "weight"]) (sc := defScope s_pull_of) (by decide +kernel)) (by decide) (fun _ _ _ _ _ => (SG.tup (by rfl) (SGs.cons (SG.name 2 sc_pull_of.nd (by rfl) (Or.inl (by rfl))) (SGs.cons (SG.name 3 sc_pull_of.nd (by rfl) (Or.inl (by rfl))) SGs.nil)))) (fun _ _ _ _ _ => STs.nil) (fun _ _ _ _ _ => (SE.var 3))) SA.nil))))
theorem sc_network_energy : FnScope ["network", "worths", "table", "rises", "low", "high", "weight", "rise"] ["network", "worths"] (defScope s_network_energy) := ⟨rfl, rfl, rfl, by decide +kernel, rfl, by decide +kernel, by decide +kernel⟩
theorem g_network_energy (T : Txt K mg z) (nd : base.NoDigits) : FnG P w K mg base 3 z.a_network_energy z.fd_network_energy ["network", "worths"] M_network_energy := by
  refine fnG_of (N := ["network", "worths", "table", "rises", "low", "high", "weight", "rise"]) T.d_network_energy.F sc_network_energy fun cdv A outer s H E hr hgu => ?_
  have hu := hr.units
  exact (SB.cons (SS.set 2 sc_network_energy.nd (by rfl) (Or.inr (by rfl)) (SE.dictP (by rfl) (by rfl) T.n_dict (SA.cons (SE.var 1) SA.nil)))
    (SB.cons (SS.setLcV (i := 3) (own := [("low", 4), ("high", 5), ("weight", 6)]) (by rfl) sc_network_energy.nd (SI.seq (SE.ix (SE.var 0) SE.int)) (blkOk_by (N := ["network", "worths", "table", "rises", "low", "high", "weight", "rise"]) (sc := defScope s_network_energy) (by decide +kernel)) (by decide) (fun _ _ _ _ _ => (SG.tup (by rfl) (SGs.cons (SG.name 4 sc_network_energy.nd (by rfl) (Or.inl (by rfl))) (SGs.cons (SG.name 5 sc_network_energy.nd (by rfl) (Or.inl (by rfl))) (SGs.cons (SG.name 6 sc_network_energy.nd (by rfl) (Or.inl (by rfl))) SGs.nil))))) (fun _ _ _ _ _ => STs.nil) (fun _ _ _ _ _ => (SE.tup (SA.cons (SE.var 6) (SA.cons (SE.fn T.d_minus (g_minus T nd) mir_len hr (by decide) hgu tk0 (by rfl) T.b_minus (SA.cons (SE.dgI hu (SE.var 2) (SE.var 4)) (SA.cons (SE.dgI hu (SE.var 2) (SE.var 5)) SA.nil))) SA.nil)))) (by rfl) (by rfl) (sw_true (by rfl) (by rfl) (by rfl) (by decide +kernel)))
    (SB.one (SS.ret (SE.fn T.d_half (g_half T nd) mir_len hr (by decide) hgu tkD (by rfl) T.b_half (SA.cons (SE.fn T.d_total_of (g_total_of T nd) mir_len hr (by decide) hgu tkD (by rfl) T.b_total_of (SA.cons (SE.lcV (own := [("weight", 6), ("rise", 7)]) (by rfl) sc_network_energy.nd (SI.seq (SE.var 3)) (blkOk_by (N := ["network", "worths", "table", "rises", "low", "high", "weight", "rise"]) (sc := defScope s_network_energy) (by decide +kernel)) (by decide) (fun _ _ _ _ _ => (SG.tup (by rfl) (SGs.cons (SG.name 6 sc_network_energy.nd (by rfl) (Or.inl (by rfl))) (SGs.cons (SG.name 7 sc_network_energy.nd (by rfl) (Or.inl (by rfl))) SGs.nil)))) (fun _ _ _ _ _ => STs.nil) (fun _ _ _ _ _ => (SE.fn T.d_times (g_times T nd) mir_len hr (by decide) hgu tk0 (by rfl) T.b_times (SA.cons (SE.var 6) (SA.cons (SE.fn T.d_times (g_times T nd) mir_len hr (by decide) hgu tk0 (by rfl) T.b_times (SA.cons (SE.var 7) (SA.cons (SE.var 7) SA.nil))) SA.nil))))) SA.nil)) SA.nil))))))
theorem sc_outflow : FnScope ["network", "worths", "point", "table", "other", "weight"] ["network", "worths", "point"] (defScope s_outflow) := ⟨rfl, rfl, rfl, by decide +kernel, rfl, by decide +kernel, by decide +kernel⟩
theorem g_outflow (T : Txt K mg z) (nd : base.NoDigits) : FnG P w K mg base 3 z.a_outflow z.fd_outflow ["network", "worths", "point"] M_outflow := by
  refine fnG_of (N := ["network", "worths", "point", "table", "other", "weight"]) T.d_outflow.F sc_outflow fun cdv A outer s H E hr hgu => ?_
  have hu := hr.units
  exact (SB.cons (SS.set 3 sc_outflow.nd (by rfl) (Or.inr (by rfl)) (SE.dictP (by rfl) (by rfl) T.n_dict (SA.cons (SE.var 1) SA.nil)))
    (SB.one (SS.ret (SE.fn T.d_total_of (g_total_of T nd) mir_len hr (by decide) hgu tkD (by rfl) T.b_total_of (SA.cons (SE.lcV (own := [("other", 4), ("weight", 5)]) (by rfl) sc_outflow.nd (SI.seq (SE.fn T.d_pairs_of (g_pairs_of T nd) mir_len hr (by decide) hgu tkD (by rfl) T.b_pairs_of (SA.cons (SE.var 0) (SA.cons (SE.var 2) SA.nil)))) (blkOk_by (N := ["network", "worths", "point", "table", "other", "weight"]) (sc := defScope s_outflow) (by decide +kernel)) (by decide) (fun _ _ _ _ _ => (SG.tup (by rfl) (SGs.cons (SG.name 4 sc_outflow.nd (by rfl) (Or.inl (by rfl))) (SGs.cons (SG.name 5 sc_outflow.nd (by rfl) (Or.inl (by rfl))) SGs.nil)))) (fun _ _ _ _ _ => STs.nil) (fun _ _ _ _ _ => (SE.fn T.d_times (g_times T nd) mir_len hr (by decide) hgu tk0 (by rfl) T.b_times (SA.cons (SE.var 5) (SA.cons (SE.fn T.d_minus (g_minus T nd) mir_len hr (by decide) hgu tk0 (by rfl) T.b_minus (SA.cons (SE.dgI hu (SE.var 3) (SE.var 2)) (SA.cons (SE.dgI hu (SE.var 3) (SE.var 4)) SA.nil))) SA.nil))))) SA.nil)))))
theorem sc_tied_more : FnScope ["network", "low", "high", "more", "table"] ["network", "low", "high", "more"] (defScope s_tied_more) := ⟨rfl, rfl, rfl, by decide +kernel, rfl, by decide +kernel, by decide +kernel⟩
theorem g_tied_more (T : Txt K mg z) (nd : base.NoDigits) : FnG P w K mg base 3 z.a_tied_more z.fd_tied_more ["network", "low", "high", "more"] M_tied_more := by
  refine fnG_of (N := ["network", "low", "high", "more", "table"]) T.d_tied_more.F sc_tied_more fun cdv A outer s H E hr hgu => ?_
  have hu := hr.units
  exact (SB.cons (SS.set 4 sc_tied_more.nd (by rfl) (Or.inl (by rfl)) (SE.fn T.d_ties_by_point (g_ties_by_point T nd) mir_len hr (by decide) hgu tkD (by rfl) T.b_ties_by_point (SA.cons (SE.var 0) SA.nil)))
    (SB.cons (SS.expr (SE.fn T.d_tie_more (g_tie_more T nd) mir_len hr (by decide) hgu tkD (by rfl) T.b_tie_more (SA.cons (SE.var 4) (SA.cons (SE.var 1) (SA.cons (SE.var 2) (SA.cons (SE.var 3) SA.nil))))))
    (SB.one (SS.ret (SE.fn T.d_network_in (g_network_in T nd) mir_len hr (by decide) hgu tkD (by rfl) T.b_network_in (SA.cons (SE.var 4) SA.nil))))))
theorem sc__law_some : FnScope ["deal", "size", "top", "bottom"] ["deal", "size"] (defScope s__law_some) := ⟨rfl, rfl, rfl, by decide +kernel, rfl, by decide +kernel, by decide +kernel⟩
theorem g__law_some (T : Txt K mg z) (nd : base.NoDigits) : FnG P w K mg base 3 z.a__law_some z.fd__law_some ["deal", "size"] M__law_some := by
  refine fnG_of (N := ["deal", "size", "top", "bottom"]) T.d__law_some.F sc__law_some fun cdv A outer s H E hr hgu => ?_
  have hu := hr.units
  exact (SB.cons (SS.set 2 sc__law_some.nd (by rfl) (Or.inl (by rfl)) (SE.sub (SE.fn T.d__law_any (g__law_any T nd) mir_len hr (by decide) hgu tkD (by rfl) T.b__law_any (SA.cons (SE.var 0) (SA.cons (SE.add (SE.mul SE.int (SE.var 1)) SE.int) SA.nil))) (SE.var 1)))
    (SB.cons (SS.set 3 sc__law_some.nd (by rfl) (Or.inl (by rfl)) (SE.add SE.int (SE.fn T.d__law_any (g__law_any T nd) mir_len hr (by decide) hgu tkD (by rfl) T.b__law_any (SA.cons (SE.var 0) (SA.cons (SE.fn T.d__law_of (g__law_of T nd) mir_len hr (by decide) hgu tkD (by rfl) T.b__law_of (SA.cons (SE.var 0) (SA.cons (SE.lst (SA.cons SE.int (SA.cons SE.int (SA.cons SE.int SA.nil)))) SA.nil))) SA.nil)))))
    (SB.cons (SS.ifS (ST.eq hu (SE.fn T.d__law_any (g__law_any T nd) mir_len hr (by decide) hgu tkD (by rfl) T.b__law_any (SA.cons (SE.var 0) (SA.cons SE.int SA.nil))) SE.int) (SB.one (SS.ret (SE.fn T.d__law_frac (g__law_frac T nd) mir_len hr (by decide) hgu tkD (by rfl) T.b__law_frac (SA.cons (SE.add (SE.var 2) (SE.fn T.d__law_any (g__law_any T nd) mir_len hr (by decide) hgu tkD (by rfl) T.b__law_any (SA.cons (SE.var 0) (SA.cons (SE.pow SE.int SE.int) SA.nil)))) (SA.cons (SE.add (SE.var 3) (SE.fn T.d__law_any (g__law_any T nd) mir_len hr (by decide) hgu tkD (by rfl) T.b__law_any (SA.cons (SE.var 0) (SA.cons (SE.pow SE.int SE.int) SA.nil)))) SA.nil))))) SB.nil)
    (SB.one (SS.ret (SE.fn T.d__law_frac (g__law_frac T nd) mir_len hr (by decide) hgu tkD (by rfl) T.b__law_frac (SA.cons (SE.var 2) (SA.cons (SE.var 3) SA.nil))))))))
theorem sc__law_energy : FnScope ["ties", "known", "found", "low", "high", "weight", "gap"] ["ties", "known"] (defScope s__law_energy) := ⟨rfl, rfl, rfl, by decide +kernel, rfl, by decide +kernel, by decide +kernel⟩
theorem g__law_energy (T : Txt K mg z) (nd : base.NoDigits) : FnG P w K mg base 3 z.a__law_energy z.fd__law_energy ["ties", "known"] M__law_energy := by
  refine fnG_of (N := ["ties", "known", "found", "low", "high", "weight", "gap"]) T.d__law_energy.F sc__law_energy fun cdv A outer s H E hr hgu => ?_
  have hu := hr.units
  exact (SB.cons (SS.set 2 sc__law_energy.nd (by rfl) (Or.inl (by rfl)) (SE.tup (SA.cons SE.int (SA.cons SE.int SA.nil))))
    (SB.cons (SS.forS poD (by rfl) (SI.seq (SE.var 0)) (SG.tup (by rfl) (SGs.cons (SG.name 3 sc__law_energy.nd (by rfl) (Or.inl (by rfl))) (SGs.cons (SG.name 4 sc__law_energy.nd (by rfl) (Or.inl (by rfl))) (SGs.cons (SG.name 5 sc__law_energy.nd (by rfl) (Or.inl (by rfl))) SGs.nil)))) (SB.cons (SS.set 6 sc__law_energy.nd (by rfl) (Or.inl (by rfl)) (SE.fn T.d__law_less (g__law_less T nd) mir_len hr (by decide) hgu tkD (by rfl) T.b__law_less (SA.cons (SE.dgI hu (SE.var 1) (SE.var 3)) (SA.cons (SE.dgI hu (SE.var 1) (SE.var 4)) SA.nil))))
    (SB.one (SS.set 2 sc__law_energy.nd (by rfl) (Or.inl (by rfl)) (SE.fn T.d__law_plus (g__law_plus T nd) mir_len hr (by decide) hgu tkD (by rfl) T.b__law_plus (SA.cons (SE.var 2) (SA.cons (SE.fn T.d__law_times (g__law_times T nd) mir_len hr (by decide) hgu tkD (by rfl) T.b__law_times (SA.cons (SE.var 5) (SA.cons (SE.fn T.d__law_times (g__law_times T nd) mir_len hr (by decide) hgu tkD (by rfl) T.b__law_times (SA.cons (SE.var 6) (SA.cons (SE.var 6) SA.nil))) SA.nil))) SA.nil)))))))
    (SB.one (SS.ret (SE.fn T.d__law_times (g__law_times T nd) mir_len hr (by decide) hgu tkD (by rfl) T.b__law_times (SA.cons (SE.tup (SA.cons SE.int (SA.cons SE.int SA.nil))) (SA.cons (SE.var 2) SA.nil)))))))
theorem sc__law_out : FnScope ["ties", "known", "point", "found", "low", "high", "weight"] ["ties", "known", "point"] (defScope s__law_out) := ⟨rfl, rfl, rfl, by decide +kernel, rfl, by decide +kernel, by decide +kernel⟩
theorem g__law_out (T : Txt K mg z) (nd : base.NoDigits) : FnG P w K mg base 3 z.a__law_out z.fd__law_out ["ties", "known", "point"] M__law_out := by
  refine fnG_of (N := ["ties", "known", "point", "found", "low", "high", "weight"]) T.d__law_out.F sc__law_out fun cdv A outer s H E hr hgu => ?_
  have hu := hr.units
  exact (SB.cons (SS.set 3 sc__law_out.nd (by rfl) (Or.inl (by rfl)) (SE.tup (SA.cons SE.int (SA.cons SE.int SA.nil))))
    (SB.cons (SS.forS poD (by rfl) (SI.seq (SE.var 0)) (SG.tup (by rfl) (SGs.cons (SG.name 4 sc__law_out.nd (by rfl) (Or.inl (by rfl))) (SGs.cons (SG.name 5 sc__law_out.nd (by rfl) (Or.inl (by rfl))) (SGs.cons (SG.name 6 sc__law_out.nd (by rfl) (Or.inl (by rfl))) SGs.nil)))) (SB.one (SS.ifS (SW.pt (SW.or (ST.eq hu (SE.var 2) (SE.var 4)) (SW.or1 (ST.eq hu (SE.var 2) (SE.var 5))))) (SB.one (SS.set 3 sc__law_out.nd (by rfl) (Or.inl (by rfl)) (SE.fn T.d__law_plus (g__law_plus T nd) mir_len hr (by decide) hgu tkD (by rfl) T.b__law_plus (SA.cons (SE.var 3) (SA.cons (SE.fn T.d__law_times (g__law_times T nd) mir_len hr (by decide) hgu tkD (by rfl) T.b__law_times (SA.cons (SE.var 6) (SA.cons (SE.fn T.d__law_less (g__law_less T nd) mir_len hr (by decide) hgu tkD (by rfl) T.b__law_less (SA.cons (SE.dgI hu (SE.var 1) (SE.var 2)) (SA.cons (SE.dgI hu (SE.var 1) (SE.sub (SE.add (SE.var 4) (SE.var 5)) (SE.var 2))) SA.nil))) SA.nil))) SA.nil))))) SB.nil)))
    (SB.one (SS.ret (SE.var 3)))))
theorem sc__law_turned : FnScope ["deal", "network", "points", "ties", "kind", "at", "low", "high", "weight", "new"] ["deal", "network"] (defScope s__law_turned) := ⟨rfl, rfl, rfl, by decide +kernel, rfl, by decide +kernel, by decide +kernel⟩
theorem g__law_turned (T : Txt K mg z) (nd : base.NoDigits) : FnG P w K mg base 3 z.a__law_turned z.fd__law_turned ["deal", "network"] M__law_turned := by
  refine fnG_of (N := ["deal", "network", "points", "ties", "kind", "at", "low", "high", "weight", "new"]) T.d__law_turned.F sc__law_turned fun cdv A outer s H E hr hgu => ?_
  have hu := hr.units
  exact (SB.cons (SS.asg (SE.var 1) (SG.tup (by rfl) (SGs.cons (SG.name 2 sc__law_turned.nd (by rfl) (Or.inl (by rfl))) (SGs.cons (SG.name 3 sc__law_turned.nd (by rfl) (Or.inl (by rfl))) SGs.nil))))
    (SB.cons (SS.set 4 sc__law_turned.nd (by rfl) (Or.inl (by rfl)) (SE.fn T.d__law_any (g__law_any T nd) mir_len hr (by decide) hgu tkD (by rfl) T.b__law_any (SA.cons (SE.var 0) (SA.cons SE.int SA.nil))))
    (SB.cons (SS.ifS (ST.eq hu (SE.var 4) SE.int) (SB.one (SS.ret (SE.fn T.d__law_of (g__law_of T nd) mir_len hr (by decide) hgu tkD (by rfl) T.b__law_of (SA.cons (SE.var 0) (SA.cons (SE.lst (SA.cons SE.non (SA.cons SE.bl (SA.cons SE.int (SA.cons SE.str (SA.cons (SE.tup SA.nil) (SA.cons (SE.lst SA.nil) (SA.cons (SE.tup (SA.cons (SE.var 2) SA.nil)) (SA.cons (SE.lst (SA.cons (SE.var 2) (SA.cons (SE.var 3) SA.nil))) (SA.cons (SE.tup (SA.cons (SE.var 2) (SA.cons (SE.var 3) (SA.cons (SE.tup SA.nil) SA.nil)))) (SA.cons (SE.tup (SA.cons (SE.list1 (by rfl) T.n_list (SA.cons (SE.var 2) SA.nil)) (SA.cons (SE.var 3) SA.nil))) SA.nil))))))))))) SA.nil))))) SB.nil)
    (SB.cons (SS.ifS (ST.eq hu (SE.var 4) SE.int) (SB.one (SS.ret (SE.tup (SA.cons (SE.add (SE.var 2) (SE.tup (SA.cons (SE.fn T.d__law_of (g__law_of T nd) mir_len hr (by decide) hgu tkD (by rfl) T.b__law_of (SA.cons (SE.var 0) (SA.cons (SE.lst (SA.cons (SE.ix (SE.var 2) (SE.neg SE.int)) (SA.cons (SE.sub (SE.ix (SE.var 2) SE.int) SE.int) (SA.cons (SE.add (SE.ix (SE.var 2) (SE.neg SE.int)) SE.int) (SA.cons SE.bl (SA.cons (SE.neg SE.int) (SA.cons SE.non (SA.cons SE.str SA.nil)))))))) SA.nil))) SA.nil))) (SA.cons (SE.var 3) SA.nil))))) SB.nil)
    (SB.cons (SS.ifS (ST.eq hu (SE.var 3) (SE.tup SA.nil)) (SB.one (SS.ret (SE.tup (SA.cons (SE.var 2) (SA.cons (SE.tup (SA.cons (SE.tup (SA.cons (SE.ix (SE.var 2) SE.int) (SA.cons (SE.ix (SE.var 2) SE.int) (SA.cons (SE.tup (SA.cons SE.int (SA.cons SE.int SA.nil))) SA.nil)))) SA.nil)) SA.nil))))) SB.nil)
    (SB.cons (SS.set 5 sc__law_turned.nd (by rfl) (Or.inl (by rfl)) (SE.fn T.d__law_any (g__law_any T nd) mir_len hr (by decide) hgu tkD (by rfl) T.b__law_any (SA.cons (SE.var 0) (SA.cons (SE.len (by rfl) T.n_len (SA.cons (SE.var 3) SA.nil)) SA.nil))))
    (SB.cons (SS.asg (SE.ix (SE.var 3) (SE.var 5)) (SG.tup (by rfl) (SGs.cons (SG.name 6 sc__law_turned.nd (by rfl) (Or.inl (by rfl))) (SGs.cons (SG.name 7 sc__law_turned.nd (by rfl) (Or.inl (by rfl))) (SGs.cons (SG.name 8 sc__law_turned.nd (by rfl) (Or.inl (by rfl))) SGs.nil)))))
    (SB.cons (SS.set 9 sc__law_turned.nd (by rfl) (Or.inl (by rfl)) (SE.lst (SA.cons (SE.tup (SA.cons (SE.var 7) (SA.cons (SE.var 6) (SA.cons (SE.var 8) SA.nil)))) (SA.cons (SE.tup (SA.cons (SE.var 6) (SA.cons (SE.var 7) SA.nil))) (SA.cons (SE.tup (SA.cons (SE.var 6) (SA.cons (SE.var 7) (SA.cons (SE.var 8) (SA.cons (SE.var 8) SA.nil))))) (SA.cons (SE.tup (SA.cons (SE.var 6) (SA.cons (SE.var 6) (SA.cons (SE.var 8) SA.nil)))) (SA.cons (SE.lst (SA.cons (SE.var 6) (SA.cons (SE.var 7) (SA.cons (SE.var 8) SA.nil)))) SA.nil)))))))
    (SB.cons (SS.set 9 sc__law_turned.nd (by rfl) (Or.inl (by rfl)) (SE.add (SE.var 9) (SE.lst (SA.cons (SE.tup (SA.cons (SE.var 6) (SA.cons (SE.pow SE.int SE.int) (SA.cons (SE.var 8) SA.nil)))) (SA.cons (SE.tup (SA.cons (SE.var 6) (SA.cons (SE.var 7) (SA.cons (SE.tup (SA.cons SE.int (SA.cons SE.int SA.nil))) SA.nil)))) (SA.cons (SE.tup (SA.cons (SE.var 6) (SA.cons (SE.var 7) (SA.cons (SE.ix (SE.var 8) SE.int) SA.nil)))) (SA.cons (SE.tup (SA.cons (SE.var 6) (SA.cons SE.bl (SA.cons (SE.var 8) SA.nil)))) (SA.cons (SE.tup (SA.cons (SE.var 6) (SA.cons (SE.var 7) (SA.cons SE.non SA.nil)))) SA.nil))))))))
    (SB.cons (SS.set 9 sc__law_turned.nd (by rfl) (Or.inl (by rfl)) (SE.add (SE.var 9) (SE.lst (SA.cons (SE.tup (SA.cons (SE.var 6) (SA.cons (SE.var 7) (SA.cons (SE.tup (SA.cons (SE.mul SE.int (SE.ix (SE.var 8) SE.int)) (SA.cons (SE.mul SE.int (SE.ix (SE.var 8) SE.int)) SA.nil))) SA.nil)))) (SA.cons (SE.tup (SA.cons (SE.var 6) (SA.cons (SE.var 7) (SA.cons (SE.tup (SA.cons (SE.ix (SE.var 8) SE.int) (SA.cons (SE.neg (SE.ix (SE.var 8) SE.int)) SA.nil))) SA.nil)))) (SA.cons (SE.tup (SA.cons (SE.var 6) (SA.cons (SE.var 7) (SA.cons (SE.tup (SA.cons SE.bl (SA.cons SE.int SA.nil))) SA.nil)))) SA.nil))))))
    (SB.cons (SS.ifS (ST.lt (SE.var 4) SE.int) (SB.one (SS.ret (SE.tup (SA.cons (SE.var 2) (SA.cons (SE.add (SE.add (SE.slice (SE.var 3) SO.none (SO.some (SE.var 5))) (SE.tup (SA.cons (SE.fn T.d__law_of (g__law_of T nd) mir_len hr (by decide) hgu tkD (by rfl) T.b__law_of (SA.cons (SE.var 0) (SA.cons (SE.var 9) SA.nil))) SA.nil))) (SE.slice (SE.var 3) (SO.some (SE.add (SE.var 5) SE.int)) SO.none)) SA.nil))))) SB.nil)
    (SB.one (SS.ret (SE.ifExp (ST.eq hu (SE.var 4) SE.int) (SE.tup (SA.cons (SE.var 2) (SA.cons (SE.add (SE.var 3) (SE.tup (SA.cons (SE.ix (SE.var 3) (SE.var 5)) SA.nil))) SA.nil))) (SE.tup (SA.cons (SE.var 2) (SA.cons (SE.slT (by decide) (by decide) (SE.var 3) SO.none SO.none stepc_neg) SA.nil)))))))))))))))))
theorem sc__law_is_net : FnScope ["value", "at", "last", "tie"] ["value"] (defScope s__law_is_net) := ⟨rfl, rfl, rfl, by decide +kernel, rfl, by decide +kernel, by decide +kernel⟩
theorem g__law_is_net (T : Txt K mg z) (nd : base.NoDigits) : FnG P w K mg base 3 z.a__law_is_net z.fd__law_is_net ["value"] M__law_is_net := by
  refine fnG_of (N := ["value", "at", "last", "tie"]) T.d__law_is_net.F sc__law_is_net fun cdv A outer s H E hr hgu => ?_
  have hu := hr.units
  exact (SB.cons (SS.ifS (SW.pt (SW.or (ST.not (ST.val (SE.isi (p2 := ⟨0, 0, 0, 0⟩) (T := "tuple") (by rfl) T.n_isinstance (by rfl) T.n_tuple (by decide +kernel) (SE.var 0)))) (SW.or (ST.ne hu (SE.len (by rfl) T.n_len (SA.cons (SE.var 0) SA.nil)) SE.int) (SW.or (ST.not (ST.val (SE.isi (p2 := ⟨0, 0, 0, 0⟩) (T := "tuple") (by rfl) T.n_isinstance (by rfl) T.n_tuple (by decide +kernel) (SE.ix (SE.var 0) SE.int)))) (SW.or1 (ST.not (ST.val (SE.isi (p2 := ⟨0, 0, 0, 0⟩) (T := "tuple") (by rfl) T.n_isinstance (by rfl) T.n_tuple (by decide +kernel) (SE.ix (SE.var 0) SE.int))))))))) (SB.one (SS.ret SE.bl)) SB.nil)
    (SB.cons (SS.forS poD (by rfl) (SI.range1 (by rfl) T.n_range (SA.cons (SE.len (by rfl) T.n_len (SA.cons (SE.ix (SE.var 0) SE.int) SA.nil)) SA.nil)) (SG.name 1 sc__law_is_net.nd (by rfl) (Or.inl (by rfl))) (SB.one (SS.ifS (SW.pt (SW.or (ST.not (ST.val (SE.fn T.d__law_is_number (g__law_is_number T nd) mir_len hr (by decide) hgu tkD (by rfl) T.b__law_is_number (SA.cons (SE.ix (SE.ix (SE.var 0) SE.int) (SE.var 1)) SA.nil)))) (SW.or1 (SW.pt (SW.and (ST.gt (SE.var 1) SE.int) (SW.and1 (ST.le (SE.ix (SE.ix (SE.var 0) SE.int) (SE.var 1)) (SE.ix (SE.ix (SE.var 0) SE.int) (SE.sub (SE.var 1) SE.int))))))))) (SB.one (SS.ret SE.bl)) SB.nil)))
    (SB.cons (SS.set 2 sc__law_is_net.nd (by rfl) (Or.inl (by rfl)) (SE.tup (SA.cons (SE.neg SE.int) (SA.cons (SE.neg SE.int) SA.nil))))
    (SB.cons (SS.forS poD (by rfl) (SI.seq (SE.ix (SE.var 0) SE.int)) (SG.name 3 sc__law_is_net.nd (by rfl) (Or.inl (by rfl))) (SB.cons (SS.ifS (SW.pt (SW.or (ST.not (ST.val (SE.isi (p2 := ⟨0, 0, 0, 0⟩) (T := "tuple") (by rfl) T.n_isinstance (by rfl) T.n_tuple (by decide +kernel) (SE.var 3)))) (SW.or (ST.ne hu (SE.len (by rfl) T.n_len (SA.cons (SE.var 3) SA.nil)) SE.int) (SW.or (ST.not (ST.val (SE.fn T.d__law_is_number (g__law_is_number T nd) mir_len hr (by decide) hgu tkD (by rfl) T.b__law_is_number (SA.cons (SE.ix (SE.var 3) SE.int) SA.nil)))) (SW.or1 (ST.not (ST.val (SE.fn T.d__law_is_number (g__law_is_number T nd) mir_len hr (by decide) hgu tkD (by rfl) T.b__law_is_number (SA.cons (SE.ix (SE.var 3) SE.int) SA.nil))))))))) (SB.one (SS.ret SE.bl)) SB.nil)
    (SB.cons (SS.ifS (SW.pt (SW.or (ST.ge (SE.ix (SE.var 3) SE.int) (SE.ix (SE.var 3) SE.int)) (SW.or (ST.notInD (SE.ix (SE.var 3) SE.int) (SE.ix (SE.var 0) SE.int)) (SW.or (ST.notInD (SE.ix (SE.var 3) SE.int) (SE.ix (SE.var 0) SE.int)) (SW.or1 (ST.not (ST.val (SE.fn T.d__law_is_weight (g__law_is_weight T nd) mir_len hr (by decide) hgu tkD (by rfl) T.b__law_is_weight (SA.cons (SE.ix (SE.var 3) SE.int) SA.nil))))))))) (SB.one (SS.ret SE.bl)) SB.nil)
    (SB.cons (SS.ifS (ST.leT hu (SE.tup (SA.cons (SE.ix (SE.var 3) SE.int) (SA.cons (SE.ix (SE.var 3) SE.int) SA.nil))) (SE.var 2)) (SB.one (SS.ret SE.bl)) SB.nil)
    (SB.one (SS.set 2 sc__law_is_net.nd (by rfl) (Or.inl (by rfl)) (SE.tup (SA.cons (SE.ix (SE.var 3) SE.int) (SA.cons (SE.ix (SE.var 3) SE.int) SA.nil)))))))))
    (SB.one (SS.ret SE.bl))))))
theorem sc_is_fraction : FnScope ["value"] ["value"] (defScope s_is_fraction) := ⟨rfl, rfl, rfl, by decide +kernel, rfl, by decide +kernel, by decide +kernel⟩
theorem g_is_fraction (T : Txt K mg z) (nd : base.NoDigits) : FnG P w K mg base 4 z.a_is_fraction z.fd_is_fraction ["value"] M_is_fraction := by
  refine fnG_of (N := ["value"]) T.d_is_fraction.F sc_is_fraction fun cdv A outer s H E hr hgu => ?_
  have hu := hr.units
  exact (SB.one (SS.ret (SE.isN (SE.fn T.d__fault_of (g__fault_of T nd) mir_len hr (by decide) hgu tkD (by rfl) T.b__fault_of (SA.cons (SE.var 0) SA.nil)) SE.non)))
theorem sc_dropped : FnScope ["network", "point", "table"] ["network", "point"] (defScope s_dropped) := ⟨rfl, rfl, rfl, by decide +kernel, rfl, by decide +kernel, by decide +kernel⟩
theorem g_dropped (T : Txt K mg z) (nd : base.NoDigits) : FnG P w K mg base 4 z.a_dropped z.fd_dropped ["network", "point"] M_dropped := by
  refine fnG_of (N := ["network", "point", "table"]) T.d_dropped.F sc_dropped fun cdv A outer s H E hr hgu => ?_
  have hu := hr.units
  exact (SB.cons (SS.set 2 sc_dropped.nd (by rfl) (Or.inl (by rfl)) (SE.fn T.d_ties_by_point (g_ties_by_point T nd) mir_len hr (by decide) hgu tkD (by rfl) T.b_ties_by_point (SA.cons (SE.var 0) SA.nil)))
    (SB.cons (SS.expr (SE.fn T.d_drop_point (g_drop_point T nd) mir_len hr (by decide) hgu tkD (by rfl) T.b_drop_point (SA.cons (SE.var 2) (SA.cons (SE.var 1) SA.nil))))
    (SB.one (SS.ret (SE.fn T.d_network_in (g_network_in T nd) mir_len hr (by decide) hgu tkD (by rfl) T.b_network_in (SA.cons (SE.var 2) SA.nil))))))
theorem sc__law_net : FnScope ["deal", "many", "is_strict", "points", "last", "at", "ties", "other", "weight"] ["deal", "many", "is_strict"] (defScope s__law_net) := ⟨rfl, rfl, rfl, by decide +kernel, rfl, by decide +kernel, by decide +kernel⟩
theorem g__law_net (T : Txt K mg z) (nd : base.NoDigits) : FnG P w K mg base 4 z.a__law_net z.fd__law_net ["deal", "many", "is_strict"] M__law_net := by
  refine fnG_of (N := ["deal", "many", "is_strict", "points", "last", "at", "ties", "other", "weight"]) T.d__law_net.F sc__law_net fun cdv A outer s H E hr hgu => ?_
  have hu := hr.units
  exact (SB.cons (SS.par 3 4 (by rfl) sc__law_net.nd (by rfl) (by rfl) (by decide) (by rfl) (by rfl) (SA.cons (SE.loc SA.nil) (SA.cons SE.int SA.nil)) (by rfl))
    (SB.cons (SS.forS poD (by rfl) (SI.range1 (by rfl) T.n_range (SA.cons (SE.var 1) SA.nil)) (SG.name 5 sc__law_net.nd (by rfl) (Or.inl (by rfl))) (SB.cons (SS.set 4 sc__law_net.nd (by rfl) (Or.inl (by rfl)) (SE.add (SE.add (SE.var 4) (SE.fn T.d__law_any (g__law_any T nd) mir_len hr (by decide) hgu tkD (by rfl) T.b__law_any (SA.cons (SE.var 0) (SA.cons (SE.fn T.d__law_of (g__law_of T nd) mir_len hr (by decide) hgu tkD (by rfl) T.b__law_of (SA.cons (SE.var 0) (SA.cons (SE.lst (SA.cons SE.int (SA.cons SE.int (SA.cons SE.int SA.nil)))) SA.nil))) SA.nil)))) (SE.ifExp (ST.gt (SE.var 5) SE.int) SE.int SE.int)))
    (SB.one (SS.expr (SE.append (SE.var 3) (SA.cons (SE.var 4) SA.nil))))))
    (SB.cons (SS.set 6 sc__law_net.nd (by rfl) (Or.inl (by rfl)) (SE.loc SA.nil))
    (SB.cons (SS.forS poD (by rfl) (SI.range1 (by rfl) T.n_range (SA.cons (SE.var 1) SA.nil)) (SG.name 5 sc__law_net.nd (by rfl) (Or.inl (by rfl))) (SB.one (SS.forS poD (by rfl) (SI.range1 (by rfl) T.n_range (SA.cons (SE.var 5) SA.nil)) (SG.name 7 sc__law_net.nd (by rfl) (Or.inl (by rfl))) (SB.one (SS.ifS (ST.gt (SE.fn T.d__law_any (g__law_any T nd) mir_len hr (by decide) hgu tkD (by rfl) T.b__law_any (SA.cons (SE.var 0) (SA.cons SE.int SA.nil))) SE.int) (SB.cons (SS.set 8 sc__law_net.nd (by rfl) (Or.inl (by rfl)) (SE.fn T.d__law_some (g__law_some T nd) mir_len hr (by decide) hgu tkD (by rfl) T.b__law_some (SA.cons (SE.var 0) (SA.cons SE.int SA.nil))))
    (SB.cons (SS.set 8 sc__law_net.nd (by rfl) (Or.inl (by rfl)) (SE.ifExp (SW.pt (SW.or (ST.tru (SE.var 2)) (SW.or1 (ST.gt (SE.fn T.d__law_any (g__law_any T nd) mir_len hr (by decide) hgu tkD (by rfl) T.b__law_any (SA.cons (SE.var 0) (SA.cons SE.int SA.nil))) SE.int)))) (SE.tup (SA.cons (SE.abs (by rfl) T.n_abs (SA.cons (SE.ix (SE.var 8) SE.int) SA.nil)) (SA.cons (SE.ix (SE.var 8) SE.int) SA.nil))) (SE.var 8)))
    (SB.one (SS.expr (SE.append (SE.var 6) (SA.cons (SE.tup (SA.cons (SE.ix (SE.var 3) (SE.var 7)) (SA.cons (SE.ix (SE.var 3) (SE.var 5)) (SA.cons (SE.ifExp (ST.ne hu (SE.ix (SE.var 8) SE.int) SE.int) (SE.var 8) (SE.tup (SA.cons SE.int (SA.cons SE.int SA.nil)))) SA.nil)))) SA.nil)))))) SB.nil)))))
    (SB.one (SS.ret (SE.tup (SA.cons (SE.tup1 (by rfl) T.n_tuple (SA.cons (SE.var 3) SA.nil)) (SA.cons (SE.tup1 (by rfl) T.n_tuple (SA.cons (SE.sortD (by rfl) T.n_sorted hu (SA.cons (SE.var 6) SA.nil)) SA.nil)) SA.nil)))))))))
theorem sc__law_sums : FnScope ["deal", "network", "points", "ties", "worths", "point", "known", "pairs", "tie", "pull", "other", "weight"] ["deal", "network"] (defScope s__law_sums) := ⟨rfl, rfl, rfl, by decide +kernel, rfl, by decide +kernel, by decide +kernel⟩
theorem g__law_sums (T : Txt K mg z) (nd : base.NoDigits) : FnG P w K mg base 4 z.a__law_sums z.fd__law_sums ["deal", "network"] M__law_sums := by
  refine fnG_of (N := ["deal", "network", "points", "ties", "worths", "point", "known", "pairs", "tie", "pull", "other", "weight"]) T.d__law_sums.F sc__law_sums fun cdv A outer s H E hr hgu => ?_
  have hu := hr.units
  exact (SB.cons (SS.asg (SE.var 1) (SG.tup (by rfl) (SGs.cons (SG.name 2 sc__law_sums.nd (by rfl) (Or.inl (by rfl))) (SGs.cons (SG.name 3 sc__law_sums.nd (by rfl) (Or.inl (by rfl))) SGs.nil))))
    (SB.cons (SS.set 4 sc__law_sums.nd (by rfl) (Or.inl (by rfl)) (SE.tup1K (by rfl) T.n_tuple (SA.cons (SE.lcV (own := [("point", 5)]) (by rfl) sc__law_sums.nd (SI.seq (SE.var 2)) (blkOk_by (N := ["deal", "network", "points", "ties", "worths", "point", "known", "pairs", "tie", "pull", "other", "weight"]) (sc := defScope s__law_sums) (by decide +kernel)) (by decide) (fun _ _ _ _ _ => (SG.name 5 sc__law_sums.nd (by rfl) (Or.inl (by rfl)))) (fun _ _ _ _ _ => STs.nil) (fun _ _ _ _ _ => (SE.tup (SA.cons (SE.var 5) (SA.cons (SE.fn T.d__law_some (g__law_some T nd) mir_len hr (by decide) hgu tk0 (by rfl) T.b__law_some (SA.cons (SE.var 0) (SA.cons SE.int SA.nil))) SA.nil))))) SA.nil)))
    (SB.cons (SS.set 6 sc__law_sums.nd (by rfl) (Or.inl (by rfl)) (SE.dictP (by rfl) (by rfl) T.n_dict (SA.cons (SE.var 4) SA.nil)))
    (SB.cons (SS.ifS (ST.ne hu (SE.reprW nd hgu hu (by rfl) T.n_repr (SA.cons (SE.fnK T.d_network_energy (g_network_energy T nd) mir_len hr (by decide) hgu tkD (by rfl) T.k_network_energy_network_worths (SKw.cons (SE.var 1) (SKw.cons (SE.var 4) SKw.nil))) SA.nil)) (SE.reprW nd hgu hu (by rfl) T.n_repr (SA.cons (SE.fn T.d__law_energy (g__law_energy T nd) mir_len hr (by decide) hgu tkD (by rfl) T.b__law_energy (SA.cons (SE.var 3) (SA.cons (SE.var 6) SA.nil))) SA.nil))) (SB.one (SS.ret SE.bl)) SB.nil)
    (SB.cons (SS.forS poD (by rfl) (SI.seq (SE.var 2)) (SG.name 5 sc__law_sums.nd (by rfl) (Or.inr (by rfl))) (SB.cons (SS.set 7 sc__law_sums.nd (by rfl) (Or.inl (by rfl)) (SE.sortD (by rfl) T.n_sorted hu (SA.cons (SE.lcV (own := [("tie", 8)]) (by rfl) sc__law_sums.nd (SI.seq (SE.var 3)) (blkOk_by (N := ["deal", "network", "points", "ties", "worths", "point", "known", "pairs", "tie", "pull", "other", "weight"]) (sc := defScope s__law_sums) (by decide +kernel)) (by decide) (fun _ _ _ _ _ => (SG.name 8 sc__law_sums.nd (by rfl) (Or.inl (by rfl)))) (fun _ _ _ _ _ => (STs.one (ST.inT hu (SE.var 5) (SE.slice (SE.var 8) SO.none (SO.some SE.int))))) (fun _ _ _ _ _ => (SE.tup (SA.cons (SE.sub (SE.add (SE.ix (SE.var 8) SE.int) (SE.ix (SE.var 8) SE.int)) (SE.var 5)) (SA.cons (SE.ix (SE.var 8) SE.int) SA.nil))))) SA.nil)))
    (SB.cons (SS.set 9 sc__law_sums.nd (by rfl) (Or.inl (by rfl)) (SE.tup (SA.cons SE.int (SA.cons SE.int SA.nil))))
    (SB.cons (SS.forS poD (by rfl) (SI.seq (SE.var 7)) (SG.tup (by rfl) (SGs.cons (SG.name 10 sc__law_sums.nd (by rfl) (Or.inl (by rfl))) (SGs.cons (SG.name 11 sc__law_sums.nd (by rfl) (Or.inl (by rfl))) SGs.nil))) (SB.one (SS.set 9 sc__law_sums.nd (by rfl) (Or.inl (by rfl)) (SE.fn T.d__law_plus (g__law_plus T nd) mir_len hr (by decide) hgu tkD (by rfl) T.b__law_plus (SA.cons (SE.var 9) (SA.cons (SE.var 11) SA.nil))))))
    (SB.cons (SS.ifS (ST.ne hu (SE.repr hgu hu (by rfl) T.n_repr (SA.cons (SE.lst (SA.cons (SE.fnK T.d_pairs_of (g_pairs_of T nd) mir_len hr (by decide) hgu tkD (by rfl) T.k_pairs_of_network_point (SKw.cons (SE.var 1) (SKw.cons (SE.var 5) SKw.nil))) (SA.cons (SE.fnK T.d_pull_of (g_pull_of T nd) mir_len hr (by decide) hgu tkD (by rfl) T.k_pull_of_point_network (SKw.cons (SE.var 5) (SKw.cons (SE.var 1) SKw.nil))) SA.nil))) SA.nil)) (SE.repr hgu hu (by rfl) T.n_repr (SA.cons (SE.lst (SA.cons (SE.tup1 (by rfl) T.n_tuple (SA.cons (SE.var 7) SA.nil)) (SA.cons (SE.var 9) SA.nil))) SA.nil))) (SB.one (SS.ret SE.bl)) SB.nil)
    (SB.one (SS.ifS (ST.ne hu (SE.reprW nd hgu hu (by rfl) T.n_repr (SA.cons (SE.fnK T.d_outflow (g_outflow T nd) mir_len hr (by decide) hgu tkD (by rfl) T.k_outflow_worths_network_point (SKw.cons (SE.var 4) (SKw.cons (SE.var 1) (SKw.cons (SE.var 5) SKw.nil)))) SA.nil)) (SE.reprW nd hgu hu (by rfl) T.n_repr (SA.cons (SE.fn T.d__law_out (g__law_out T nd) mir_len hr (by decide) hgu tkD (by rfl) T.b__law_out (SA.cons (SE.var 3) (SA.cons (SE.var 6) (SA.cons (SE.var 5) SA.nil)))) SA.nil))) (SB.one (SS.ret SE.bl)) SB.nil)))))))
    (SB.one (SS.ret SE.bl)))))))
theorem sc__law_more : FnScope ["deal", "network", "points", "ties", "at", "low", "high", "here", "tie", "more", "rest", "new", "due"] ["deal", "network"] (defScope s__law_more) := ⟨rfl, rfl, rfl, by decide +kernel, rfl, by decide +kernel, by decide +kernel⟩
theorem g__law_more (T : Txt K mg z) (nd : base.NoDigits) : FnG P w K mg base 4 z.a__law_more z.fd__law_more ["deal", "network"] M__law_more := by
  refine fnG_of (N := ["deal", "network", "points", "ties", "at", "low", "high", "here", "tie", "more", "rest", "new", "due"]) T.d__law_more.F sc__law_more fun cdv A outer s H E hr hgu => ?_
  have hu := hr.units
  exact (SB.cons (SS.asg (SE.var 1) (SG.tup (by rfl) (SGs.cons (SG.name 2 sc__law_more.nd (by rfl) (Or.inl (by rfl))) (SGs.cons (SG.name 3 sc__law_more.nd (by rfl) (Or.inl (by rfl))) SGs.nil))))
    (SB.cons (SS.ifS (ST.lt (SE.len (by rfl) T.n_len (SA.cons (SE.var 2) SA.nil)) SE.int) (SB.one (SS.ret SE.bl)) SB.nil)
    (SB.cons (SS.set 4 sc__law_more.nd (by rfl) (Or.inl (by rfl)) (SE.fn T.d__law_any (g__law_any T nd) mir_len hr (by decide) hgu tkD (by rfl) T.b__law_any (SA.cons (SE.var 0) (SA.cons (SE.sub (SE.len (by rfl) T.n_len (SA.cons (SE.var 2) SA.nil)) SE.int) SA.nil))))
    (SB.cons (SS.asg (SE.tup (SA.cons (SE.ix (SE.var 2) (SE.var 4)) (SA.cons (SE.ix (SE.var 2) (SE.add (SE.add (SE.var 4) SE.int) (SE.fn T.d__law_any (g__law_any T nd) mir_len hr (by decide) hgu tkD (by rfl) T.b__law_any (SA.cons (SE.var 0) (SA.cons (SE.sub (SE.sub (SE.len (by rfl) T.n_len (SA.cons (SE.var 2) SA.nil)) SE.int) (SE.var 4)) SA.nil))))) SA.nil))) (SG.tup (by rfl) (SGs.cons (SG.name 5 sc__law_more.nd (by rfl) (Or.inr (by rfl))) (SGs.cons (SG.name 6 sc__law_more.nd (by rfl) (Or.inr (by rfl))) SGs.nil))))
    (SB.cons (SS.set 7 sc__law_more.nd (by rfl) (Or.inl (by rfl)) (SE.add (SE.lcV (own := [("tie", 8)]) (by rfl) sc__law_more.nd (SI.seq (SE.var 3)) (blkOk_by (N := ["deal", "network", "points", "ties", "at", "low", "high", "here", "tie", "more", "rest", "new", "due"]) (sc := defScope s__law_more) (by decide +kernel)) (by decide) (fun _ _ _ _ _ => (SG.name 8 sc__law_more.nd (by rfl) (Or.inl (by rfl)))) (fun _ _ _ _ _ => (STs.one (ST.eq hu (SE.slice (SE.var 8) SO.none (SO.some SE.int)) (SE.tup (SA.cons (SE.var 5) (SA.cons (SE.var 6) SA.nil)))))) (fun _ _ _ _ _ => (SE.ix (SE.var 8) SE.int))) (SE.lst (SA.cons (SE.tup (SA.cons SE.int (SA.cons SE.int SA.nil))) SA.nil))))
    (SB.cons (SS.set 9 sc__law_more.nd (by rfl) (Or.inl (by rfl)) (SE.fn T.d__law_of (g__law_of T nd) mir_len hr (by decide) hgu tkD (by rfl) T.b__law_of (SA.cons (SE.var 0) (SA.cons (SE.lst (SA.cons (SE.fn T.d__law_some (g__law_some T nd) mir_len hr (by decide) hgu tkD (by rfl) T.b__law_some (SA.cons (SE.var 0) (SA.cons SE.int SA.nil))) (SA.cons (SE.fn T.d__law_less (g__law_less T nd) mir_len hr (by decide) hgu tkD (by rfl) T.b__law_less (SA.cons (SE.tup (SA.cons SE.int (SA.cons SE.int SA.nil))) (SA.cons (SE.ix (SE.var 7) SE.int) SA.nil))) SA.nil))) SA.nil))))
    (SB.cons (SS.setLcV (i := 10) (own := [("tie", 8)]) (by rfl) sc__law_more.nd (SI.seq (SE.var 3)) (blkOk_by (N := ["deal", "network", "points", "ties", "at", "low", "high", "here", "tie", "more", "rest", "new", "due"]) (sc := defScope s__law_more) (by decide +kernel)) (by decide) (fun _ _ _ _ _ => (SG.name 8 sc__law_more.nd (by rfl) (Or.inl (by rfl)))) (fun _ _ _ _ _ => (STs.one (ST.ne hu (SE.slice (SE.var 8) SO.none (SO.some SE.int)) (SE.tup (SA.cons (SE.var 5) (SA.cons (SE.var 6) SA.nil)))))) (fun _ _ _ _ _ => (SE.var 8)) (by rfl) (by rfl) (sw_true (by rfl) (by rfl) (by rfl) (by decide +kernel)))
    (SB.cons (SS.set 11 sc__law_more.nd (by rfl) (Or.inl (by rfl)) (SE.fn T.d__law_plus (g__law_plus T nd) mir_len hr (by decide) hgu tkD (by rfl) T.b__law_plus (SA.cons (SE.ix (SE.var 7) SE.int) (SA.cons (SE.var 9) SA.nil))))
    (SB.cons (SS.set 12 sc__law_more.nd (by rfl) (Or.inl (by rfl)) (SE.tup (SA.cons (SE.var 2) (SA.cons (SE.tup1 (by rfl) T.n_tuple (SA.cons (SE.sortD (by rfl) T.n_sorted hu (SA.cons (SE.add (SE.var 10) (SE.ifExp (ST.ne hu (SE.ix (SE.var 11) SE.int) SE.int) (SE.lst (SA.cons (SE.tup (SA.cons (SE.var 5) (SA.cons (SE.var 6) (SA.cons (SE.var 11) SA.nil)))) SA.nil)) (SE.lst SA.nil))) SA.nil)) SA.nil)) SA.nil))))
    (SB.one (SS.ret (SE.eq hu (SE.reprW nd hgu hu (by rfl) T.n_repr (SA.cons (SE.fnK T.d_tied_more (g_tied_more T nd) mir_len hr (by decide) hgu tkD (by rfl) T.k_tied_more_network_low_more_high (SKw.cons (SE.var 1) (SKw.cons (SE.var 5) (SKw.cons (SE.var 9) (SKw.cons (SE.var 6) SKw.nil))))) SA.nil)) (SE.reprW nd hgu hu (by rfl) T.n_repr (SA.cons (SE.var 12) SA.nil))))))))))))))
theorem sc__is_tie : FnScope ["points", "value", "low", "high", "weight"] ["points", "value"] (defScope s__is_tie) := ⟨rfl, rfl, rfl, by decide +kernel, rfl, by decide +kernel, by decide +kernel⟩
theorem g__is_tie (T : Txt K mg z) (nd : base.NoDigits) : FnG P w K mg base 5 z.a__is_tie z.fd__is_tie ["points", "value"] M__is_tie := by
  refine fnG_of (N := ["points", "value", "low", "high", "weight"]) T.d__is_tie.F sc__is_tie fun cdv A outer s H E hr hgu => ?_
  have hu := hr.units
  exact (SB.cons (SS.ifS (ST.not (ST.val (SE.fn T.d_is_tuple_of (g_is_tuple_of T nd) mir_len hr (by decide) hgu tkD (by rfl) T.b_is_tuple_of (SA.cons (SE.var 1) (SA.cons SE.int SA.nil))))) (SB.one (SS.ret SE.bl)) SB.nil)
    (SB.cons (SS.asg (SE.var 1) (SG.tup (by rfl) (SGs.cons (SG.name 2 sc__is_tie.nd (by rfl) (Or.inl (by rfl))) (SGs.cons (SG.name 3 sc__is_tie.nd (by rfl) (Or.inl (by rfl))) (SGs.cons (SG.name 4 sc__is_tie.nd (by rfl) (Or.inl (by rfl))) SGs.nil)))))
    (SB.cons (SS.ifS (ST.not (SW.pt (SW.and (ST.val (SE.fn T.d_is_int (g_is_int T nd) mir_len hr (by decide) hgu tkD (by rfl) T.b_is_int (SA.cons (SE.var 2) SA.nil))) (SW.and (ST.val (SE.fn T.d_is_int (g_is_int T nd) mir_len hr (by decide) hgu tkD (by rfl) T.b_is_int (SA.cons (SE.var 3) SA.nil))) (SW.and1 (ST.val (SE.fn T.d_is_fraction (g_is_fraction T nd) mir_len hr (by decide) hgu tkD (by rfl) T.b_is_fraction (SA.cons (SE.var 4) SA.nil)))))))) (SB.one (SS.ret SE.bl)) SB.nil)
    (SB.one (SS.ret (SE.and (SE.lt (SE.var 2) (SE.var 3)) (SE.and (SE.inD (SE.var 2) (SE.var 0)) (SE.and (SE.inD (SE.var 3) (SE.var 0)) (SE.one (SE.ne hu (SE.var 4) (SE.glob (v := .ref z.k_ZERO) (by rfl) T.m_ZERO rfl T.c_ZERO)))))))))))
theorem sc_is_network : FnScope ["value", "points", "ties", "ahead", "tie"] ["value"] (defScope s_is_network) := ⟨rfl, rfl, rfl, by decide +kernel, rfl, by decide +kernel, by decide +kernel⟩
theorem g_is_network (T : Txt K mg z) (nd : base.NoDigits) : FnG P w K mg base 6 z.a_is_network z.fd_is_network ["value"] M_is_network := by
  refine fnG_of (N := ["value", "points", "ties", "ahead", "tie"]) T.d_is_network.F sc_is_network fun cdv A outer s H E hr hgu => ?_
  have hu := hr.units
  exact (SB.cons (SS.ifS (ST.not (SW.pt (SW.and (ST.val (SE.fn T.d_is_tuple_of (g_is_tuple_of T nd) mir_len hr (by decide) hgu tkD (by rfl) T.b_is_tuple_of (SA.cons (SE.var 0) (SA.cons SE.int SA.nil)))) (SW.and (ST.val (SE.fn T.d_are_numbers (g_are_numbers T nd) mir_len hr (by decide) hgu tkD (by rfl) T.b_are_numbers (SA.cons (SE.ix (SE.var 0) SE.int) SA.nil))) (SW.and1 (ST.val (SE.isi (p2 := ⟨0, 0, 0, 0⟩) (T := "tuple") (by rfl) T.n_isinstance (by rfl) T.n_tuple (by decide +kernel) (SE.ix (SE.var 0) SE.int)))))))) (SB.one (SS.ret SE.bl)) SB.nil)
    (SB.cons (SS.asg (SE.var 0) (SG.tup (by rfl) (SGs.cons (SG.name 1 sc_is_network.nd (by rfl) (Or.inl (by rfl))) (SGs.cons (SG.name 2 sc_is_network.nd (by rfl) (Or.inl (by rfl))) SGs.nil))))
    (SB.cons (SS.set 3 sc_is_network.nd (by rfl) (Or.inl (by rfl)) (SE.tup (SA.cons (SE.neg SE.int) (SA.cons (SE.neg SE.int) SA.nil))))
    (SB.cons (SS.forS poD (by rfl) (SI.seq (SE.var 2)) (SG.name 4 sc_is_network.nd (by rfl) (Or.inl (by rfl))) (SB.cons (SS.ifS (SW.pt (SW.or (ST.not (ST.val (SE.fn T.d__is_tie (g__is_tie T nd) mir_len hr (by decide) hgu tkD (by rfl) T.b__is_tie (SA.cons (SE.var 1) (SA.cons (SE.var 4) SA.nil))))) (SW.or1 (ST.leT hu (SE.slice (SE.var 4) SO.none (SO.some SE.int)) (SE.var 3))))) (SB.one (SS.ret SE.bl)) SB.nil)
    (SB.one (SS.set 3 sc_is_network.nd (by rfl) (Or.inl (by rfl)) (SE.slice (SE.var 4) SO.none (SO.some SE.int))))))
    (SB.one (SS.ret SE.bl))))))
theorem sc_law : FnScope ["script", "deal", "turn", "network", "step", "value", "lone"] ["script"] (defScope s_law) := ⟨rfl, rfl, rfl, by decide +kernel, rfl, by decide +kernel, by decide +kernel⟩
theorem g_law (T : Txt K mg z) (nd : base.NoDigits) : FnG P w K mg base 7 z.a_law z.fd_law ["script"] M_law := by
  refine fnG_of (N := ["script", "deal", "turn", "network", "step", "value", "lone"]) T.d_law.F sc_law fun cdv A outer s H E hr hgu => ?_
  have hu := hr.units
  exact (SB.cons (SS.set 1 sc_law.nd (by rfl) (Or.inl (by rfl)) (SE.fn T.d__law_deal (g__law_deal T nd) mir_len hr (by decide) hgu tkD (by rfl) T.b__law_deal (SA.cons (SE.var 0) (SA.cons SE.int SA.nil))))
    (SB.cons (SS.forS poD (by rfl) (SI.range1 (by rfl) T.n_range (SA.cons SE.int SA.nil)) (SG.name 2 sc_law.nd (by rfl) (Or.inl (by rfl))) (SB.cons (SS.set 3 sc_law.nd (by rfl) (Or.inl (by rfl)) (SE.fn T.d__law_net (g__law_net T nd) mir_len hr (by decide) hgu tkD (by rfl) T.b__law_net (SA.cons (SE.var 1) (SA.cons (SE.add SE.int (SE.fn T.d__law_any (g__law_any T nd) mir_len hr (by decide) hgu tkD (by rfl) T.b__law_any (SA.cons (SE.var 1) (SA.cons SE.int SA.nil)))) (SA.cons SE.bl SA.nil)))))
    (SB.cons (SS.ifS (SW.pt (SW.or (ST.notB (SE.fn T.d_is_network (g_is_network T nd) mir_len hr (by decide) hgu tkD (by rfl) T.b_is_network (SA.cons (SE.var 3) SA.nil)) SE.bl) (SW.or (ST.not (ST.val (SE.fn T.d__law_sums (g__law_sums T nd) mir_len hr (by decide) hgu tkD (by rfl) T.b__law_sums (SA.cons (SE.var 1) (SA.cons (SE.var 3) SA.nil))))) (SW.or1 (ST.not (ST.val (SE.fn T.d__law_more (g__law_more T nd) mir_len hr (by decide) hgu tkD (by rfl) T.b__law_more (SA.cons (SE.var 1) (SA.cons (SE.var 3) SA.nil))))))))) (SB.one (SS.ret SE.bl)) SB.nil)
    (SB.one (SS.forS poD (by rfl) (SI.range1 (by rfl) T.n_range (SA.cons SE.int SA.nil)) (SG.name 4 sc_law.nd (by rfl) (Or.inl (by rfl))) (SB.cons (SS.set 5 sc_law.nd (by rfl) (Or.inl (by rfl)) (SE.fn T.d__law_turned (g__law_turned T nd) mir_len hr (by decide) hgu tkD (by rfl) T.b__law_turned (SA.cons (SE.var 1) (SA.cons (SE.var 3) SA.nil))))
    (SB.one (SS.ifS (ST.ne hu (SE.repr hgu hu (by rfl) T.n_repr (SA.cons (SE.fnK T.d_is_network (g_is_network T nd) mir_len hr (by decide) hgu tkD (by rfl) T.k_is_network_value (SKw.cons (SE.var 5) SKw.nil)) SA.nil)) (SE.repr hgu hu (by rfl) T.n_repr (SA.cons (SE.fn T.d__law_is_net (g__law_is_net T nd) mir_len hr (by decide) hgu tkD (by rfl) T.b__law_is_net (SA.cons (SE.var 5) SA.nil)) SA.nil))) (SB.one (SS.ret SE.bl)) SB.nil))))))))
    (SB.cons (SS.set 6 sc_law.nd (by rfl) (Or.inl (by rfl)) (SE.tup (SA.cons (SE.tup (SA.cons SE.int (SA.cons SE.int (SA.cons SE.int SA.nil)))) (SA.cons (SE.tup (SA.cons (SE.tup (SA.cons SE.int (SA.cons SE.int (SA.cons (SE.tup (SA.cons SE.int (SA.cons SE.int SA.nil))) SA.nil)))) SA.nil)) SA.nil))))
    (SB.one (SS.ret (SE.and (SE.eq hu (SE.reprW nd hgu hu (by rfl) T.n_repr (SA.cons (SE.fn T.d_dropped (g_dropped T nd) mir_len hr (by decide) hgu tkD (by rfl) T.b_dropped (SA.cons (SE.var 6) (SA.cons SE.int SA.nil))) SA.nil)) (SE.reprW nd hgu hu (by rfl) T.n_repr (SA.cons (SE.tup (SA.cons (SE.tup (SA.cons SE.int (SA.cons SE.int SA.nil))) (SA.cons (SE.tup SA.nil) SA.nil))) SA.nil))) (SE.one (SE.eq hu (SE.reprW nd hgu hu (by rfl) T.n_repr (SA.cons (SE.fn T.d_network_energy (g_network_energy T nd) mir_len hr (by decide) hgu tkD (by rfl) T.b_network_energy (SA.cons (SE.tup (SA.cons (SE.tup (SA.cons SE.int SA.nil)) (SA.cons (SE.tup SA.nil) SA.nil))) (SA.cons (SE.tupK (SA.cons (SE.tup (SA.cons SE.int (SA.cons (SE.tup (SA.cons SE.int (SA.cons SE.int SA.nil))) SA.nil))) SA.nil)) SA.nil))) SA.nil)) (SE.reprW nd hgu hu (by rfl) T.n_repr (SA.cons (SE.tup (SA.cons SE.int (SA.cons SE.int SA.nil))) SA.nil))))))))))
end
end LW
set_option Elab.async false
set_option linter.all false
set_option maxRecDepth 100000
set_option maxHeartbeats 40000000
namespace LW
open PySem PySem.Spec PyProof.Rows L2 V2
local macro_rules | `(tactic| array_get_dec) => `(tactic| with_reducible refine i_go (by assumption) ?_)
local macro_rules | `(tactic| array_get_dec) => `(tactic| with_reducible refine i_next ?_)
local macro_rules | `(tactic| array_get_dec) => `(tactic| with_reducible refine i_isr2 ?_)
local macro_rules | `(tactic| array_get_dec) => `(tactic| with_reducible refine i_range2 ?_)
local macro_rules | `(tactic| array_get_dec) => `(tactic| with_reducible refine i_range1 ?_)
local macro_rules | `(tactic| array_get_dec) => `(tactic| with_reducible refine i_for ?_)
local macro_rules | `(tactic| array_get_dec) => `(tactic| with_reducible refine i_brk ?_)
local macro_rules | `(tactic| array_get_dec) => `(tactic| with_reducible refine i_zip2 ?_)
local macro_rules | `(tactic| array_get_dec) => `(tactic| with_reducible refine i_enum1 ?_)
local macro_rules | `(tactic| array_get_dec) => `(tactic| with_reducible refine i_one ?_)
local macro_rules | `(tactic| array_get_dec) => `(tactic| with_reducible refine i_raise ?_)
local macro_rules | `(tactic| array_get_dec) => `(tactic| with_reducible refine i_sub ?_)
local macro_rules | `(tactic| array_get_dec) => `(tactic| with_reducible refine i_append ?_)
local macro_rules | `(tactic| array_get_dec) => `(tactic| with_reducible refine i_pop ?_)
local macro_rules | `(tactic| array_get_dec) => `(tactic| with_reducible refine i_drop ?_)
local macro_rules | `(tactic| array_get_dec) => `(tactic| with_reducible refine i_len (by with_unfolding_all exact rfl) ?_)
local macro_rules | `(tactic| array_get_dec) => `(tactic| with_reducible refine i_notN ?_)
local macro_rules | `(tactic| array_get_dec) => `(tactic| with_reducible refine i_isN ?_)
local macro_rules | `(tactic| array_get_dec) => `(tactic| with_reducible refine i_min2 ?_)
local macro_rules | `(tactic| array_get_dec) => `(tactic| with_reducible refine i_max2 ?_)
local macro_rules | `(tactic| array_get_dec) => `(tactic| with_reducible refine i_chain ?_)
local macro_rules | `(tactic| array_get_dec) => `(tactic| with_reducible refine i_lcm3 ?_ ?_)
local macro_rules | `(tactic| array_get_dec) => `(tactic| with_reducible refine i_gcd ?_)
local macro_rules | `(tactic| array_get_dec) => `(tactic| with_reducible refine i_toint ?_)
local macro_rules | `(tactic| array_get_dec) => `(tactic| with_reducible refine i_abs ?_)
local macro_rules | `(tactic| array_get_dec) => `(tactic| with_reducible refine i_pk4 ?_)
local macro_rules | `(tactic| array_get_dec) => `(tactic| with_reducible refine i_pk3 ?_)
local macro_rules | `(tactic| array_get_dec) => `(tactic| with_reducible refine i_pk2 ?_)
local macro_rules | `(tactic| array_get_dec) => `(tactic| with_reducible refine i_pk1 ?_)
local macro_rules | `(tactic| array_get_dec) => `(tactic| with_reducible refine i_fnk ?_)
local macro_rules | `(tactic| array_get_dec) => `(tactic| with_reducible refine i_fn ?_)
local macro_rules | `(tactic| array_get_dec) => `(tactic| with_reducible refine i_call ?_)
local macro_rules | `(tactic| array_get_dec) => `(tactic| with_reducible refine i_ix (by with_unfolding_all exact rfl) (by with_unfolding_all exact rfl) ?_)
local macro_rules | `(tactic| array_get_dec) => `(tactic| with_reducible refine i_ix (by assumption) (by with_unfolding_all exact rfl) ?_)
local macro_rules | `(tactic| array_get_dec) => `(tactic| with_reducible refine i_all (by repeat constructor) (by with_unfolding_all exact Nat.le_of_ble_eq_true rfl) ?_)
local macro_rules | `(tactic| array_get_dec) => `(tactic| with_reducible refine i_lst ?_)
local macro_rules | `(tactic| array_get_dec) => `(tactic| with_reducible refine i_tup ?_)
local macro_rules | `(tactic| array_get_dec) => `(tactic| with_reducible refine i_fand ?_)
local macro_rules | `(tactic| array_get_dec) => `(tactic| with_reducible refine i_fif ?_)
local macro_rules | `(tactic| array_get_dec) => `(tactic| with_reducible refine i_not2 ?_)
local macro_rules | `(tactic| array_get_dec) => `(tactic| with_reducible refine i_or2 ?_)
local macro_rules | `(tactic| array_get_dec) => `(tactic| with_reducible refine i_and2 ?_)
local macro_rules | `(tactic| array_get_dec) => `(tactic| with_reducible refine i_isr ?_)
local macro_rules | `(tactic| array_get_dec) => `(tactic| with_reducible refine i_isi ?_)
local macro_rules | `(tactic| array_get_dec) => `(tactic| with_reducible refine i_isb ?_)
local macro_rules | `(tactic| array_get_dec) => `(tactic| with_reducible refine i_val ?_)
local macro_rules | `(tactic| array_get_dec) => `(tactic| with_reducible refine i_un ?_)
local macro_rules | `(tactic| array_get_dec) => `(tactic| with_reducible refine i_nes ?_)
local macro_rules | `(tactic| array_get_dec) => `(tactic| with_reducible refine i_nesr ?_)
local macro_rules | `(tactic| array_get_dec) => `(tactic| with_reducible refine i_eqs ?_)
local macro_rules | `(tactic| array_get_dec) => `(tactic| with_reducible refine i_eqsr ?_)
local macro_rules | `(tactic| array_get_dec) => `(tactic| with_reducible refine i_nei ?_)
local macro_rules | `(tactic| array_get_dec) => `(tactic| with_reducible refine i_eqi ?_)
local macro_rules | `(tactic| array_get_dec) => `(tactic| with_reducible refine i_add ?_)
local macro_rules | `(tactic| array_get_dec) => `(tactic| with_reducible refine i_ints ?_ ?_)
local macro_rules | `(tactic| array_get_dec) => `(tactic| with_reducible refine i_ints0 ?_)
local macro_rules | `(tactic| array_get_dec) => `(tactic| with_reducible refine i_bin ?_)
local macro_rules | `(tactic| array_get_dec) => `(tactic| with_reducible refine i_nil ?_)
local macro_rules | `(tactic| array_get_dec) => `(tactic| with_reducible refine i_cons ?_)
local macro_rules | `(tactic| array_get_dec) => `(tactic| with_reducible refine i_c ?_)
local macro_rules | `(tactic| array_get_dec) => `(tactic| with_reducible refine i_var (by repeat constructor) ?_)
local macro_rules | `(tactic| array_get_dec) => `(tactic| with_reducible refine i_if ?_)
local macro_rules | `(tactic| array_get_dec) => `(tactic| with_reducible refine i_ret ?_)
local macro_rules | `(tactic| array_get_dec) => `(tactic| with_reducible refine i_trip (by repeat constructor) (by repeat constructor) (by repeat constructor) ?_)
local macro_rules | `(tactic| array_get_dec) => `(tactic| with_reducible refine i_par3 ?_ (by with_unfolding_all exact Nat.le_of_ble_eq_true rfl) (by with_unfolding_all exact Nat.le_of_ble_eq_true rfl) (by with_unfolding_all exact Nat.le_of_ble_eq_true rfl))
local macro_rules | `(tactic| array_get_dec) => `(tactic| with_reducible refine i_pair (by repeat constructor) (by repeat constructor) ?_)
local macro_rules | `(tactic| array_get_dec) => `(tactic| with_reducible refine i_par ?_ (by with_unfolding_all exact Nat.le_of_ble_eq_true rfl) (by with_unfolding_all exact Nat.le_of_ble_eq_true rfl))
local macro_rules | `(tactic| array_get_dec) => `(tactic| with_reducible refine i_set (by repeat constructor) ?_)
local macro_rules | `(tactic| array_get_dec) => `(tactic| with_reducible refine i_asgn ?_ (by with_unfolding_all exact Nat.le_of_ble_eq_true rfl))
local macro_rules | `(tactic| array_get_dec) => `(tactic| with_reducible refine i_asg2v (by repeat constructor) (by repeat constructor) (by repeat constructor) ?_)
local macro_rules | `(tactic| array_get_dec) => `(tactic| with_reducible refine i_seqg (fun _ _ => ?_))
local macro_rules
  | `(tactic| decreasing_trivial_pre_omega) => `(tactic| (apply cmB; (repeat' (first | assumption | apply Bd.add | apply Bd.sub | apply Bd.mul | apply Bd.neg)); decide))
theorem wp_fraction {p : Int} {q : Nat} {h : Ho} {Q : KD} {E : XD} {n : Nat} (hq : q ≠ 0) (hz : q < 2 ^ n) (h0 : 0 < n) (hn : n ≤ 9000) (k : Q (.d (fr (mkRat p q))) h) : M_fraction [.d (.int p), .d (.int q)] h Q E := by
  rw [low_eq hq] at k
  refine i_mir rfl (by repeat constructor) (by repeat constructor) ?_
  unfold B_fraction
  repeat' array_get_dec
  refine i_ifF (decide_eq_false (by exact_mod_cast hq)) ?_
  repeat' array_get_dec
  refine i_ifF (decide_eq_false (by omega)) ?_
  repeat' array_get_dec
  · exact cdiv_gr hq h0 hz hn
  · exact cdiv_gr hq h0 hz hn
  · exact k
theorem wp_any {n : Int} {rest h : Ho} {Q : KD} {E : XD} (hn : 0 < n) (hb : n < 2 ^ 140) (dh : Deal rest h) (k : ∀ v h', 0 ≤ v → v < n → Deal rest h' → Q (.d (.int v)) h') : M__law_any [.loc 1, .d (.int n)] h Q E := by
  obtain ⟨cs, mix, rfl, hl, hc, hm0, hm1⟩ := dh.is
  refine i_mir rfl (by repeat constructor) (by repeat constructor) ?_
  unfold B__law_any
  array_get_dec
  refine i_while (fun m ρ' h' => ρ' = [some (.loc 1), some (.d (.int n)), none] ∧ ∃ cs' : List Int, cs'.length = m ∧ h' = .lst (cs'.map cell) :: .lst [.loc 0, cell mix] :: rest ∧ cs'.length ≤ 63 ∧ ∀ c ∈ cs', 0 ≤ c) ⟨rfl, cs, rfl, rfl, hl, hc⟩ ?_ ?_
  · rintro m ρ' h' ⟨rfl, cs', rfl, rfl, hl, hc⟩
    rcases nil_or_snoc cs' with rfl | ⟨cs2, c, rfl⟩
    · repeat' array_get_dec
      refine i_ned (datum_cells (cs := [])) rfl rfl rfl ni_loc ?_
      repeat' array_get_dec
      refine i_ifF rfl ?_
      repeat' array_get_dec
      · exact mix_mul hm0 hm1
      · decide
      · refine subK_loc (j := 1) (h2 := .lst [] :: .lst [.loc 0, cell ((mix * 48271 + 83) % 2147483647)] :: rest) rfl rfl rfl ?_
        have m0 : 0 ≤ (mix * 48271 + 83) % 2147483647 := Int.emod_nonneg _ (by decide)
        have m1 : (mix * 48271 + 83) % 2147483647 < 2147483647 := Int.emod_lt_of_pos _ (by decide)
        repeat' array_get_dec
        · exact ⟨by decide, by decide⟩
        · exact hn
        · exact k _ _ (Int.emod_nonneg _ (by omega)) (Int.emod_lt_of_pos _ hn) ⟨[], _, rfl, hl, hc, m0, by omega⟩
    · have em : (cs2 ++ [c]).map cell = cs2.map cell ++ [cell c] := by simp
      rw [em]
      have hc2 : 0 ≤ c := hc c (by simp)
      repeat' array_get_dec
      refine i_ned (by rw [← em]; exact datum_cells (cs := cs2 ++ [c])) rfl (shaped_ints _) rfl ni_loc ?_
      rw [ints_ne (by simp)]
      repeat' array_get_dec
      refine i_ifT rfl ?_
      repeat' array_get_dec
      refine popK_loc rfl (h2 := .lst (cs2.map cell) :: .lst [.loc 0, cell mix] :: rest) rfl ?_
      repeat' array_get_dec
      refine appK_loc rfl ?_
      repeat' array_get_dec
      · exact ⟨by omega, Nat.lt_of_lt_of_le (log2_lt (n := 140) (by decide) (by omega)) (by decide)⟩
      · have hl2 : cs2.length < 63 := by rw [List.length_append, List.length_singleton] at hl; omega
        refine ⟨_, cs2.map cell, rfl, rfl, by rw [List.length_map]; exact Nat.lt_of_lt_of_le hl2 (by decide), ?_⟩
        repeat' array_get_dec
        · exact hn
        · refine k _ _ (Int.emod_nonneg _ (by omega)) (Int.emod_lt_of_pos _ hn) ⟨cs2 ++ [c.fdiv n], mix, by rw [List.map_append]; rfl, by rw [List.length_append, List.length_singleton]; omega, ?_, hm0, hm1⟩
          intro d hd
          rw [List.mem_append, List.mem_singleton] at hd
          rcases hd with hd | rfl
          · exact hc d (by simp [hd])
          · rw [Int.fdiv_eq_ediv_of_nonneg _ (by omega)]
            exact Int.ediv_nonneg hc2 (by omega)
  · intro he m ρ' h' hi
    have hi0 := hi
    obtain ⟨rfl, cs', rfl, rfl, hl, hc⟩ := hi
    rcases nil_or_snoc cs' with rfl | ⟨cs2, c, rfl⟩
    · repeat' array_get_dec
      refine i_ned (datum_cells (cs := [])) rfl rfl rfl ni_loc ?_
      repeat' array_get_dec
      refine i_ifF rfl ?_
      exact i_ifF rfl (he _ _ _ hi0)
    · have em : (cs2 ++ [c]).map cell = cs2.map cell ++ [cell c] := by simp
      rw [em] at hi0 ⊢
      repeat' array_get_dec
      refine i_ned (by rw [← em]; exact datum_cells (cs := cs2 ++ [c])) rfl (shaped_ints _) rfl ni_loc ?_
      rw [ints_ne (by simp)]
      repeat' array_get_dec
      refine i_ifT rfl ?_
      repeat' array_get_dec
      refine i_ix rfl atI_last ?_
      repeat' array_get_dec
      refine i_ite (fun e => ?_) (fun e => ?_)
      · repeat' array_get_dec
        refine popK_loc rfl (h2 := .lst (cs2.map cell) :: .lst [.loc 0, cell mix] :: rest) rfl ?_
        refine ⟨cs2.length, by simp, rfl, cs2, rfl, rfl, ?_, fun d hd => hc d (by simp [hd])⟩
        rw [List.length_append, List.length_singleton] at hl
        omega
      · exact he _ _ _ hi0
theorem wp_of {xs : List PyData} {rest h : Ho} {Q : KD} {E : XD} (hn : xs ≠ []) (hb : xs.length < 2 ^ 140) (dh : Deal rest h) (k : ∀ x h', x ∈ xs → Deal rest h' → Q (.d x) h') : M__law_of [.loc 1, .d (.list xs)] h Q E := by
  refine i_mir rfl (by repeat constructor) (by repeat constructor) ?_
  unfold B__law_of
  repeat' array_get_dec
  have hp : 0 < xs.length := List.length_pos_iff.2 hn
  rw [List.length_map]
  refine wp_any (by exact_mod_cast hp) (by exact_mod_cast hb) dh fun v h' v0 v1 dh' => ?_
  have e : L2.atI (xs.map D.d) v = some (.d (xs[v.toNat]'(by omega))) := by
    unfold L2.atI ixN
    rw [if_pos v0, if_pos (by rw [List.length_map]; exact v1)]
    simp only [Option.bind_some, List.getElem?_map]
    rw [List.getElem?_eq_getElem (by omega)]
    rfl
  refine i_ix rfl e ?_
  exact k _ _ (List.getElem_mem _) dh'
theorem wp_plus {a b : Rat} {h : Ho} {Q : KD} {E : XD} {n m : Nat} (sa : Sz n a) (sb : Sz m b) (hn : n + m ≤ big := by decide) (k : Q (.d (fr (a + b))) h) : M_plus [.d (fr a), .d (fr b)] h Q E := by
  have hs : 0 < big := by decide
  have sa := sa.mono (m := big) (by omega)
  have sb := sb.mono (m := big) (by omega)
  rw [plus_eq a b rfl rfl rfl rfl rfl] at k
  refine i_mir rfl (by repeat constructor) (by repeat constructor) ?_
  unfold B_plus
  repeat' array_get_dec
  · exact cdiv_gr b.den_nz hs sb.2 (by decide)
  · exact cdiv_gr b.den_nz hs sb.2 (by decide)
  · exact cmulw hs sa.1 (Nat.lt_of_le_of_lt (v_fdiv_le _ _) sb.2) (by decide)
  · exact cmulw hs sb.1 (Nat.lt_of_le_of_lt (v_fdiv_le _ _) sa.2) (by decide)
  · exact cdiv_gr (gcd_ne b.den_nz) hs (gcd_lt b.den_nz sb.2) (by decide)
  · exact cdiv_gr (gcd_ne b.den_nz) hs (gcd_lt b.den_nz sb.2) (by decide)
  · exact cmulw hs (Nat.lt_of_le_of_lt (v_fdiv_le _ _) sa.2) (Nat.lt_of_le_of_lt (v_fdiv_le _ _) sb.2) (by decide)
  · exact k
theorem wp_times {a b : Rat} {h : Ho} {Q : KD} {E : XD} {n m : Nat} (sa : Sz n a) (sb : Sz m b) (hn : n + m ≤ big := by decide) (k : Q (.d (fr (a * b))) h) : M_times [.d (fr a), .d (fr b)] h Q E := by
  have hs : 0 < big := by decide
  have sa := sa.mono (m := big) (by omega)
  have sb := sb.mono (m := big) (by omega)
  rw [times_eq a b rfl rfl] at k
  refine i_mir rfl (by repeat constructor) (by repeat constructor) ?_
  unfold B_times
  repeat' array_get_dec
  · exact cdiv_gr b.den_nz hs sb.2 (by decide)
  · exact cdiv_gr a.den_nz hs sa.2 (by decide)
  · exact cmulw hs (Nat.lt_of_le_of_lt (v_fdiv_le _ _) sa.1) (Nat.lt_of_le_of_lt (v_fdiv_le _ _) sb.1) (by decide)
  · exact cdiv_gr a.den_nz hs sa.2 (by decide)
  · exact cdiv_gr b.den_nz hs sb.2 (by decide)
  · exact cmulw hs (Nat.lt_of_le_of_lt (v_fdiv_le _ _) sa.2) (Nat.lt_of_le_of_lt (v_fdiv_le _ _) sb.2) (by decide)
  · exact k
theorem wp_negative {a : Rat} {h : Ho} {Q : KD} {E : XD} (k : Q (.d (fr (-a))) h) : M_negative [.d (fr a)] h Q E := by
  rw [neg_eq a] at k
  refine i_mir rfl (by repeat constructor) (by repeat constructor) ?_
  unfold B_negative
  repeat' array_get_dec
  exact k
theorem wp_minus {a b : Rat} {h : Ho} {Q : KD} {E : XD} {n m : Nat} (sa : Sz n a) (sb : Sz m b) (hn : n + m ≤ big := by decide) (k : Q (.d (fr (a - b))) h) : M_minus [.d (fr a), .d (fr b)] h Q E := by
  rw [Rat.sub_eq_add_neg] at k
  refine i_mir rfl (by repeat constructor) (by repeat constructor) ?_
  unfold B_minus
  repeat' array_get_dec
  refine wp_negative ?_
  repeat' array_get_dec
  exact wp_plus sa sb.neg hn k
def ev {α : Type} : List α → List α
  | [] => []
  | [a] => [a]
  | a :: _ :: t => a :: ev t
def od {α : Type} : List α → List α
  | [] => []
  | [_] => []
  | _ :: b :: t => b :: od t
def stp : List Rat → List Rat
  | [] => []
  | [a] => [a]
  | a :: b :: t => (a + b) :: stp t
theorem ev_map {α β : Type} (f : α → β) : ∀ xs : List α, ev (xs.map f) = (ev xs).map f
  | [] => rfl
  | [_] => rfl
  | a :: b :: t => by
    show f a :: ev (t.map f) = f a :: (ev t).map f
    rw [ev_map f t]
theorem od_map {α β : Type} (f : α → β) : ∀ xs : List α, od (xs.map f) = (od xs).map f
  | [] => rfl
  | [_] => rfl
  | a :: b :: t => by
    show f b :: od (t.map f) = f b :: (od t).map f
    rw [od_map f t]
theorem sum_stp : ∀ xs : List Rat, (stp xs).sum = xs.sum
  | [] => rfl
  | [_] => rfl
  | a :: b :: t => by
    show ((a + b) :: stp t).sum = _
    rw [List.sum_cons, List.sum_cons, List.sum_cons, sum_stp t, Rat.add_assoc]
theorem len_stp : ∀ xs : List Rat, (stp xs).length = (xs.length + 1) / 2
  | [] => rfl
  | [_] => by simp [stp]
  | a :: b :: t => by
    show (stp t).length + 1 = (t.length + 1 + 1 + 1) / 2
    rw [len_stp t]
    omega
theorem sz_stp {n : Nat} : ∀ xs : List Rat, (∀ q ∈ xs, Sz n q) → ∀ q ∈ stp xs, Sz (n + n + 1) q
  | [], _, q, h => by cases h
  | [a], s, q, h => (s q h).mono (by omega)
  | a :: b :: t, s, q, h => by
    cases h with
    | head => exact (s a (.head _)).add (s b (.tail _ (.head _)))
    | tail _ h => exact sz_stp t (fun q h => s q (.tail _ (.tail _ h))) q h
theorem stp_eq : ∀ xs : List Rat, stp xs = ((ev xs).zip (od xs)).map (fun z => z.1 + z.2) ++ xs.drop (xs.length / 2 * 2)
  | [] => rfl
  | [a] => by simp [stp, ev, od]
  | a :: b :: t => by
    have e : (a :: b :: t).length / 2 * 2 = t.length / 2 * 2 + 2 := by
      show (t.length + 1 + 1) / 2 * 2 = _
      omega
    rw [e]
    show (a + b) :: stp t = (a + b) :: (((ev t).zip (od t)).map (fun z => z.1 + z.2) ++ t.drop (t.length / 2 * 2))
    rw [stp_eq t]
theorem pick_ev {α : Type} (xs : List α) (h : xs.length ≤ 10) : pickL xs none none 2 = ev xs := by
  iterate 11
    rcases xs with _ | ⟨_, xs⟩
    · first | (with_unfolding_all rfl) | simp [pickL, sliceBounds, sliceRange, ev, List.range, List.range.loop]
  simp only [List.length_cons] at h
  omega
theorem pick_od {α : Type} (xs : List α) (h : xs.length ≤ 10) : pickL xs (some 1) none 2 = od xs := by
  iterate 11
    rcases xs with _ | ⟨_, xs⟩
    · first | (with_unfolding_all rfl) | simp [pickL, sliceBounds, sliceRange, od, List.range, List.range.loop]
  simp only [List.length_cons] at h
  omega
theorem list1_data {v : PyData} {ps : List PyData} (hv : v = .list ps ∨ v = .tuple ps) {h : Ho} {Q : KD} (k : Q (.d (.list ps)) h) : V2.rList1 [.d v] h Q := by
  have e : items h (.d v) = some (ps.map D.d) := by rcases hv with rfl | rfl <;> rfl
  unfold V2.rList1
  simp only [e, allD_map]
  exact k
theorem i_truL {ρ : En} {h : Ho} {Q : Bool → Ho → Prop} {E : XD} {i : Nat} {ps : List PyData} (e : GetAt i ρ (.d (.list ps))) (k : Q (!ps.isEmpty) h) : tTru (fVar i) ρ h Q E := by
  refine i_var e ?_
  show Q (!(ps.map D.d).isEmpty) h
  rw [List.isEmpty_map]
  exact k
theorem i_slD {ρ : En} {h : Ho} {Q : KD} {E : XD} {i : Nat} {ps : List PyData} {fo : WE} (e : GetAt i ρ (.d (.list ps))) (k : fo ρ h (fun y h1 => ∃ j, y = .d (.int j) ∧ Q (.d (.list (cut ps (some j) none))) h1) E) : fSl (fVar i) (oSome fo) oNone ρ h Q E := by
  refine i_var e ?_
  have e1 : (fun (x : D) (h1 : Ho) => ∃ j, x = .d (.int j) ∧ Q (.d (.list (cut ps (some j) none))) h1) = (fun x h1 => match x with
      | .d (.int i) => Q (.d (.list (cut ps (some i) none))) h1
      | _ => False) := by
    funext x h1
    apply propext
    constructor
    · rintro ⟨j, rfl, q⟩
      exact q
    · split
      · exact fun q => ⟨_, rfl, q⟩
      · exact False.elim
  rw [e1] at k
  exact k
theorem cut_drop {α : Type} {ps : List α} {k : Nat} (h : k ≤ ps.length) : cut ps (some (k : Int)) none = ps.drop k := by
  unfold cut
  rw [HT.sIx_nat, HT.sIx_none, Nat.min_eq_left h]
  exact List.take_of_length_le (by rw [List.length_drop]; exact Nat.le_refl _)
theorem i_slL {ρ : En} {h : Ho} {Q : KD} {E : XD} {i : Nat} {c : Int} {ps : List PyData} (e : GetAt i ρ (.d (.list ps))) (hz : (pickL ps none none c).length ≤ sizeLine) (k : Q (.d (.list (pickL ps none none c))) h) : fSlL c (fVar i) oNone oNone ρ h Q E := i_var e ⟨hz, k⟩
theorem i_slL1 {ρ : En} {h : Ho} {Q : KD} {E : XD} {i : Nat} {c j : Int} {ps : List PyData} (e : GetAt i ρ (.d (.list ps))) (hz : (pickL ps (some j) none c).length ≤ sizeLine) (k : Q (.d (.list (pickL ps (some j) none c))) h) : fSlL c (fVar i) (oSome (fC (.int j))) oNone ρ h Q E := i_var e ⟨hz, k⟩
theorem ev_len {α : Type} : ∀ xs : List α, (ev xs).length ≤ xs.length ∧ (od xs).length ≤ xs.length
  | [] => ⟨Nat.le_refl _, Nat.le_refl _⟩
  | [_] => ⟨Nat.le_refl _, Nat.zero_le _⟩
  | a :: b :: t => by
    have := ev_len t
    show (ev t).length + 1 ≤ t.length + 1 + 1 ∧ (od t).length + 1 ≤ t.length + 1 + 1
    omega
theorem ev_mem {α : Type} : ∀ xs : List α, (∀ x ∈ ev xs, x ∈ xs) ∧ ∀ x ∈ od xs, x ∈ xs
  | [] => ⟨fun _ h => h, fun _ h => h⟩
  | [_] => ⟨fun _ h => h, fun _ h => by cases h⟩
  | a :: b :: t => by
    have ih := ev_mem t
    refine ⟨fun x h => ?_, fun x h => ?_⟩
    · cases h with
      | head => exact .head _
      | tail _ h => exact .tail _ (.tail _ (ih.1 x h))
    · cases h with
      | head => exact .tail _ (.head _)
      | tail _ h => exact .tail _ (.tail _ (ih.2 x h))
def Parts (s : Nat) (qs : List Rat) (t : Rat) (m : Nat) : Prop := qs.sum = t ∧ qs.length = m ∧ 0 < m ∧ m ≤ 10 ∧ ∃ k, k ≤ 4 ∧ m ≤ 2 ^ k ∧ ∀ q ∈ qs, Sz (2 ^ (4 - k) * (s + 1) - 1) q
theorem wp_total {xs : List Rat} {v : PyData} (hv : v = .list (xs.map fr) ∨ v = .tuple (xs.map fr)) (hl : xs.length ≤ 10) {s : Nat} (sz : ∀ q ∈ xs, Sz s q) (hs : (s + 1) * 8 ≤ 1900) {h : Ho} {Q : KD} {E : XD} (k : Q (.d (fr xs.sum)) h) : M_total_of [.d v] h Q E := by
  refine i_mir rfl (by repeat constructor) (by repeat constructor) ?_
  unfold B_total_of
  repeat' array_get_dec
  refine list1_data hv ?_
  repeat' array_get_dec
  refine i_truL (by repeat constructor) ?_
  rw [List.isEmpty_map, Bool.not_not]
  refine i_ite (fun c => ?_) (fun c => ?_)
  · have c : xs = [] := List.isEmpty_iff.1 c
    subst c
    repeat' array_get_dec
    exact k
  · repeat' array_get_dec
    have c : xs ≠ [] := fun e => by rw [e] at c; cases c
    refine i_whileE (fun m ρ' h' => h' = h ∧ ∃ (qs : List Rat) (z : Option D), ρ' = [some (.d v), some (.d (.list (qs.map fr))), z, none, none] ∧ Parts s qs xs.sum m) (m0 := xs.length) ⟨rfl, xs, none, rfl, rfl, rfl, List.length_pos_iff.2 c, hl, 4, by decide, by omega, fun q hq => (sz q hq).mono (by omega)⟩ ?_
    rintro m ρ' h' ⟨rfl, qs, z, rfl, hs1, hl1, hm0, hm10, kk, hk4, hm2, hz⟩
    repeat' array_get_dec
    rw [List.length_map, List.length_map, hl1]
    refine i_ite (fun c1 => ?_) (fun c1 => ?_)
    · have c1 : 1 < m := by have := of_decide_eq_true c1; omega
      repeat' array_get_dec
      refine i_slD (by repeat constructor) ?_
      repeat' array_get_dec
      · exact cdiv_nat (n := 3) (by decide) (by decide) (by decide) (by decide)
      · refine cmulw (n := 20) (by decide) ?_ (by decide) (by decide)
        rw [List.length_map, List.length_map, hl1, Int.fdiv_eq_ediv_of_nonneg _ (by decide)]
        omega
      rw [List.length_map, List.length_map, hl1]
      have ed : (m : Int).fdiv 2 * 2 = ((m / 2 * 2 : Nat) : Int) := by rw [Int.fdiv_eq_ediv_of_nonneg _ (by decide)]; omega
      rw [ed, cut_drop (by rw [List.length_map, hl1]; omega), ← List.map_drop]
      have h10 : (qs.map fr).length ≤ 10 := by rw [List.length_map, hl1]; exact hm10
      have l10 : ∀ {n : Nat}, n ≤ 10 → n ≤ sizeLine := fun h => Nat.le_trans h (by decide)
      have kp0 : 1 ≤ kk := by
        refine Nat.pos_of_ne_zero ?_
        rintro rfl
        have : (2 : Nat) ^ 0 = 1 := rfl
        omega
      have hw : 2 ^ (4 - kk) * (s + 1) ≤ 1900 := by
        refine Nat.le_trans (Nat.mul_le_mul_right _ (Nat.pow_le_pow_right (by decide) (show 4 - kk ≤ 3 by omega))) ?_
        omega
      refine i_lcv ?_
      refine i_zip2 ?_
      refine i_cons ?_
      refine i_slL (by repeat constructor) (by rw [pick_ev _ h10]; exact l10 (Nat.le_trans (ev_len _).1 h10)) ?_
      refine i_cons ?_
      refine i_slL1 (by repeat constructor) (by rw [pick_od _ h10]; exact l10 (Nat.le_trans (ev_len _).2 h10)) ?_
      refine i_nil ?_
      rw [pick_ev _ h10, pick_od _ h10, ev_map, od_map]
      refine ⟨_, _, _, _, _, _, rfl, rfl, rfl, allD_map _, allD_map _, ?_⟩
      refine lcv_ind (hb := h') (fun k acc => acc = ((((ev qs).zip (od qs)).map fun z => fr (z.1 + z.2)).take k).map D.d) (fun _ => And.intro trivial trivial) ?_ ?_ rfl
      · rintro i z acc ez rfl
        obtain ⟨p1, p2, e1, e2, rfl⟩ := zipD_get ez
        rw [List.getElem?_map, Option.map_eq_some_iff] at e1 e2
        obtain ⟨a, e1, rfl⟩ := e1
        obtain ⟨b, e2, rfl⟩ := e2
        have sa := hz a ((ev_mem qs).1 a (List.mem_of_getElem? e1))
        have sb := hz b ((ev_mem qs).2 b (List.mem_of_getElem? e2))
        refine ⟨_, true, rfl, fun P q => q, fun _ => ⟨.d (fr (a + b)), fun P q => ?_, ?_, ?_⟩, fun e => by cases e⟩
        · show fFn _ _ [_, _, _, some (.d (fr a)), some (.d (fr b))] _ _ _
          repeat' array_get_dec
          exact wp_plus sa sb (by show _ ≤ 4000; omega) q
        · have hi := (List.getElem?_eq_some_iff.1 e1).1
          have := (ev_len qs).1
          rw [List.length_map, List.length_take, List.length_map]
          exact Nat.lt_of_lt_of_le (Nat.lt_of_le_of_lt (Nat.min_le_left _ _) (show i < 11 by omega)) (by decide)
        · have ez : ((ev qs).zip (od qs))[i]? = some (a, b) := by rw [List.getElem?_zip_eq_some]; exact ⟨e1, e2⟩
          rw [List.take_succ, List.getElem?_map, ez]
          simp
      · rintro acc rfl
        rw [zipD_len, List.length_map, List.length_map, ← List.length_zip, List.take_of_length_le (by rw [List.length_map]; exact Nat.le_refl _)]
        refine ⟨_, allD_iff (allD_map _), ?_⟩
        refine i_var (by repeat constructor) ?_
        have eS : (((ev qs).zip (od qs)).map fun z => fr (z.1 + z.2)) ++ (qs.drop (m / 2 * 2)).map fr = (stp qs).map fr := by
          rw [stp_eq qs, List.map_append, List.map_map, hl1]
          rfl
        refine ⟨?_, ?_⟩
        · rw [← List.length_append, eS, List.length_map, len_stp, hl1]
          exact l10 (by omega)
        rw [eS]
        refine ⟨_, by repeat constructor, (m + 1) / 2, by omega, rfl, stp qs, _, rfl, ?_⟩
        have kp : kk ≠ 0 := by
          rintro rfl
          have : (2 : Nat) ^ 0 = 1 := rfl
          omega
        obtain ⟨j, rfl⟩ : ∃ j, kk = j + 1 := ⟨kk - 1, by omega⟩
        have p2 : 2 ^ (j + 1) = 2 * 2 ^ j := by rw [Nat.pow_succ]; omega
        refine ⟨by rw [sum_stp]; exact hs1, by rw [len_stp, hl1], by omega, by omega, j, by omega, by omega, fun q hq => (sz_stp qs hz q hq).mono ?_⟩
        have e3 : 4 - j = (4 - (j + 1)) + 1 := by omega
        rw [e3, Nat.pow_succ]
        have w1 : 0 < 2 ^ (4 - (j + 1)) * (s + 1) := Nat.mul_pos (Nat.pow_pos (by decide)) (by omega)
        rw [Nat.mul_comm (2 ^ (4 - (j + 1))) 2, Nat.mul_assoc 2]
        generalize 2 ^ (4 - (j + 1)) * (s + 1) = x at *
        omega
    · have c1 : m = 1 := by have := of_decide_eq_false c1; omega
      subst c1
      match qs, hl1 with
      | [q], _ =>
        repeat' array_get_dec
        rw [← hs1] at k
        have e1 : [q].sum = q := by rw [List.sum_cons, List.sum_nil, Rat.add_zero]
        rw [e1] at k
        exact k
theorem wp_over {a b : Rat} {h : Ho} {Q : KD} {E : XD} {n m : Nat} (hb : b ≠ 0) (sa : Sz n a) (sb : Sz m b) (hn : n + m ≤ big := by decide) (k : Q (.d (fr (a / b))) h) : M_over [.d (fr a), .d (fr b)] h Q E := by
  rw [Rat.div_def] at k
  have hz : b.num ≠ 0 := fun z => hb (Rat.num_eq_zero.1 z)
  refine i_mir rfl (by repeat constructor) (by repeat constructor) ?_
  unfold B_over
  repeat' array_get_dec
  refine i_ifF (decide_eq_false hz) ?_
  repeat' array_get_dec
  refine i_ite (fun c => ?_) (fun c => ?_)
  · have c := of_decide_eq_true c
    have e := inv_neg b c
    repeat' array_get_dec
    rw [← e]
    exact wp_times sa (sb.inv hb) hn k
  · have c := of_decide_eq_false c
    have e := inv_pos b (by omega)
    repeat' array_get_dec
    rw [← e]
    exact wp_times sa (sb.inv hb) hn k
theorem den_dvd {b : Nat} (hb : b ≠ 0) (x : Int) : (mkRat x b).den ∣ b := by
  rw [Rat.den_mkRat, if_neg hb]
  exact Nat.div_dvd_of_dvd (Nat.gcd_dvd_left _ _)
end LW
set_option Elab.async false
set_option linter.all false
set_option maxRecDepth 100000
set_option maxHeartbeats 40000000
namespace LW
open PySem PySem.Spec PyProof.Rows L2 V2
local macro_rules | `(tactic| array_get_dec) => `(tactic| with_reducible refine i_go (by assumption) ?_)
local macro_rules | `(tactic| array_get_dec) => `(tactic| with_reducible refine i_next ?_)
local macro_rules | `(tactic| array_get_dec) => `(tactic| with_reducible refine i_idxT ?_)
local macro_rules | `(tactic| array_get_dec) => `(tactic| with_reducible refine i_unT ?_)
local macro_rules | `(tactic| array_get_dec) => `(tactic| with_reducible refine i_make2 ?_)
local macro_rules | `(tactic| array_get_dec) => `(tactic| with_reducible refine fld1 (by with_unfolding_all exact rfl) ?_)
local macro_rules | `(tactic| array_get_dec) => `(tactic| with_reducible refine i_fld ?_)
local macro_rules | `(tactic| array_get_dec) => `(tactic| with_reducible refine i_isr2 ?_)
local macro_rules | `(tactic| array_get_dec) => `(tactic| with_reducible refine i_range2 ?_)
local macro_rules | `(tactic| array_get_dec) => `(tactic| with_reducible refine i_range1 ?_)
local macro_rules | `(tactic| array_get_dec) => `(tactic| with_reducible refine i_for ?_)
local macro_rules | `(tactic| array_get_dec) => `(tactic| with_reducible refine i_brk ?_)
local macro_rules | `(tactic| array_get_dec) => `(tactic| with_reducible refine i_zip2 ?_)
local macro_rules | `(tactic| array_get_dec) => `(tactic| with_reducible refine i_enum1 ?_)
local macro_rules | `(tactic| array_get_dec) => `(tactic| with_reducible refine i_one ?_)
local macro_rules | `(tactic| array_get_dec) => `(tactic| with_reducible refine i_raise ?_)
local macro_rules | `(tactic| array_get_dec) => `(tactic| with_reducible refine i_sub ?_)
local macro_rules | `(tactic| array_get_dec) => `(tactic| with_reducible refine i_append ?_)
local macro_rules | `(tactic| array_get_dec) => `(tactic| with_reducible refine i_pop ?_)
local macro_rules | `(tactic| array_get_dec) => `(tactic| with_reducible refine i_drop ?_)
local macro_rules | `(tactic| array_get_dec) => `(tactic| with_reducible refine i_len (by with_unfolding_all exact rfl) ?_)
local macro_rules | `(tactic| array_get_dec) => `(tactic| with_reducible refine i_notN ?_)
local macro_rules | `(tactic| array_get_dec) => `(tactic| with_reducible refine i_isN ?_)
local macro_rules | `(tactic| array_get_dec) => `(tactic| with_reducible refine i_min2 ?_)
local macro_rules | `(tactic| array_get_dec) => `(tactic| with_reducible refine i_max2 ?_)
local macro_rules | `(tactic| array_get_dec) => `(tactic| with_reducible refine i_chain ?_)
local macro_rules | `(tactic| array_get_dec) => `(tactic| with_reducible refine i_lcm3 ?_ ?_)
local macro_rules | `(tactic| array_get_dec) => `(tactic| with_reducible refine i_gcd ?_)
local macro_rules | `(tactic| array_get_dec) => `(tactic| with_reducible refine i_toint ?_)
local macro_rules | `(tactic| array_get_dec) => `(tactic| with_reducible refine i_abs ?_)
local macro_rules | `(tactic| array_get_dec) => `(tactic| with_reducible refine i_pk4 ?_)
local macro_rules | `(tactic| array_get_dec) => `(tactic| with_reducible refine i_pk3 ?_)
local macro_rules | `(tactic| array_get_dec) => `(tactic| with_reducible refine i_pk2 ?_)
local macro_rules | `(tactic| array_get_dec) => `(tactic| with_reducible refine i_pk1 ?_)
local macro_rules | `(tactic| array_get_dec) => `(tactic| with_reducible refine i_fnk ?_)
local macro_rules | `(tactic| array_get_dec) => `(tactic| with_reducible refine i_fn ?_)
local macro_rules | `(tactic| array_get_dec) => `(tactic| with_reducible refine i_call ?_)
local macro_rules | `(tactic| array_get_dec) => `(tactic| with_reducible refine i_ix (by with_unfolding_all exact rfl) (by with_unfolding_all exact rfl) ?_)
local macro_rules | `(tactic| array_get_dec) => `(tactic| with_reducible refine i_ix (by assumption) (by with_unfolding_all exact rfl) ?_)
local macro_rules | `(tactic| array_get_dec) => `(tactic| with_reducible refine i_all (by repeat constructor) (by with_unfolding_all exact Nat.le_of_ble_eq_true rfl) ?_)
local macro_rules | `(tactic| array_get_dec) => `(tactic| with_reducible refine i_lst ?_)
local macro_rules | `(tactic| array_get_dec) => `(tactic| with_reducible refine i_tup ?_)
local macro_rules | `(tactic| array_get_dec) => `(tactic| with_reducible refine i_zipL ?_)
local macro_rules | `(tactic| array_get_dec) => `(tactic| with_reducible refine i_slP ?_)
local macro_rules | `(tactic| array_get_dec) => `(tactic| with_reducible refine i_subB ?_)
local macro_rules | `(tactic| array_get_dec) => `(tactic| with_reducible refine i_notB ?_)
local macro_rules | `(tactic| array_get_dec) => `(tactic| with_reducible refine i_minT2 ?_)
local macro_rules | `(tactic| array_get_dec) => `(tactic| with_reducible refine i_maxT2 ?_)
local macro_rules | `(tactic| array_get_dec) => `(tactic| with_reducible refine i_listT ?_)
local macro_rules | `(tactic| array_get_dec) => `(tactic| with_reducible refine i_tupL ?_)
local macro_rules | `(tactic| array_get_dec) => `(tactic| with_reducible refine rvL ?_)
local macro_rules | `(tactic| array_get_dec) => `(tactic| with_reducible refine i_rev ?_)
local macro_rules | `(tactic| array_get_dec) => `(tactic| with_reducible refine slL ?_)
local macro_rules | `(tactic| array_get_dec) => `(tactic| with_reducible refine slT ?_)
local macro_rules | `(tactic| array_get_dec) => `(tactic| with_reducible refine i_oS ?_)
local macro_rules | `(tactic| array_get_dec) => `(tactic| with_reducible refine i_oN ?_)
local macro_rules | `(tactic| array_get_dec) => `(tactic| with_reducible refine i_slG ?_)
local macro_rules | `(tactic| array_get_dec) => `(tactic| with_reducible refine i_fnotG ?_)
local macro_rules | `(tactic| array_get_dec) => `(tactic| with_reducible refine i_forG ?_)
local macro_rules | `(tactic| array_get_dec) => `(tactic| with_reducible refine i_fand ?_)
local macro_rules | `(tactic| array_get_dec) => `(tactic| with_reducible refine i_fif ?_)
local macro_rules | `(tactic| array_get_dec) => `(tactic| with_reducible refine i_not2 ?_)
local macro_rules | `(tactic| array_get_dec) => `(tactic| with_reducible refine i_or2 ?_)
local macro_rules | `(tactic| array_get_dec) => `(tactic| with_reducible refine i_and2 ?_)
local macro_rules | `(tactic| array_get_dec) => `(tactic| with_reducible refine i_isr ?_)
local macro_rules | `(tactic| array_get_dec) => `(tactic| with_reducible refine i_isi ?_)
local macro_rules | `(tactic| array_get_dec) => `(tactic| with_reducible refine i_isb ?_)
local macro_rules | `(tactic| array_get_dec) => `(tactic| with_reducible refine i_val ?_)
local macro_rules | `(tactic| array_get_dec) => `(tactic| with_reducible refine i_un ?_)
local macro_rules | `(tactic| array_get_dec) => `(tactic| with_reducible refine i_nes ?_)
local macro_rules | `(tactic| array_get_dec) => `(tactic| with_reducible refine i_nesr ?_)
local macro_rules | `(tactic| array_get_dec) => `(tactic| with_reducible refine i_eqs ?_)
local macro_rules | `(tactic| array_get_dec) => `(tactic| with_reducible refine i_eqsr ?_)
local macro_rules | `(tactic| array_get_dec) => `(tactic| with_reducible refine i_nei ?_)
local macro_rules | `(tactic| array_get_dec) => `(tactic| with_reducible refine i_eqi ?_)
local macro_rules | `(tactic| array_get_dec) => `(tactic| with_reducible refine i_add ?_)
local macro_rules | `(tactic| array_get_dec) => `(tactic| with_reducible refine i_ints ?_ ?_)
local macro_rules | `(tactic| array_get_dec) => `(tactic| with_reducible refine i_ints0 ?_)
local macro_rules | `(tactic| array_get_dec) => `(tactic| with_reducible refine i_bin ?_)
local macro_rules | `(tactic| array_get_dec) => `(tactic| with_reducible refine i_nil ?_)
local macro_rules | `(tactic| array_get_dec) => `(tactic| with_reducible refine i_cons ?_)
local macro_rules | `(tactic| array_get_dec) => `(tactic| with_reducible refine i_c ?_)
local macro_rules | `(tactic| array_get_dec) => `(tactic| with_reducible refine i_var (by repeat constructor) ?_)
local macro_rules | `(tactic| array_get_dec) => `(tactic| with_reducible refine i_if ?_)
local macro_rules | `(tactic| array_get_dec) => `(tactic| with_reducible refine i_ret ?_)
local macro_rules | `(tactic| array_get_dec) => `(tactic| with_reducible refine i_trip (by repeat constructor) (by repeat constructor) (by repeat constructor) ?_)
local macro_rules | `(tactic| array_get_dec) => `(tactic| with_reducible refine i_par3 ?_ (by with_unfolding_all exact Nat.le_of_ble_eq_true rfl) (by with_unfolding_all exact Nat.le_of_ble_eq_true rfl) (by with_unfolding_all exact Nat.le_of_ble_eq_true rfl))
local macro_rules | `(tactic| array_get_dec) => `(tactic| with_reducible refine i_pair (by repeat constructor) (by repeat constructor) ?_)
local macro_rules | `(tactic| array_get_dec) => `(tactic| with_reducible refine i_par ?_ (by with_unfolding_all exact Nat.le_of_ble_eq_true rfl) (by with_unfolding_all exact Nat.le_of_ble_eq_true rfl))
local macro_rules | `(tactic| array_get_dec) => `(tactic| with_reducible refine i_set (by repeat constructor) ?_)
local macro_rules | `(tactic| array_get_dec) => `(tactic| with_reducible refine i_asgn ?_ (by with_unfolding_all exact Nat.le_of_ble_eq_true rfl))
local macro_rules | `(tactic| array_get_dec) => `(tactic| with_reducible refine i_asg2v (by repeat constructor) (by repeat constructor) (by repeat constructor) ?_)
local macro_rules | `(tactic| array_get_dec) => `(tactic| with_reducible refine i_seqg (fun _ _ => ?_))
local macro_rules
  | `(tactic| decreasing_trivial_pre_omega) => `(tactic| (apply cmB; (repeat' (first | assumption | apply Bd.add | apply Bd.sub | apply Bd.mul | apply Bd.neg)); decide))
/-! sums of any number of fractions over one bottom -/
theorem ev_pick {α : Type} : ∀ xs : List α, (List.range ((xs.length + 1) / 2)).filterMap (fun k => xs[2 * k]?) = ev xs
  | [] => by simp [ev]
  | [a] => by simp [ev, List.range_succ]
  | a :: b :: t => by
    have e : ((a :: b :: t).length + 1) / 2 = (t.length + 1) / 2 + 1 := by
      show (t.length + 1 + 1 + 1) / 2 = _
      omega
    rw [e, List.range_succ_eq_map, List.filterMap_cons]
    show a :: List.filterMap _ _ = a :: ev t
    rw [List.filterMap_map, ← ev_pick t]
    rfl
theorem od_pick {α : Type} : ∀ xs : List α, (List.range (xs.length / 2)).filterMap (fun k => xs[2 * k + 1]?) = od xs
  | [] => by simp [od]
  | [a] => by simp [od]
  | a :: b :: t => by
    have e : (a :: b :: t).length / 2 = t.length / 2 + 1 := by
      show (t.length + 1 + 1) / 2 = _
      omega
    rw [e, List.range_succ_eq_map, List.filterMap_cons]
    show b :: List.filterMap _ _ = b :: od t
    rw [List.filterMap_map, ← od_pick t]
    rfl
theorem pick_evA {α : Type} (xs : List α) : pickL xs none none 2 = ev xs := by
  unfold pickL sliceBounds sliceRange
  rw [← ev_pick]
  simp only [Option.getD_some]
  rw [List.filterMap_map]
  simp only [show (2 : Int) > 0 by decide, if_true]
  have e : (if (0 : Int) < xs.length then ((xs.length : Int) - 0 + 2 - 1) / 2 else 0).toNat = (xs.length + 1) / 2 := by
    split <;> omega
  rw [e]
  congr 1
  funext k
  show xs[(0 + 2 * (k : Int)).toNat]? = _
  congr 1
  omega
theorem pick_odA {α : Type} (xs : List α) : pickL xs (some 1) none 2 = od xs := by
  unfold pickL sliceBounds sliceRange
  rw [← od_pick]
  simp only [Option.getD_some]
  rw [List.filterMap_map]
  simp only [show (2 : Int) > 0 by decide, show ¬ (1 : Int) < 0 by decide, if_true, if_false]
  by_cases c : 2 ≤ xs.length
  · have e1 : max 0 (min (1 : Int) xs.length) = 1 := by omega
    rw [e1]
    have e : (if (1 : Int) < xs.length then ((xs.length : Int) - 1 + 2 - 1) / 2 else 0).toNat = xs.length / 2 := by
      split <;> omega
    rw [e]
    congr 1
    funext k
    show xs[(1 + 2 * (k : Int)).toNat]? = _
    congr 1
    omega
  · have e : (if max 0 (min (1 : Int) xs.length) < xs.length then ((xs.length : Int) - max 0 (min (1 : Int) xs.length) + 2 - 1) / 2 else 0).toNat = 0 := by
      split <;> omega
    rw [e, show xs.length / 2 = 0 by omega]
    rfl
/-- over one bottom -/
abbrev ov (N : Nat) (z : Int) : Rat := mkRat z N
def stI : List Int → List Int
  | a :: b :: t => (a + b) :: stI t
  | t => t
def absum (zs : List Int) : Nat := (zs.map Int.natAbs).sum
theorem ov_add {N : Nat} (h : N ≠ 0) (a b : Int) : ov N a + ov N b = ov N (a + b) := by
  have hd : (N : Rat) ≠ 0 := by exact_mod_cast h
  unfold ov
  simp only [Rat.mkRat_eq_div, Rat.intCast_add]
  grind
theorem stp_ov {N : Nat} (h : N ≠ 0) : ∀ zs : List Int, stp (zs.map (ov N)) = (stI zs).map (ov N)
  | [] => rfl
  | [_] => rfl
  | a :: b :: t => by
    show (ov N a + ov N b) :: stp (t.map (ov N)) = ov N (a + b) :: (stI t).map (ov N)
    rw [ov_add h, stp_ov h t]
theorem stI_sum : ∀ zs : List Int, (stI zs).sum = zs.sum
  | [] => rfl
  | [_] => rfl
  | a :: b :: t => by
    show ((a + b) :: stI t).sum = _
    rw [List.sum_cons, List.sum_cons, List.sum_cons, stI_sum t, Int.add_assoc]
theorem stI_len : ∀ zs : List Int, (stI zs).length = (zs.length + 1) / 2
  | [] => rfl
  | [_] => by simp [stI]
  | a :: b :: t => by
    show (stI t).length + 1 = (t.length + 1 + 1 + 1) / 2
    rw [stI_len t]
    omega
theorem absum_cons (a : Int) (t : List Int) : absum (a :: t) = a.natAbs + absum t := by unfold absum; rw [List.map_cons, List.sum_cons]
theorem stI_abs : ∀ zs : List Int, absum (stI zs) ≤ absum zs
  | [] => Nat.le_refl _
  | [_] => Nat.le_refl _
  | a :: b :: t => by
    show absum ((a + b) :: stI t) ≤ _
    have := stI_abs t
    rw [absum_cons, absum_cons, absum_cons]
    omega
theorem absum_mem : ∀ {zs : List Int} {z : Int}, z ∈ zs → z.natAbs ≤ absum zs
  | a :: t, z, h => by
    rw [absum_cons]
    rcases List.mem_cons.1 h with rfl | h
    · omega
    · have := absum_mem h
      omega
def PartsD (N : Nat) (B : Nat) (zs : List Int) (t : Int) (m : Nat) : Prop := zs.sum = t ∧ zs.length = m ∧ 0 < m ∧ m ≤ 1000 ∧ absum zs ≤ B
theorem wp_deal {ns : List Int} {b : Int} {Q : KD} {E : XD} (b0 : 0 ≤ b) (b1 : b ≤ 1000) (hl : ns.length ≤ 63) (k : ∀ h', Deal [] h' → Q (.loc 1) h') : M__law_deal [.d (.list (ns.map PyData.int)), .d (.int b)] [] Q E := by
  refine i_mir rfl (by repeat constructor) (by repeat constructor) ?_
  unfold B__law_deal
  repeat' array_get_dec
  refine i_lcv ?_
  refine i_iseqG ?_
  refine i_sl0 (by repeat constructor) ?_
  refine ⟨_, rfl, ?_⟩
  have ec : cut (ns.map PyData.int) none (some 63) = (cut ns none (some 63)).map PyData.int := by
    unfold cut
    rw [List.length_map, ← List.map_drop, ← List.map_take]
  rw [ec]
  have lc : (cut ns none (some 63)).length ≤ 63 := by
    unfold cut
    rw [List.length_take, List.length_drop]
    omega
  generalize cut ns none (some 63) = ms at lc ⊢
  refine lcv_ind (hb := []) (fun k acc => ∃ cs : List Int, acc = cs.map cell ∧ cs.length ≤ k ∧ ∀ c ∈ cs, 0 ≤ c) stay_d ?_ ?_ ⟨[], rfl, Nat.le_refl 0, by simp⟩
  · rintro i x acc ex ⟨cs, rfl, hc, hp⟩
    rw [List.map_map, List.getElem?_map, Option.map_eq_some_iff] at ex
    obtain ⟨c, e1, rfl⟩ := ex
    have hi : i < ms.length := (List.getElem?_eq_some_iff.1 e1).1
    refine ⟨_, true, rfl, fun P q => q, fun _ => ⟨cell (if c < 0 then -c else c), fun P q => ?_, ?_, cs ++ [if c < 0 then -c else c], by simp, by simp; omega, ?_⟩, fun e => by cases e⟩
    · show fCall _ _ [_, _, _, some (.d (.int c)), _] _ _ _
      repeat' array_get_dec
      exact q
    · rw [List.length_map]
      exact Nat.lt_of_le_of_lt (Nat.le_trans hc (by omega : i ≤ 63)) (by decide)
    · intro d hd
      rw [List.mem_append, List.mem_singleton] at hd
      rcases hd with hd | rfl
      · exact hp d hd
      · split <;> omega
  · rintro acc ⟨cs, rfl, hc, hp⟩
    rw [List.length_map, List.length_map] at hc
    refine ⟨_, allD_cells cs, ?_⟩
    repeat' array_get_dec
    · exact cmulw (n := 20) (by decide) (by decide) (by omega) (by decide)
    refine i_iseq (by repeat constructor) rfl ?_
    refine for_ind (fun i ρ h' => h' = [] ∧ ∃ (z : Option D) (mix : Int), ρ = [some (.d (.list (ns.map PyData.int))), some (.d (.int b)), some (.d (.list (cs.map PyData.int))), z, some (cell mix)] ∧ 0 ≤ mix ∧ mix < 2 ^ 31) ?_ ?_ ⟨rfl, _, _, rfl, by omega, by omega⟩
    · rintro i x ρ h' G ex ⟨rfl, z, mix, rfl, m0, m1⟩ hG
      rw [List.map_map, List.getElem?_map, Option.map_eq_some_iff] at ex
      obtain ⟨c, e1, rfl⟩ := ex
      refine ⟨_, rfl, ?_⟩
      show sAsg _ _ [_, _, _, some (.d (.int c)), some (cell mix)] _ _
      repeat' array_get_dec
      · exact mix_mul m0 m1
      · decide
      · decide
      · exact ⟨stay_d _, hG _ _ ⟨rfl, _, _, rfl, Int.emod_nonneg _ (by decide), Int.lt_trans (Int.emod_lt_of_pos _ (by decide)) (by decide)⟩⟩
    · rintro ρ h' ⟨rfl, z, mix, rfl, m0, m1⟩
      repeat' array_get_dec
      refine i_loc ?_
      array_get_dec
      refine i_revloc ?_
      refine i_lcv ?_
      refine i_iseq (by repeat constructor) rfl ?_
      refine lcv_ind (hb := []) (fun k acc => ∃ cs : List Int, acc = cs.map cell ∧ cs.length ≤ k ∧ ∀ c ∈ cs, 0 ≤ c) stay_d ?_ ?_ ⟨[], rfl, Nat.le_refl 0, by simp⟩
      · rintro i x acc ex ⟨ds, rfl, hc2, hp2⟩
        rw [List.map_map, List.getElem?_map, Option.map_eq_some_iff] at ex
        obtain ⟨c, e1, rfl⟩ := ex
        obtain ⟨hi, e2⟩ := List.getElem?_eq_some_iff.1 e1
        refine ⟨_, decide ((10 : Int) ^ (18 : Int).toNat ≤ c), rfl, fun P q => ?_, fun hb => ⟨cell c, fun P q => ?_, ?_, ds ++ [c], by simp, by simp; omega, ?_⟩, fun _ => ⟨ds, rfl, by omega, hp2⟩⟩
        · show tVal _ [_, _, _, some (.d (.int c)), _] _ _ _
          repeat' array_get_dec
          · exact ⟨by decide, by decide, by decide⟩
          · exact q
        · show fVar _ [_, _, _, some (.d (.int c)), _] _ _ _
          exact i_var (by repeat constructor) q
        · rw [List.length_map]
          exact Nat.lt_of_le_of_lt (Nat.le_trans hc2 (by omega : i ≤ 63)) (by decide)
        · intro d hd
          rw [List.mem_append, List.mem_singleton] at hd
          rcases hd with hd | rfl
          · exact hp2 d hd
          · exact hp _ (by rw [← e2]; exact List.getElem_mem _)
      · rintro acc ⟨ds, rfl, hc2, hp2⟩
        rw [List.length_map, List.length_map] at hc2
        refine ⟨_, allD_cells ds, ?_⟩
        refine revK_lst ?_
        repeat' array_get_dec
        refine ⟨Nat.le_of_ble_eq_true rfl, k _ ⟨ds.reverse, mix, ?_, by rw [List.length_reverse]; omega, fun c hc3 => hp2 c (List.mem_reverse.1 hc3), m0, m1⟩⟩
        have e3 : ((ds.map PyData.int).map D.d).reverse = ds.reverse.map cell := by rw [List.map_map, ← List.map_reverse]; rfl
        rw [e3]
        rfl
/-! Euclid's steps, counted by Fibonacci's numbers -/
def fb : Nat → Nat
  | 0 => 0
  | 1 => 1
  | n + 2 => fb n + fb (n + 1)
theorem fb_step (n : Nat) : fb (n + 2) = fb n + fb (n + 1) := rfl
theorem fb_mono (n : Nat) : fb n ≤ fb (n + 1) := by
  cases n with
  | zero => decide
  | succ m => rw [fb_step m]; omega
/-- fb (n + 1 + k) over fb (n + 1) and fb n -/
def fac : Nat → Nat × Nat
  | 0 => (1, 0)
  | k + 1 => let z := fac k; (z.1 + z.2, z.1)
theorem fb_add : ∀ k n : Nat, fb (n + 1 + k) = (fac k).1 * fb (n + 1) + (fac k).2 * fb n
  | 0, n => by simp [fac]
  | k + 1, n => by
    have e : n + 1 + (k + 1) = (n + 1) + 1 + k := by omega
    rw [e, fb_add k (n + 1), fb_step n]
    show _ = ((fac k).1 + (fac k).2) * fb (n + 1) + (fac k).1 * fb n
    rw [Nat.mul_add, Nat.add_mul]
    omega
theorem fac_big : 2 ^ 1038 ≤ (fac 1496).1 + (fac 1496).2 := by decide +kernel
theorem fb_1497 (n : Nat) : 2 ^ 1038 * fb n ≤ fb (n + 1497) := by
  have h := fb_add 1496 n
  have h1 := fac_big
  have h0 := fb_mono n
  have e2 : n + 1 + 1496 = n + 1497 := by omega
  rw [e2] at h
  rw [h]
  generalize (fac 1496).1 = a at *
  generalize (fac 1496).2 = b at *
  have q1 := Nat.mul_le_mul_left a h0
  have q2 := Nat.mul_le_mul_right (fb n) h1
  rw [Nat.add_mul] at q2
  omega
theorem fb_pow (k : Nat) : 2 ^ (1038 * k) ≤ fb (1497 * k + 1) := by
  induction k with
  | zero => decide
  | succ k ih =>
    have h := fb_1497 (1497 * k + 1)
    have e : 1497 * (k + 1) + 1 = 1497 * k + 1 + 1497 := by omega
    rw [e, Nat.mul_succ, Nat.add_comm, Nat.pow_add]
    exact Nat.le_trans (Nat.mul_le_mul_left _ ih) h
theorem fb_big : 2 ^ 4140 ≤ fb 5989 := Nat.le_trans (Nat.pow_le_pow_right (by decide) (by decide : 4140 ≤ 1038 * 4)) (fb_pow 4)
/-- a step of Euclid keeps the count -/
theorem fb_eu {A k x y : Nat} (c : 0 < y) (h : y < x) (i : fb (k + 1) * x + fb k * y ≤ A) : fb (k + 2) * y + fb (k + 1) * (x % y) ≤ A := by
  have d := Nat.div_add_mod x y
  have q : 1 ≤ x / y := (Nat.le_div_iff_mul_le c).2 (by omega)
  have e : y ≤ y * (x / y) := Nat.le_mul_of_pos_right y q
  have hx : y + x % y ≤ x := by omega
  have h1 := Nat.mul_le_mul_left (fb (k + 1)) hx
  rw [fb_step, Nat.add_mul]
  rw [Nat.mul_add] at h1
  omega
/-- the law's lowest terms: the bottom may be negative; only the lowered bottom's size counts for the steps -/
theorem fr_div {p q : Int} (q0 : q ≠ 0) {g : Int} (hg : g = if 0 < q then ((Nat.gcd p.natAbs q.natAbs : Nat) : Int) else -((Nat.gcd p.natAbs q.natAbs : Nat) : Int)) : fr ((p : Rat) / (q : Rat)) = .tuple [.int (p.fdiv g), .int (q.fdiv g)] := by
  obtain ⟨n, rfl | rfl⟩ := Int.eq_nat_or_neg q
  · have n0 : n ≠ 0 := by omega
    rw [if_pos (by omega), nab] at hg
    subst hg
    rw [show ((p : Rat) / ((n : Int) : Rat)) = mkRat p n by rw [Rat.mkRat_eq_div]; rfl]
    exact low_eq n0
  · have n0 : n ≠ 0 := by omega
    rw [if_neg (by omega), Int.natAbs_neg, nab] at hg
    subst hg
    have e : ((p : Rat) / ((-(n : Int) : Int) : Rat)) = mkRat (-p) n := by
      rw [Rat.mkRat_eq_div, Rat.intCast_neg, Rat.intCast_neg]
      have hn : ((n : Int) : Rat) ≠ 0 := by exact_mod_cast n0
      show (p : Rat) / -((n : Int) : Rat) = -(p : Rat) / ((n : Int) : Rat)
      grind
    rw [e, low_eq n0, Int.natAbs_neg]
    have h2 := Int.neg_fdiv_neg (-p) (Nat.gcd p.natAbs n : Nat)
    rw [Int.neg_neg] at h2
    rw [h2, Int.neg_fdiv_neg]
theorem fb_le {n m : Nat} (h : n ≤ m) : fb n ≤ fb m := by
  induction m with
  | zero => rw [Nat.le_zero.1 h]; exact Nat.le_refl _
  | succ m ih =>
    rcases Nat.lt_or_ge n (m + 1) with c | c
    · exact Nat.le_trans (ih (by omega)) (fb_mono m)
    · rw [Nat.le_antisymm h c]; exact Nat.le_refl _
theorem den_low {p q : Int} (q0 : q ≠ 0) : q.natAbs = Nat.gcd p.natAbs q.natAbs * ((p : Rat) / (q : Rat)).den := by
  obtain ⟨n, rfl | rfl⟩ := Int.eq_nat_or_neg q
  · have n0 : n ≠ 0 := by omega
    rw [nab, show ((p : Rat) / ((n : Int) : Rat)) = mkRat p n by rw [Rat.mkRat_eq_div]; rfl, Rat.den_mkRat, if_neg n0, Nat.gcd_comm n]
    exact (Nat.mul_div_cancel' (Nat.gcd_dvd_right _ _)).symm
  · have n0 : n ≠ 0 := by omega
    have e : ((p : Rat) / ((-(n : Int) : Int) : Rat)) = mkRat (-p) n := by
      rw [Rat.mkRat_eq_div, Rat.intCast_neg, Rat.intCast_neg]
      have hn : ((n : Int) : Rat) ≠ 0 := by exact_mod_cast n0
      show (p : Rat) / -((n : Int) : Rat) = -(p : Rat) / ((n : Int) : Rat)
      grind
    rw [e, Int.natAbs_neg, nab, Rat.den_mkRat, if_neg n0, Int.natAbs_neg, Nat.gcd_comm n]
    exact (Nat.mul_div_cancel' (Nat.gcd_dvd_right _ _)).symm
theorem fb_end {x y g A : Nat} (hg : Nat.gcd x y = g) (h1 : y < x) (h2 : fb 6000 * x + fb 5999 * y ≤ A) (h3 : A < g * 2 ^ 4140) : y = 0 := by
  have hx : g ≤ x := Nat.le_of_dvd (by omega) (by rw [← hg]; exact Nat.gcd_dvd_left x y)
  have hf : 2 ^ 4140 ≤ fb 6000 := Nat.le_trans fb_big (fb_le (by decide))
  have h4 := Nat.mul_le_mul hf hx
  generalize fb 6000 = F at *
  generalize fb 5999 = G at *
  rw [Nat.mul_comm] at h4
  exact absurd (Nat.lt_of_le_of_lt (Nat.le_trans h4 (Nat.le_trans (Nat.le_add_right _ _) h2)) h3) (Nat.lt_irrefl _)
theorem wp_lfrac {p q : Int} {n : Nat} {h : Ho} {Q : KD} {E : XD} (q0 : q ≠ 0) (n0 : 0 < n) (hq : q.natAbs < 2 ^ n) (hn : n ≤ 9000) (hd : ((p : Rat) / (q : Rat)).den < 2 ^ 4140) (k : Q (.d (fr ((p : Rat) / (q : Rat)))) h) : M__law_frac [.d (.int p), .d (.int q)] h Q E := by
  have ab : ∀ i : Int, (if i < 0 then -i else i) = (i.natAbs : Int) := by intro i; split <;> omega
  have qn : q.natAbs ≠ 0 := by omega
  have gn : Nat.gcd p.natAbs q.natAbs ≠ 0 := fun z => qn (Nat.eq_zero_of_gcd_eq_zero_right z)
  have gl : Nat.gcd p.natAbs q.natAbs < 2 ^ n := gcd_lt qn hq
  have cdivN : ∀ {i : Int}, CDivA i (-((Nat.gcd p.natAbs q.natAbs : Nat) : Int)) := fun {i} => by
    obtain ⟨h1, h2⟩ := cdiv_nat (i := i) gn n0 gl hn
    exact ⟨by omega, by rw [Int.natAbs_neg]; exact h2⟩
  have low : q.natAbs < Nat.gcd p.natAbs q.natAbs * 2 ^ 4140 := by
    have e := den_low (p := p) q0
    have := Nat.mul_lt_mul_of_pos_left hd (Nat.pos_of_ne_zero gn)
    exact Nat.lt_of_le_of_lt (Nat.le_of_eq e) this
  refine i_mir rfl (by repeat constructor) (by repeat constructor) ?_
  unfold B__law_frac
  repeat' array_get_dec
  rw [ab, ab]
  refine ⟨by decide, by decide, ?_⟩
  refine for_ind (fun j ρ h' => h' = h ∧ ∃ (x y : Nat) (z : Option D), ρ = [some (.d (.int p)), some (.d (.int q)), some (.d (.int x)), some (.d (.int y)), z] ∧ Nat.gcd x y = Nat.gcd p.natAbs q.natAbs ∧ ((j = 0 ∧ x = p.natAbs ∧ y = q.natAbs) ∨ (0 < j ∧ y < x ∧ fb j * x + fb (j - 1) * y ≤ q.natAbs))) ?_ ?_ ?_
  · rintro i x ρ h' G ex ⟨rfl, x, y, z, rfl, eg, hp⟩ hG
    refine ⟨_, rfl, ?_⟩
    show (sSeq _ _) [some (.d (.int p)), some (.d (.int q)), some (.d (.int x)), some (.d (.int y)), some _] _ _
    repeat' array_get_dec
    refine i_ite (fun c => ?_) (fun c => ?_)
    · have c : (y : Int) = 0 := of_decide_eq_true c
      have c : y = 0 := by exact_mod_cast c
      subst c
      rw [Nat.gcd_zero_right] at eg
      rw [eg]
      repeat' array_get_dec
      refine i_ite (fun c2 => ?_) (fun c2 => ?_)
      · have c2 := of_decide_eq_true c2
        rw [fr_div q0 (g := (Nat.gcd p.natAbs q.natAbs : Nat)) (by rw [if_pos c2])] at k
        repeat' array_get_dec
        · exact cdiv_nat gn n0 gl hn
        · exact cdiv_nat gn n0 gl hn
        · exact k
      · have c2 := of_decide_eq_false c2
        rw [fr_div q0 (g := -(Nat.gcd p.natAbs q.natAbs : Nat)) (by rw [if_neg c2])] at k
        repeat' array_get_dec
        · exact cdivN
        · exact cdivN
        · exact k
    · have c := of_decide_eq_false c
      have c : 0 < y := by omega
      repeat' array_get_dec
      · exact_mod_cast c
      · refine ⟨trivial, hG _ _ ⟨rfl, y, x % y, _, rfl, ?_, .inr ⟨by omega, Nat.mod_lt _ c, ?_⟩⟩⟩
        · rw [← eg, Nat.gcd_comm y, ← Nat.gcd_rec, Nat.gcd_comm]
        · rcases hp with ⟨rfl, rfl, rfl⟩ | ⟨j0, h1, h2⟩
          · show fb 1 * _ + fb 0 * _ ≤ _
            show 1 * _ + 0 * _ ≤ _
            omega
          · obtain ⟨j, rfl⟩ : ∃ j, i = j + 1 := ⟨i - 1, by omega⟩
            exact fb_eu c h1 h2
  · rintro ρ h' ⟨rfl, x, y, z, rfl, eg, hp⟩
    have y0 : y = 0 := by
      rw [show (rangeD 0 (6000 : Int).toNat).length = 6000 by simp [rangeD]] at hp
      rcases hp with ⟨hp, _⟩ | ⟨_, h1, h2⟩
      · exact absurd hp (by decide)
      · exact fb_end eg h1 h2 low
    subst y
    rw [Nat.gcd_zero_right] at eg
    rw [eg]
    repeat' array_get_dec
    refine i_ite (fun c2 => ?_) (fun c2 => ?_)
    · have c2 := of_decide_eq_true c2
      rw [fr_div q0 (g := (Nat.gcd p.natAbs q.natAbs : Nat)) (by rw [if_pos c2])] at k
      repeat' array_get_dec
      · exact cdiv_nat gn n0 gl hn
      · exact cdiv_nat gn n0 gl hn
      · exact k
    · have c2 := of_decide_eq_false c2
      rw [fr_div q0 (g := -(Nat.gcd p.natAbs q.natAbs : Nat)) (by rw [if_neg c2])] at k
      repeat' array_get_dec
      · exact cdivN
      · exact cdivN
      · exact k
  · exact ⟨rfl, _, _, _, rfl, rfl, .inl ⟨rfl, rfl, rfl⟩⟩
/-! tools for the law's own walk: the drawn numbers with what else lies there, shown tuples, what can be compared, the energy -/
def NoR (rest : Ho) : Prop := ∀ n, noRef n rest = true
theorem NoR.nil : NoR [] := fun _ => rfl
theorem NoR.app {a b : Ho} (h : NoR a) (k : NoR b) : NoR (a ++ b) := fun n => by
  have h := h n
  have k := k n
  unfold noRef at *
  rw [List.all_append, h, k]
  rfl
theorem NoR.data (ps : List PyData) : NoR [.lst (ps.map D.d)] := fun n => by
  unfold noRef
  rw [List.all_cons, List.all_nil, Bool.and_true, List.all_eq_true]
  intro x hx
  obtain ⟨p, _, rfl⟩ := List.mem_map.1 hx
  rfl
def Dl (h : Ho) : Prop := ∃ rest, Deal rest h ∧ NoR rest
theorem deal_app {rest h j : Ho} (d : Deal rest h) : Deal (rest ++ j) (h ++ j) := by
  obtain ⟨cs, mix, rfl, h1, h2, h3, h4⟩ := d.is
  exact ⟨cs, mix, rfl, h1, h2, h3, h4⟩
theorem Dl.more {h : Ho} (d : Dl h) (ps : List PyData) : Dl (h ++ [.lst (ps.map D.d)]) := by
  obtain ⟨rest, d, n⟩ := d
  exact ⟨_, deal_app d, n.app (NoR.data ps)⟩
theorem lay_all : ∀ {ps : List PyData}, (∀ p ∈ ps, p.canLay0 = true ∧ p.depth ≤ 3) → PyData.canLayAll0 ps = true ∧ PyData.depthAll ps ≤ 3
  | [], _ => ⟨rfl, Nat.zero_le _⟩
  | p :: ps, h => by
    obtain ⟨i1, i2⟩ := lay_all fun q hq => h q (List.mem_cons_of_mem _ hq)
    obtain ⟨a1, a2⟩ := h p (List.mem_cons_self ..)
    exact ⟨by simp only [PyData.canLayAll0, a1, i1, Bool.and_self], by simp only [PyData.depthAll]; omega⟩
theorem shapedT {ps : List PyData} (h : ∀ p ∈ ps, p.canLay0 = true ∧ p.depth ≤ 3) : SeqAt.shaped (.tuple ps) = true := by
  obtain ⟨h1, h2⟩ := lay_all h
  unfold SeqAt.shaped
  simp only [PyData.canLay0, PyData.depth, Bool.and_eq_true]
  exact ⟨h1, decide_eq_true (by omega)⟩
section
variable {h : Ho} {Q : KD} {E : XD}
theorem wp_frac {a : Int} {b : Nat} (b0 : b ≠ 0) (hb : b < 2 ^ 4140) (k : Q (.d (fr (mkRat a b))) h) : M__law_frac [.d (.int a), .d (.int (b : Nat))] h Q E := by
  have e : ((a : Rat) / (((b : Nat) : Int) : Rat)) = mkRat a b := by rw [Rat.mkRat_eq_div]; rfl
  refine wp_lfrac (n := 4140) (by omega) (by decide) (by rw [nab]; exact hb) (by decide) (by
    rw [e]
    exact Nat.lt_of_le_of_lt (Nat.le_of_dvd (by omega) (den_dvd b0 a)) hb) ?_
  rw [e]
  exact k
end
theorem num_den (x : Rat) : x = (x.num : Rat) / (x.den : Rat) := by rw [← Rat.mkRat_eq_div, Rat.mkRat_self]
theorem den_ne (x : Rat) : (x.den : Rat) ≠ 0 := by exact_mod_cast x.den_nz
theorem q_plus (x y : Rat) : ((x.num * (y.den : Nat) + y.num * (x.den : Nat) : Int) : Rat) / (((x.den : Nat) * (y.den : Nat) : Int) : Rat) = x + y := by
  have h1 := den_ne x
  have h2 := den_ne y
  conv => rhs; rw [num_den x, num_den y]
  simp only [Rat.intCast_add, Rat.intCast_mul, Rat.intCast_natCast]
  generalize (x.num : Rat) = a
  generalize (y.num : Rat) = b
  generalize (x.den : Rat) = c at h1 ⊢
  generalize (y.den : Rat) = d at h2 ⊢
  grind
theorem q_minus (x y : Rat) : ((x.num * (y.den : Nat) - y.num * (x.den : Nat) : Int) : Rat) / (((x.den : Nat) * (y.den : Nat) : Int) : Rat) = x - y := by
  have h1 := den_ne x
  have h2 := den_ne y
  conv => rhs; rw [num_den x, num_den y]
  simp only [Rat.intCast_sub, Rat.intCast_mul, Rat.intCast_natCast]
  generalize (x.num : Rat) = a
  generalize (y.num : Rat) = b
  generalize (x.den : Rat) = c at h1 ⊢
  generalize (y.den : Rat) = d at h2 ⊢
  grind
theorem q_times (x y : Rat) : ((x.num * y.num : Int) : Rat) / (((x.den : Nat) * (y.den : Nat) : Int) : Rat) = x * y := by
  have h1 := den_ne x
  have h2 := den_ne y
  conv => rhs; rw [num_den x, num_den y]
  simp only [Rat.intCast_mul, Rat.intCast_natCast]
  generalize (x.num : Rat) = a
  generalize (y.num : Rat) = b
  generalize (x.den : Rat) = c at h1 ⊢
  generalize (y.den : Rat) = d at h2 ⊢
  grind
section
variable {x y : Rat} {n m : Nat} {h : Ho} {Q : KD} {E : XD}
theorem wp_lplus (sx : Sz n x) (sy : Sz m y) (hn : n + m ≤ 8000) (hd : (x + y).den < 2 ^ 4140) (k : Q (.d (fr (x + y))) h) : M__law_plus [.d (fr x), .d (fr y)] h Q E := by
  have xn : Bd n x.num := sx.1
  have xd : Bd n ((x.den : Nat) : Int) := by have := sx.2; show _ < 2 ^ n; omega
  have yn : Bd m y.num := sy.1
  have yd : Bd m ((y.den : Nat) : Int) := by have := sy.2; show _ < 2 ^ m; omega
  have d0 := x.den_nz
  have d1 := y.den_nz
  refine i_mir rfl (by repeat constructor) (by repeat constructor) ?_
  unfold B__law_plus
  repeat' array_get_dec
  · exact cmB xn yd (by omega)
  · exact cmB yn xd (by omega)
  · exact cmB xd yd (by omega)
  have z : ((x.den : Nat) : Int) * (y.den : Nat) ≠ 0 := by
    rw [← Int.natCast_mul]
    have := Nat.mul_ne_zero d0 d1
    omega
  refine wp_lfrac (n := n + m + 1) z (by omega) (Nat.lt_of_lt_of_le (xd.mul yd) (Nat.pow_le_pow_right (by decide) (by omega))) (by omega) (by rw [q_plus]; exact hd) ?_
  rw [q_plus]
  exact k
theorem wp_lless (sx : Sz n x) (sy : Sz m y) (hn : n + m ≤ 8000) (hd : (x - y).den < 2 ^ 4140) (k : Q (.d (fr (x - y))) h) : M__law_less [.d (fr x), .d (fr y)] h Q E := by
  have xn : Bd n x.num := sx.1
  have xd : Bd n ((x.den : Nat) : Int) := by have := sx.2; show _ < 2 ^ n; omega
  have yn : Bd m y.num := sy.1
  have yd : Bd m ((y.den : Nat) : Int) := by have := sy.2; show _ < 2 ^ m; omega
  have d0 := x.den_nz
  have d1 := y.den_nz
  refine i_mir rfl (by repeat constructor) (by repeat constructor) ?_
  unfold B__law_less
  repeat' array_get_dec
  · exact cmB xn yd (by omega)
  · exact cmB yn xd (by omega)
  · exact cmB xd yd (by omega)
  have z : ((x.den : Nat) : Int) * (y.den : Nat) ≠ 0 := by
    rw [← Int.natCast_mul]
    have := Nat.mul_ne_zero d0 d1
    omega
  refine wp_lfrac (n := n + m + 1) z (by omega) (Nat.lt_of_lt_of_le (xd.mul yd) (Nat.pow_le_pow_right (by decide) (by omega))) (by omega) (by rw [q_minus]; exact hd) ?_
  rw [q_minus]
  exact k
theorem wp_ltimes (sx : Sz n x) (sy : Sz m y) (hn : n + m ≤ 8000) (hd : (x * y).den < 2 ^ 4140) (k : Q (.d (fr (x * y))) h) : M__law_times [.d (fr x), .d (fr y)] h Q E := by
  have xn : Bd n x.num := sx.1
  have xd : Bd n ((x.den : Nat) : Int) := by have := sx.2; show _ < 2 ^ n; omega
  have yn : Bd m y.num := sy.1
  have yd : Bd m ((y.den : Nat) : Int) := by have := sy.2; show _ < 2 ^ m; omega
  have d0 := x.den_nz
  have d1 := y.den_nz
  refine i_mir rfl (by repeat constructor) (by repeat constructor) ?_
  unfold B__law_times
  repeat' array_get_dec
  · exact cmB xn yn (by omega)
  · exact cmB xd yd (by omega)
  have z : ((x.den : Nat) : Int) * (y.den : Nat) ≠ 0 := by
    rw [← Int.natCast_mul]
    have := Nat.mul_ne_zero d0 d1
    omega
  refine wp_lfrac (n := n + m + 1) z (by omega) (Nat.lt_of_lt_of_le (xd.mul yd) (Nat.pow_le_pow_right (by decide) (by omega))) (by omega) (by rw [q_times]; exact hd) ?_
  rw [q_times]
  exact k
end
end LW
set_option Elab.async false
set_option linter.all false
set_option maxRecDepth 100000
/-! networks, plainly: sums over pairs of points, the star of a dropped point -/
namespace NT
theorem sum_perm {l l' : List Rat} (h : l.Perm l') : l.sum = l'.sum := by
  induction h with
  | nil => rfl
  | cons a _ ih => rw [List.sum_cons, List.sum_cons, ih]
  | swap a b t => simp only [List.sum_cons]; grind
  | trans _ _ a b => exact a.trans b
theorem sum_map_zero {α : Type} {g : α → Rat} : ∀ {l : List α}, (∀ a ∈ l, g a = 0) → (l.map g).sum = 0
  | [], _ => rfl
  | a :: t, h => by
    rw [List.map_cons, List.sum_cons, h a (List.mem_cons_self ..), sum_map_zero fun b hb => h b (List.mem_cons_of_mem _ hb)]
    grind
theorem sum_map_congr {α : Type} {g h : α → Rat} : ∀ {l : List α}, (∀ a ∈ l, g a = h a) → (l.map g).sum = (l.map h).sum
  | [], _ => rfl
  | a :: t, e => by rw [List.map_cons, List.map_cons, List.sum_cons, List.sum_cons, e a (List.mem_cons_self ..), sum_map_congr fun b hb => e b (List.mem_cons_of_mem _ hb)]
/-- the sum over all pairs, the earlier first -/
def pr (g : Int → Int → Rat) : List Int → Rat
  | [] => 0
  | a :: t => (t.map (g a)).sum + pr g t
theorem pr_perm {g : Int → Int → Rat} (sy : ∀ a b, g a b = g b a) {l l' : List Int} (h : l.Perm l') : pr g l = pr g l' := by
  induction h with
  | nil => rfl
  | cons a h ih =>
    unfold pr
    rw [ih, sum_perm (h.map _)]
  | swap a b t =>
    simp only [pr, List.map_cons, List.sum_cons]
    rw [sy b a]
    grind
  | trans _ _ a b => exact a.trans b
theorem pr_zero {g : Int → Int → Rat} : ∀ {l : List Int}, (∀ a ∈ l, ∀ b ∈ l, g a b = 0) → pr g l = 0
  | [], _ => rfl
  | a :: t, e => by
    unfold pr
    rw [sum_map_zero fun b hb => e a (List.mem_cons_self ..) b (List.mem_cons_of_mem _ hb), pr_zero fun x hx y hy => e x (List.mem_cons_of_mem _ hx) y (List.mem_cons_of_mem _ hy)]
    grind
/-- the ties of a list of points, in order -/
def tl (f : Int → Int → Rat) : List Int → List (Int × Int × Rat)
  | [] => []
  | a :: t => t.filterMap (fun b => if f a b = 0 then none else some (a, b, f a b)) ++ tl f t
theorem row_sum (h : Int → Int → Rat → Rat) (h0 : ∀ a b, h a b 0 = 0) (f : Int → Int → Rat) (a : Int) : ∀ t : List Int, ((t.filterMap (fun b => if f a b = 0 then none else some (a, b, f a b))).map fun z => h z.1 z.2.1 z.2.2).sum = (t.map fun b => h a b (f a b)).sum
  | [] => rfl
  | b :: t => by
    rw [List.filterMap_cons]
    by_cases c : f a b = 0
    · simp only [c, if_true]
      rw [row_sum h h0 f a t, List.map_cons, List.sum_cons, c, h0]
      grind
    · simp only [c, if_false]
      rw [List.map_cons, List.sum_cons, row_sum h h0 f a t, List.map_cons, List.sum_cons]
theorem tl_sum (h : Int → Int → Rat → Rat) (h0 : ∀ a b, h a b 0 = 0) (f : Int → Int → Rat) : ∀ l, ((tl f l).map fun z => h z.1 z.2.1 z.2.2).sum = pr (fun a b => h a b (f a b)) l
  | [] => rfl
  | a :: t => by
    unfold tl pr
    rw [List.map_append, List.sum_append, row_sum h h0 f a t, tl_sum h h0 f t]
theorem mem_tl {f : Int → Int → Rat} {z : Int × Int × Rat} : ∀ {l : List Int}, l.Pairwise (· < ·) → (z ∈ tl f l ↔ z.1 ∈ l ∧ z.2.1 ∈ l ∧ z.1 < z.2.1 ∧ z.2.2 ≠ 0 ∧ f z.1 z.2.1 = z.2.2)
  | [], _ => by simp [tl]
  | a :: t, h => by
    obtain ⟨h1, h2⟩ := List.pairwise_cons.1 h
    obtain ⟨x, y, q⟩ := z
    unfold tl
    rw [List.mem_append, mem_tl h2, List.mem_filterMap]
    dsimp only
    constructor
    · rintro (⟨b, hb, e⟩ | ⟨k1, k2, k3, k4⟩)
      · by_cases c : f a b = 0
        · rw [if_pos c] at e; cases e
        · rw [if_neg c] at e
          cases e
          exact ⟨List.mem_cons_self .., List.mem_cons_of_mem _ hb, h1 _ hb, c, rfl⟩
      · exact ⟨List.mem_cons_of_mem _ k1, List.mem_cons_of_mem _ k2, k3, k4⟩
    · rintro ⟨k1, k2, k3, k4, k5⟩
      rcases List.mem_cons.1 k1 with rfl | k1
      · rcases List.mem_cons.1 k2 with rfl | k2
        · omega
        · refine .inl ⟨y, k2, ?_⟩
          rw [if_neg (by rw [k5]; exact k4), k5]
      · rcases List.mem_cons.1 k2 with e | k2
        · have := h1 _ k1
          omega
        · exact .inr ⟨k1, k2, k3, k4, k5⟩
/-- in order -/
def Lx (a b : Int × Int × Rat) : Prop := a.1 < b.1 ∨ (a.1 = b.1 ∧ a.2.1 < b.2.1)
theorem tl_ord {f : Int → Int → Rat} : ∀ {l : List Int}, l.Pairwise (· < ·) → (tl f l).Pairwise Lx
  | [], _ => .nil
  | a :: t, h => by
    obtain ⟨h1, h2⟩ := List.pairwise_cons.1 h
    unfold tl
    rw [List.pairwise_append]
    refine ⟨?_, tl_ord h2, ?_⟩
    · rw [List.pairwise_filterMap]
      refine h2.imp fun {x y} q u e1 v e2 => ?_
      have e1 : (if f a x = 0 then none else some (a, x, f a x)) = some u := e1
      have e2 : (if f a y = 0 then none else some (a, y, f a y)) = some v := e2
      by_cases c : f a x = 0
      · rw [if_pos c] at e1; cases e1
      by_cases d : f a y = 0
      · rw [if_pos d] at e2; cases e2
      rw [if_neg c] at e1
      rw [if_neg d] at e2
      cases e1
      cases e2
      exact .inr ⟨rfl, q⟩
    · intro u hu v hv
      obtain ⟨b, hb, e⟩ := List.mem_filterMap.1 hu
      have := (mem_tl h2).1 hv
      by_cases c : f a b = 0
      · rw [if_pos c] at e; cases e
      · rw [if_neg c] at e
        cases e
        exact .inl (h1 _ this.1)
theorem tl_len {f : Int → Int → Rat} : ∀ l : List Int, 2 * (tl f l).length + l.length ≤ l.length * l.length
  | [] => by simp [tl]
  | a :: t => by
    unfold tl
    have := tl_len (f := f) t
    have h := List.length_filterMap_le (fun b => if f a b = 0 then none else some (a, b, f a b)) t
    rw [List.length_append, List.length_cons]
    generalize (List.filterMap _ t).length = n at *
    generalize (tl f t).length = m at *
    generalize t.length = k at *
    have e : (k + 1) * (k + 1) = k * k + 2 * k + 1 := by grind
    omega
/-! bottoms -/
/-- a whole number over N -/
def Ov (N : Nat) (x : Rat) : Prop := ∃ z : Int, x * (N : Rat) = (z : Rat)
theorem Ov.add {N : Nat} {x y : Rat} (h : Ov N x) (k : Ov N y) : Ov N (x + y) := by
  obtain ⟨a, ha⟩ := h
  obtain ⟨b, hb⟩ := k
  exact ⟨a + b, by rw [Rat.add_mul, ha, hb, Rat.intCast_add]⟩
theorem Ov.neg {N : Nat} {x : Rat} (h : Ov N x) : Ov N (-x) := by
  obtain ⟨a, ha⟩ := h
  exact ⟨-a, by rw [Rat.neg_mul, ha, Rat.intCast_neg]⟩
theorem Ov.sub {N : Nat} {x y : Rat} (h : Ov N x) (k : Ov N y) : Ov N (x - y) := by
  rw [Rat.sub_eq_add_neg]
  exact h.add k.neg
theorem Ov.mul {N M : Nat} {x y : Rat} (h : Ov N x) (k : Ov M y) : Ov (N * M) (x * y) := by
  obtain ⟨a, ha⟩ := h
  obtain ⟨b, hb⟩ := k
  exact ⟨a * b, by rw [Rat.intCast_mul, ← ha, ← hb, Rat.natCast_mul]; grind⟩
theorem Ov.up {N M : Nat} {x : Rat} (h : Ov N x) (d : N ∣ M) : Ov M x := by
  obtain ⟨a, ha⟩ := h
  obtain ⟨c, rfl⟩ := d
  exact ⟨a * c, by rw [Rat.natCast_mul, ← Rat.mul_assoc, ha, Rat.intCast_mul, Rat.intCast_natCast]⟩
theorem Ov.zero (N : Nat) : Ov N 0 := ⟨0, by simp⟩
theorem Ov.den (x : Rat) : Ov x.den x := ⟨x.num, by
  have h : (x.den : Rat) ≠ 0 := by exact_mod_cast x.den_nz
  have e : x = (x.num : Rat) / (x.den : Rat) := by rw [← Rat.mkRat_eq_div, Rat.mkRat_self]
  conv => lhs; lhs; rw [e]
  rw [Rat.div_mul_cancel h]⟩
theorem Ov.inv {P : Rat} (h : P ≠ 0) : Ov P.num.natAbs (P⁻¹) := by
  have hd : (P.den : Rat) ≠ 0 := by exact_mod_cast P.den_nz
  have hn : (P.num : Rat) ≠ 0 := by
    intro e
    exact h (Rat.num_eq_zero.1 (by exact_mod_cast e))
  have e : P = (P.num : Rat) / (P.den : Rat) := by rw [← Rat.mkRat_eq_div, Rat.mkRat_self]
  have e2 : P⁻¹ = (P.den : Rat) / (P.num : Rat) := by
    conv => lhs; rw [e]
    rw [Rat.div_def, Rat.inv_mul_rev, Rat.inv_inv, ← Rat.div_def]
  have key : P⁻¹ * (P.num : Rat) = (P.den : Rat) := by rw [e2, Rat.div_mul_cancel hn]
  rcases Int.natAbs_eq P.num with a | a
  · refine ⟨(P.den : Int), ?_⟩
    rw [Rat.intCast_natCast, ← key]
    congr 1
    rw [← Rat.intCast_natCast, ← a]
  · refine ⟨-(P.den : Int), ?_⟩
    rw [Rat.intCast_neg, Rat.intCast_natCast, ← key, ← Rat.mul_neg]
    congr 1
    rw [← Rat.intCast_natCast, ← Rat.intCast_neg]
    congr 1
    omega
theorem Ov.dvd {N : Nat} (hN : N ≠ 0) {x : Rat} (h : Ov N x) : x.den ∣ N := by
  obtain ⟨z, e⟩ := h
  have hd : (N : Rat) ≠ 0 := by exact_mod_cast hN
  have ex : x = mkRat z N := by
    rw [Rat.mkRat_eq_div, ← e]
    show x = x * (N : Rat) / (((N : Nat) : Int) : Rat)
    rw [Rat.intCast_natCast, Rat.mul_div_cancel hd]
  rw [ex, Rat.den_mkRat, if_neg hN]
  exact Nat.div_dvd_of_dvd (Nat.gcd_dvd_left _ _)
theorem Ov.of_dvd {N : Nat} {x : Rat} (h : x.den ∣ N) : Ov N x := (Ov.den x).up h
theorem Ov.sum {N : Nat} : ∀ {l : List Rat}, (∀ x ∈ l, Ov N x) → Ov N l.sum
  | [], _ => Ov.zero N
  | a :: t, h => by
    rw [List.sum_cons]
    exact (h a (List.mem_cons_self ..)).add (Ov.sum fun x hx => h x (List.mem_cons_of_mem _ hx))
/-- products -/
def prd : List Nat → Nat
  | [] => 1
  | a :: t => a * prd t
theorem dvd_prd {x : Nat} : ∀ {l : List Nat}, x ∈ l → x ∣ prd l
  | a :: t, h => by
    unfold prd
    rcases List.mem_cons.1 h with rfl | h
    · exact Nat.dvd_mul_right _ _
    · exact Nat.dvd_trans (dvd_prd h) (Nat.dvd_mul_left _ _)
theorem prd_pos : ∀ {l : List Nat}, (∀ x ∈ l, x ≠ 0) → prd l ≠ 0
  | [], _ => by decide
  | a :: t, h => Nat.mul_ne_zero (h a (List.mem_cons_self ..)) (prd_pos fun x hx => h x (List.mem_cons_of_mem _ hx))
theorem prd_lt {k : Nat} : ∀ {l : List Nat}, (∀ x ∈ l, x ≤ 2 ^ k) → prd l ≤ 2 ^ (k * l.length)
  | [], _ => by simp [prd]
  | a :: t, h => by
    unfold prd
    rw [List.length_cons, Nat.mul_succ, Nat.add_comm, Nat.pow_add]
    exact Nat.mul_le_mul (h a (List.mem_cons_self ..)) (prd_lt fun x hx => h x (List.mem_cons_of_mem _ hx))
/-- the product over all pairs -/
def pp (g : Int → Int → Nat) : List Int → Nat
  | [] => 1
  | a :: t => prd (t.map (g a)) * pp g t
theorem dvd_pp {g : Int → Int → Nat} (sy : ∀ a b, g a b = g b a) {a b : Int} (ne : a ≠ b) : ∀ {l : List Int}, a ∈ l → b ∈ l → g a b ∣ pp g l
  | c :: t, ha, hb => by
    unfold pp
    rcases List.mem_cons.1 ha with rfl | ha
    · rcases List.mem_cons.1 hb with rfl | hb
      · exact absurd rfl ne
      · exact Nat.dvd_trans (dvd_prd (List.mem_map.2 ⟨b, hb, rfl⟩)) (Nat.dvd_mul_right _ _)
    · rcases List.mem_cons.1 hb with e | hb
      · rw [e, sy]
        exact Nat.dvd_trans (dvd_prd (List.mem_map.2 ⟨a, ha, rfl⟩)) (Nat.dvd_mul_right _ _)
      · exact Nat.dvd_trans (dvd_pp sy ne ha hb) (Nat.dvd_mul_left _ _)
theorem pp_pos {g : Int → Int → Nat} (h : ∀ a b, g a b ≠ 0) : ∀ l : List Int, pp g l ≠ 0
  | [] => by simp [pp]
  | a :: t => Nat.mul_ne_zero (prd_pos fun x hx => by
      obtain ⟨b, _, rfl⟩ := List.mem_map.1 hx
      exact h _ _) (pp_pos h t)
def tri : Nat → Nat
  | 0 => 0
  | n + 1 => n + tri n
theorem pp_lt {g : Int → Int → Nat} {k : Nat} (h : ∀ a b, g a b ≤ 2 ^ k) : ∀ l : List Int, pp g l ≤ 2 ^ (k * tri l.length)
  | [] => by simp [pp, tri]
  | a :: t => by
    unfold pp
    rw [List.length_cons, tri, Nat.mul_add, Nat.pow_add]
    refine Nat.mul_le_mul ?_ (pp_lt h t)
    have := prd_lt (k := k) (l := t.map (g a)) fun x hx => by
      obtain ⟨b, _, rfl⟩ := List.mem_map.1 hx
      exact h _ _
    rwa [List.length_map] at this
theorem tri_mono {n m : Nat} (h : n ≤ m) : tri n ≤ tri m := by
  induction h with
  | refl => exact Nat.le_refl _
  | step _ ih => exact Nat.le_trans ih (by show tri _ ≤ _ + tri _; omega)
end NT
set_option Elab.async false
set_option linter.all false
set_option maxRecDepth 100000
set_option maxHeartbeats 40000000
namespace LW
open PySem PySem.Spec PyProof.Rows L2 V2
local macro_rules | `(tactic| array_get_dec) => `(tactic| with_reducible refine i_go (by assumption) ?_)
local macro_rules | `(tactic| array_get_dec) => `(tactic| with_reducible refine i_next ?_)
local macro_rules | `(tactic| array_get_dec) => `(tactic| with_reducible refine i_idxT ?_)
local macro_rules | `(tactic| array_get_dec) => `(tactic| with_reducible refine i_unT ?_)
local macro_rules | `(tactic| array_get_dec) => `(tactic| with_reducible refine i_make2 ?_)
local macro_rules | `(tactic| array_get_dec) => `(tactic| with_reducible refine fld1 (by with_unfolding_all exact rfl) ?_)
local macro_rules | `(tactic| array_get_dec) => `(tactic| with_reducible refine i_fld ?_)
local macro_rules | `(tactic| array_get_dec) => `(tactic| with_reducible refine i_isr2 ?_)
local macro_rules | `(tactic| array_get_dec) => `(tactic| with_reducible refine i_range2 ?_)
local macro_rules | `(tactic| array_get_dec) => `(tactic| with_reducible refine i_range1 ?_)
local macro_rules | `(tactic| array_get_dec) => `(tactic| with_reducible refine i_for ?_)
local macro_rules | `(tactic| array_get_dec) => `(tactic| with_reducible refine i_brk ?_)
local macro_rules | `(tactic| array_get_dec) => `(tactic| with_reducible refine i_zip2 ?_)
local macro_rules | `(tactic| array_get_dec) => `(tactic| with_reducible refine i_enum1 ?_)
local macro_rules | `(tactic| array_get_dec) => `(tactic| with_reducible refine i_one ?_)
local macro_rules | `(tactic| array_get_dec) => `(tactic| with_reducible refine i_raise ?_)
local macro_rules | `(tactic| array_get_dec) => `(tactic| with_reducible refine i_sub ?_)
local macro_rules | `(tactic| array_get_dec) => `(tactic| with_reducible refine i_append ?_)
local macro_rules | `(tactic| array_get_dec) => `(tactic| with_reducible refine i_pop ?_)
local macro_rules | `(tactic| array_get_dec) => `(tactic| with_reducible refine i_drop ?_)
local macro_rules | `(tactic| array_get_dec) => `(tactic| with_reducible refine i_len (by with_unfolding_all exact rfl) ?_)
local macro_rules | `(tactic| array_get_dec) => `(tactic| with_reducible refine i_notN ?_)
local macro_rules | `(tactic| array_get_dec) => `(tactic| with_reducible refine i_isN ?_)
local macro_rules | `(tactic| array_get_dec) => `(tactic| with_reducible refine i_min2 ?_)
local macro_rules | `(tactic| array_get_dec) => `(tactic| with_reducible refine i_max2 ?_)
local macro_rules | `(tactic| array_get_dec) => `(tactic| with_reducible refine i_chain ?_)
local macro_rules | `(tactic| array_get_dec) => `(tactic| with_reducible refine i_lcm3 ?_ ?_)
local macro_rules | `(tactic| array_get_dec) => `(tactic| with_reducible refine i_gcd ?_)
local macro_rules | `(tactic| array_get_dec) => `(tactic| with_reducible refine i_toint ?_)
local macro_rules | `(tactic| array_get_dec) => `(tactic| with_reducible refine i_abs ?_)
local macro_rules | `(tactic| array_get_dec) => `(tactic| with_reducible refine i_pk4 ?_)
local macro_rules | `(tactic| array_get_dec) => `(tactic| with_reducible refine i_pk3 ?_)
local macro_rules | `(tactic| array_get_dec) => `(tactic| with_reducible refine i_pk2 ?_)
local macro_rules | `(tactic| array_get_dec) => `(tactic| with_reducible refine i_pk1 ?_)
local macro_rules | `(tactic| array_get_dec) => `(tactic| with_reducible refine i_fnk ?_)
local macro_rules | `(tactic| array_get_dec) => `(tactic| with_reducible refine i_fn ?_)
local macro_rules | `(tactic| array_get_dec) => `(tactic| with_reducible refine i_call ?_)
local macro_rules | `(tactic| array_get_dec) => `(tactic| with_reducible refine i_ix (by with_unfolding_all exact rfl) (by with_unfolding_all exact rfl) ?_)
local macro_rules | `(tactic| array_get_dec) => `(tactic| with_reducible refine i_ix (by assumption) (by with_unfolding_all exact rfl) ?_)
local macro_rules | `(tactic| array_get_dec) => `(tactic| with_reducible refine i_all (by repeat constructor) (by with_unfolding_all exact Nat.le_of_ble_eq_true rfl) ?_)
local macro_rules | `(tactic| array_get_dec) => `(tactic| with_reducible refine i_lst ?_)
local macro_rules | `(tactic| array_get_dec) => `(tactic| with_reducible refine i_tup ?_)
local macro_rules | `(tactic| array_get_dec) => `(tactic| with_reducible refine i_zipL ?_)
local macro_rules | `(tactic| array_get_dec) => `(tactic| with_reducible refine i_slP ?_)
local macro_rules | `(tactic| array_get_dec) => `(tactic| with_reducible refine i_subB ?_)
local macro_rules | `(tactic| array_get_dec) => `(tactic| with_reducible refine i_notB ?_)
local macro_rules | `(tactic| array_get_dec) => `(tactic| with_reducible refine i_minT2 ?_)
local macro_rules | `(tactic| array_get_dec) => `(tactic| with_reducible refine i_maxT2 ?_)
local macro_rules | `(tactic| array_get_dec) => `(tactic| with_reducible refine i_listT ?_)
local macro_rules | `(tactic| array_get_dec) => `(tactic| with_reducible refine i_tupL ?_)
local macro_rules | `(tactic| array_get_dec) => `(tactic| with_reducible refine rvL ?_)
local macro_rules | `(tactic| array_get_dec) => `(tactic| with_reducible refine i_rev ?_)
local macro_rules | `(tactic| array_get_dec) => `(tactic| with_reducible refine slL ?_)
local macro_rules | `(tactic| array_get_dec) => `(tactic| with_reducible refine slT ?_)
local macro_rules | `(tactic| array_get_dec) => `(tactic| with_reducible refine i_oS ?_)
local macro_rules | `(tactic| array_get_dec) => `(tactic| with_reducible refine i_oN ?_)
local macro_rules | `(tactic| array_get_dec) => `(tactic| with_reducible refine i_slG ?_)
local macro_rules | `(tactic| array_get_dec) => `(tactic| with_reducible refine i_fnotG ?_)
local macro_rules | `(tactic| array_get_dec) => `(tactic| with_reducible refine i_forG ?_)
local macro_rules | `(tactic| array_get_dec) => `(tactic| with_reducible refine i_fand ?_)
local macro_rules | `(tactic| array_get_dec) => `(tactic| with_reducible refine i_fif ?_)
local macro_rules | `(tactic| array_get_dec) => `(tactic| with_reducible refine i_not2 ?_)
local macro_rules | `(tactic| array_get_dec) => `(tactic| with_reducible refine i_or2 ?_)
local macro_rules | `(tactic| array_get_dec) => `(tactic| with_reducible refine i_and2 ?_)
local macro_rules | `(tactic| array_get_dec) => `(tactic| with_reducible refine i_isr ?_)
local macro_rules | `(tactic| array_get_dec) => `(tactic| with_reducible refine i_isi ?_)
local macro_rules | `(tactic| array_get_dec) => `(tactic| with_reducible refine i_isb ?_)
local macro_rules | `(tactic| array_get_dec) => `(tactic| with_reducible refine i_val ?_)
local macro_rules | `(tactic| array_get_dec) => `(tactic| with_reducible refine i_un ?_)
local macro_rules | `(tactic| array_get_dec) => `(tactic| with_reducible refine i_nes ?_)
local macro_rules | `(tactic| array_get_dec) => `(tactic| with_reducible refine i_nesr ?_)
local macro_rules | `(tactic| array_get_dec) => `(tactic| with_reducible refine i_eqs ?_)
local macro_rules | `(tactic| array_get_dec) => `(tactic| with_reducible refine i_eqsr ?_)
local macro_rules | `(tactic| array_get_dec) => `(tactic| with_reducible refine i_nei ?_)
local macro_rules | `(tactic| array_get_dec) => `(tactic| with_reducible refine i_eqi ?_)
local macro_rules | `(tactic| array_get_dec) => `(tactic| with_reducible refine i_add ?_)
local macro_rules | `(tactic| array_get_dec) => `(tactic| with_reducible refine i_ints ?_ ?_)
local macro_rules | `(tactic| array_get_dec) => `(tactic| with_reducible refine i_ints0 ?_)
local macro_rules | `(tactic| array_get_dec) => `(tactic| with_reducible refine i_bin ?_)
local macro_rules | `(tactic| array_get_dec) => `(tactic| with_reducible refine i_nil ?_)
local macro_rules | `(tactic| array_get_dec) => `(tactic| with_reducible refine i_cons ?_)
local macro_rules | `(tactic| array_get_dec) => `(tactic| with_reducible refine i_c ?_)
local macro_rules | `(tactic| array_get_dec) => `(tactic| with_reducible refine i_var (by repeat constructor) ?_)
local macro_rules | `(tactic| array_get_dec) => `(tactic| with_reducible refine i_if ?_)
local macro_rules | `(tactic| array_get_dec) => `(tactic| with_reducible refine i_ret ?_)
local macro_rules | `(tactic| array_get_dec) => `(tactic| with_reducible refine i_trip (by repeat constructor) (by repeat constructor) (by repeat constructor) ?_)
local macro_rules | `(tactic| array_get_dec) => `(tactic| with_reducible refine i_par3 ?_ (by with_unfolding_all exact Nat.le_of_ble_eq_true rfl) (by with_unfolding_all exact Nat.le_of_ble_eq_true rfl) (by with_unfolding_all exact Nat.le_of_ble_eq_true rfl))
local macro_rules | `(tactic| array_get_dec) => `(tactic| with_reducible refine i_pair (by repeat constructor) (by repeat constructor) ?_)
local macro_rules | `(tactic| array_get_dec) => `(tactic| with_reducible refine i_par ?_ (by with_unfolding_all exact Nat.le_of_ble_eq_true rfl) (by with_unfolding_all exact Nat.le_of_ble_eq_true rfl))
local macro_rules | `(tactic| array_get_dec) => `(tactic| with_reducible refine i_set (by repeat constructor) ?_)
local macro_rules | `(tactic| array_get_dec) => `(tactic| with_reducible refine i_asgn ?_ (by with_unfolding_all exact Nat.le_of_ble_eq_true rfl))
local macro_rules | `(tactic| array_get_dec) => `(tactic| with_reducible refine i_asg2v (by repeat constructor) (by repeat constructor) (by repeat constructor) ?_)
local macro_rules | `(tactic| array_get_dec) => `(tactic| with_reducible refine i_seqg (fun _ _ => ?_))
local macro_rules
  | `(tactic| decreasing_trivial_pre_omega) => `(tactic| (apply cmB; (repeat' (first | assumption | apply Bd.add | apply Bd.sub | apply Bd.mul | apply Bd.neg)); decide))
def Wd (x : Rat) : Prop := x.num.natAbs < 2 ^ 100000 ∧ x.den < 2 ^ 9000
theorem Wd.neg {x : Rat} (s : Wd x) : Wd (-x) := ⟨by rw [Rat.neg_num, Int.natAbs_neg]; exact s.1, by rw [Rat.neg_den]; exact s.2⟩
theorem Wd.of {n : Nat} {x : Rat} (s : Sz n x) (h : n ≤ 9000) : Wd x :=
  ⟨Nat.lt_of_lt_of_le s.1 (Nat.pow_le_pow_right (by decide) (by omega)), Nat.lt_of_lt_of_le s.2 (Nat.pow_le_pow_right (by decide) h)⟩
theorem Wd.mk {p : Int} {q : Nat} (z : q ≠ 0) (h1 : p.natAbs < 2 ^ 100000) (h2 : q < 2 ^ 9000) : Wd (mkRat p q) := by
  refine ⟨?_, ?_⟩
  · rw [Rat.num_mkRat, if_neg z]
    refine Nat.lt_of_le_of_lt ?_ h1
    rw [Int.natAbs_ediv_of_dvd (Int.ofNat_dvd_left.2 (Nat.gcd_dvd_right _ _))]
    exact Nat.div_le_self _ _
  · rw [Rat.den_mkRat, if_neg z]
    exact Nat.lt_of_le_of_lt (Nat.div_le_self _ _) h2
theorem wp_plusW {a b : Rat} {h : Ho} {Q : KD} {E : XD} (sa : Wd a) (sb : Wd b) (k : Q (.d (fr (a + b))) h) : M_plus [.d (fr a), .d (fr b)] h Q E := by
  have hs : 0 < 9000 := by decide
  rw [plus_eq a b rfl rfl rfl rfl rfl] at k
  refine i_mir rfl (by repeat constructor) (by repeat constructor) ?_
  unfold B_plus
  repeat' array_get_dec
  · exact cdiv_gr b.den_nz hs sb.2 (by decide)
  · exact cdiv_gr b.den_nz hs sb.2 (by decide)
  · exact cmB (show Bd 100000 _ from sa.1) (show Bd 9000 _ from Nat.lt_of_le_of_lt (v_fdiv_le _ _) sb.2) (by decide)
  · exact cmB (show Bd 100000 _ from sb.1) (show Bd 9000 _ from Nat.lt_of_le_of_lt (v_fdiv_le _ _) sa.2) (by decide)
  · exact cdiv_gr (gcd_ne b.den_nz) hs (gcd_lt b.den_nz sb.2) (by decide)
  · exact cdiv_gr (gcd_ne b.den_nz) hs (gcd_lt b.den_nz sb.2) (by decide)
  · exact cmulw hs (Nat.lt_of_le_of_lt (v_fdiv_le _ _) sa.2) (Nat.lt_of_le_of_lt (v_fdiv_le _ _) sb.2) (by decide)
  · exact k
theorem wp_timesW {a b : Rat} {h : Ho} {Q : KD} {E : XD} (sa : Wd a) (sb : Wd b) (k : Q (.d (fr (a * b))) h) : M_times [.d (fr a), .d (fr b)] h Q E := by
  have hs : 0 < 9000 := by decide
  rw [times_eq a b rfl rfl] at k
  refine i_mir rfl (by repeat constructor) (by repeat constructor) ?_
  unfold B_times
  repeat' array_get_dec
  · exact cdiv_gr b.den_nz hs sb.2 (by decide)
  · exact cdiv_gr a.den_nz hs sa.2 (by decide)
  · exact cmB (show Bd 100000 _ from Nat.lt_of_le_of_lt (v_fdiv_le _ _) sa.1) (show Bd 100000 _ from Nat.lt_of_le_of_lt (v_fdiv_le _ _) sb.1) (by decide)
  · exact cdiv_gr a.den_nz hs sa.2 (by decide)
  · exact cdiv_gr b.den_nz hs sb.2 (by decide)
  · exact cmulw hs (Nat.lt_of_le_of_lt (v_fdiv_le _ _) sa.2) (Nat.lt_of_le_of_lt (v_fdiv_le _ _) sb.2) (by decide)
  · exact k
theorem wp_minusW {a b : Rat} {h : Ho} {Q : KD} {E : XD} (sa : Wd a) (sb : Wd b) (k : Q (.d (fr (a - b))) h) : M_minus [.d (fr a), .d (fr b)] h Q E := by
  rw [Rat.sub_eq_add_neg] at k
  refine i_mir rfl (by repeat constructor) (by repeat constructor) ?_
  unfold B_minus
  repeat' array_get_dec
  refine wp_negative ?_
  repeat' array_get_dec
  exact wp_plusW sa sb.neg k
theorem wp_totalW {zs : List Int} {N B : Nat} {v : PyData} (hv : v = .list ((zs.map (ov N)).map fr) ∨ v = .tuple ((zs.map (ov N)).map fr)) (hl : zs.length ≤ 1000) (d0 : N ≠ 0) (dD : N < 2 ^ 9000) (hB : absum zs ≤ B) (hs : B < 2 ^ 100000) {h : Ho} {Q : KD} {E : XD} (k : Q (.d (fr (ov N zs.sum))) h) : M_total_of [.d v] h Q E := by
  have bound : ∀ {qs : List Int}, absum qs ≤ B → ∀ q ∈ qs.map (ov N), Wd q := fun hq q hm => by
    obtain ⟨z, hz, rfl⟩ := List.mem_map.1 hm
    exact Wd.mk d0 (Nat.lt_of_le_of_lt (Nat.le_trans (absum_mem hz) hq) hs) dD
  refine i_mir rfl (by repeat constructor) (by repeat constructor) ?_
  unfold B_total_of
  repeat' array_get_dec
  refine list1_data hv ?_
  repeat' array_get_dec
  refine i_truL (by repeat constructor) ?_
  rw [List.isEmpty_map, List.isEmpty_map, Bool.not_not]
  refine i_ite (fun c => ?_) (fun c => ?_)
  · have c : zs = [] := List.isEmpty_iff.1 c
    subst c
    repeat' array_get_dec
    have e : ov N [].sum = 0 := Rat.zero_mkRat _
    rw [e] at k
    exact k
  · repeat' array_get_dec
    have c : zs ≠ [] := fun e => by rw [e] at c; cases c
    refine i_whileE (fun m ρ' h' => h' = h ∧ ∃ (qs : List Int) (z : Option D), ρ' = [some (.d v), some (.d (.list ((qs.map (ov N)).map fr))), z, none, none] ∧ PartsD N B qs zs.sum m) (m0 := zs.length) ⟨rfl, zs, none, rfl, rfl, rfl, List.length_pos_iff.2 c, hl, hB⟩ ?_
    rintro m ρ' h' ⟨rfl, qs, z, rfl, hs1, hl1, hm0, hm10, hab⟩
    repeat' array_get_dec
    rw [List.length_map, List.length_map, List.length_map, hl1]
    refine i_ite (fun c1 => ?_) (fun c1 => ?_)
    · have c1 : 1 < m := by have := of_decide_eq_true c1; omega
      have hz := bound hab
      have sl : sizeLine = 2 ^ 24 := rfl
      have lq : ((qs.map (ov N)).map fr).length = m := by rw [List.length_map, List.length_map, hl1]
      repeat' array_get_dec
      · exact cdiv_nat (n := 3) (by decide) (by decide) (by decide) (by decide)
      · refine cmulw (n := 20) (by decide) ?_ (by decide) (by decide)
        rw [List.length_map, lq, Int.fdiv_eq_ediv_of_nonneg _ (by decide)]
        omega
      rw [List.length_map, lq]
      have ed : (m : Int).fdiv 2 * 2 = ((m / 2 * 2 : Nat) : Int) := by rw [Int.fdiv_eq_ediv_of_nonneg _ (by decide)]; omega
      rw [ed, cut_drop (by rw [lq]; omega), ← List.map_drop]
      refine i_lcv ?_
      refine i_zip2 ?_
      refine i_cons ?_
      refine i_slL (by repeat constructor) (by rw [pick_evA]; exact Nat.le_trans (ev_len _).1 (by rw [lq]; omega)) ?_
      refine i_cons ?_
      refine i_slL1 (by repeat constructor) (by rw [pick_odA]; exact Nat.le_trans (ev_len _).2 (by rw [lq]; omega)) ?_
      refine i_nil ?_
      rw [pick_evA, pick_odA, ev_map, od_map]
      refine ⟨_, _, _, _, _, _, rfl, rfl, rfl, allD_map _, allD_map _, ?_⟩
      refine lcv_ind (hb := h') (fun k acc => acc = ((((ev (qs.map (ov N))).zip (od (qs.map (ov N)))).map fun z => fr (z.1 + z.2)).take k).map D.d) (fun _ => And.intro trivial trivial) ?_ ?_ rfl
      · rintro i z acc ez rfl
        obtain ⟨p1, p2, e1, e2, rfl⟩ := zipD_get ez
        rw [List.getElem?_map, Option.map_eq_some_iff] at e1 e2
        obtain ⟨a, e1, rfl⟩ := e1
        obtain ⟨b, e2, rfl⟩ := e2
        have sa := hz a ((ev_mem _).1 a (List.mem_of_getElem? e1))
        have sb := hz b ((ev_mem _).2 b (List.mem_of_getElem? e2))
        refine ⟨_, true, rfl, fun P q => q, fun _ => ⟨.d (fr (a + b)), fun P q => ?_, ?_, ?_⟩, fun e => by cases e⟩
        · show fFn _ _ [_, _, _, some (.d (fr a)), some (.d (fr b))] _ _ _
          repeat' array_get_dec
          exact wp_plusW sa sb q
        · have hi := (List.getElem?_eq_some_iff.1 e1).1
          have := (ev_len (qs.map (ov N))).1
          rw [List.length_map, hl1] at this
          rw [List.length_map, List.length_take, List.length_map]
          exact Nat.lt_of_lt_of_le (Nat.lt_of_le_of_lt (Nat.min_le_left _ _) (show i < 1001 by omega)) (by decide)
        · have ez : ((ev (qs.map (ov N))).zip (od (qs.map (ov N))))[i]? = some (a, b) := by rw [List.getElem?_zip_eq_some]; exact ⟨e1, e2⟩
          rw [List.take_succ, List.getElem?_map, ez]
          simp
      · rintro acc rfl
        rw [zipD_len, List.length_map, List.length_map, ← List.length_zip, List.take_of_length_le (by rw [List.length_map]; exact Nat.le_refl _)]
        refine ⟨_, allD_iff (allD_map _), ?_⟩
        refine i_var (by repeat constructor) ?_
        have eS : (((ev (qs.map (ov N))).zip (od (qs.map (ov N)))).map fun z => fr (z.1 + z.2)) ++ ((qs.map (ov N)).drop (m / 2 * 2)).map fr = ((stI qs).map (ov N)).map fr := by
          rw [← stp_ov d0, stp_eq (qs.map (ov N)), List.map_append, List.map_map, List.length_map, hl1]
          rfl
        refine ⟨?_, ?_⟩
        · rw [← List.length_append, eS, List.length_map, List.length_map, stI_len, hl1]
          omega
        rw [eS]
        exact ⟨_, by repeat constructor, (m + 1) / 2, by omega, rfl, stI qs, _, rfl, by rw [stI_sum]; exact hs1, by rw [stI_len, hl1], by omega, by omega, Nat.le_trans (stI_abs qs) hab⟩
    · have c1 : m = 1 := by have := of_decide_eq_false c1; omega
      subst c1
      match qs, hl1 with
      | [q], _ =>
        repeat' array_get_dec
        rw [← hs1] at k
        have e1 : [q].sum = q := by rw [List.sum_cons, List.sum_nil, Int.add_zero]
        rw [e1] at k
        exact k
/-! dicts of dicts: weights by two points -/
open NT
section
variable {κ : Type} [DecidableEq κ]
theorem lk_map {k j : κ} {x : D} : ∀ kvs : List (κ × D), lk (kvs.map fun z => if z.1 = k then (z.1, x) else z) j = if k = j then (if (lk kvs k).isSome = true then some x else none) else lk kvs j
  | [] => by
    show none = _
    split
    · rfl
    · rfl
  | z :: r => by
    rw [List.map_cons, lk_cons, lk_map r, lk_cons, lk_cons]
    by_cases c : z.1 = k
    · by_cases d : k = j
      · subst d
        simp [c]
      · have : ¬ z.1 = j := fun e => d (by rw [← c, e])
        simp [c, d]
    · by_cases d : k = j
      · subst d
        simp [c]
      · simp [c, d]
theorem lk_app {j : κ} {ls : List (κ × D)} : ∀ kvs : List (κ × D), lk (kvs ++ ls) j = if (lk kvs j).isSome = true then lk kvs j else lk ls j
  | [] => by
    show lk ls j = if (none : Option D).isSome = true then none else lk ls j
    rfl
  | z :: r => by
    rw [List.cons_append, lk_cons, lk_cons, lk_app r]
    by_cases c : z.1 = j
    · simp [c]
    · simp [c]
theorem lk_st {kvs : List (κ × D)} {k j : κ} {x : D} : lk (stD kvs k x) j = if k = j then some x else lk kvs j := by
  unfold stD
  rw [lk_any]
  by_cases c : (lk kvs k).isSome = true
  · rw [if_pos c, lk_map, if_pos c]
  · rw [if_neg c, lk_app]
    by_cases d : k = j
    · subst d
      rw [if_neg c, if_pos rfl, lk_cons, if_pos rfl]
    · rw [if_neg d, lk_cons, if_neg d]
      cases e : lk kvs j with
      | some v => rfl
      | none => rfl
theorem lk_dl {k j : κ} : ∀ kvs : List (κ × D), lk (dlD kvs k) j = if k = j then none else lk kvs j
  | [] => by
    show none = if _ then none else none
    split <;> rfl
  | z :: r => by
    have ih := lk_dl (k := k) (j := j) r
    unfold dlD at *
    rw [List.filter_cons, lk_cons]
    by_cases c : z.1 = k
    · rw [if_neg (by simp [c]), ih]
      by_cases d : k = j
      · rw [if_pos d, if_pos d]
      · rw [if_neg d, if_neg d, if_neg (fun e => d (by rw [← c, e]))]
    · rw [if_pos (by simpa using c), lk_cons, ih]
      by_cases d : k = j
      · rw [if_pos d, if_pos d, if_neg (fun e => c (by rw [e, d]))]
      · rw [if_neg d, if_neg d]
theorem mem_keys {k : κ} : ∀ {kvs : List (κ × D)}, k ∈ kvs.map (·.1) ↔ (lk kvs k).isSome = true
  | [] => by simp [lk]
  | z :: r => by
    rw [List.map_cons, List.mem_cons, lk_cons, mem_keys (kvs := r)]
    by_cases c : z.1 = k
    · simp [c]
    · have : ¬ k = z.1 := fun e => c e.symm
      simp [c, this]
theorem nd_st {kvs : List (κ × D)} {k : κ} {x : D} (nd : (kvs.map (·.1)).Nodup) : ((stD kvs k x).map (·.1)).Nodup := by
  unfold stD
  rw [lk_any]
  by_cases c : (lk kvs k).isSome = true
  · rw [if_pos c, List.map_map]
    have e : ((fun z : κ × D => z.1) ∘ fun z => if z.1 = k then (z.1, x) else z) = fun z => z.1 := by
      funext z
      show (if z.1 = k then (z.1, x) else z).1 = z.1
      split <;> rfl
    rw [e]
    exact nd
  · rw [if_neg c, List.map_append, List.nodup_append]
    refine ⟨nd, by simp, fun a ha b hb => ?_⟩
    rw [List.map_cons, List.map_nil, List.mem_singleton] at hb
    rw [hb]
    exact fun e => c (mem_keys.1 (show k ∈ _ by have e : a = k := e; rw [← e]; exact ha))
theorem nd_dl {kvs : List (κ × D)} {k : κ} (nd : (kvs.map (·.1)).Nodup) : ((dlD kvs k).map (·.1)).Nodup :=
  nd.sublist (List.filter_sublist.map _)
theorem lk_own : ∀ {kvs : List (κ × D)} {z : κ × D}, (kvs.map (·.1)).Nodup → z ∈ kvs → lk kvs z.1 = some z.2
  | y :: r, z, nd, h => by
    rw [List.map_cons, List.nodup_cons] at nd
    rw [lk_cons]
    rcases List.mem_cons.1 h with rfl | h
    · rw [if_pos rfl]
    · rw [if_neg (fun e => nd.1 (by rw [e]; exact List.mem_map.2 ⟨z, h, rfl⟩)), lk_own nd.2 h]
end
/-- two rows of the same things, none twice -/
theorem perm_of_mem {α : Type} [DecidableEq α] : ∀ {l m : List α}, l.Nodup → m.Nodup → (∀ a, a ∈ l ↔ a ∈ m) → l.Perm m
  | [], m, _, _, h => by
    have : m = [] := List.eq_nil_iff_forall_not_mem.2 fun a ha => by
      have := (h a).2 ha
      simp at this
    subst this
    exact .nil
  | a :: l, m, hl, hm, h => by
    rw [List.nodup_cons] at hl
    have ha : a ∈ m := (h a).1 (List.mem_cons_self ..)
    refine (List.Perm.cons a (perm_of_mem hl.2 (hm.erase a) fun b => ?_)).trans (List.perm_cons_erase ha).symm
    rw [hm.mem_erase_iff]
    constructor
    · exact fun hb => ⟨fun e => hl.1 (by rw [← e]; exact hb), (h b).1 (List.mem_cons_of_mem _ hb)⟩
    · rintro ⟨ne, hb⟩
      rcases List.mem_cons.1 ((h b).2 hb) with e | hb
      · exact absurd e ne
      · exact hb
/-- a weight in a dict -/
noncomputable def en (q : Rat) : Option D := if q = 0 then none else some (.d (fr q))
theorem en_some {q : Rat} (h : q ≠ 0) : en q = some (.d (fr q)) := if_neg h
theorem en_zero : en 0 = none := if_pos rfl
theorem en_isSome {q : Rat} : (en q).isSome = true ↔ q ≠ 0 := by
  by_cases c : q = 0
  · rw [c, en_zero]; simp
  · rw [en_some c]; simp [c]
theorem en_getD (q : Rat) : (en q).getD (.d (.tuple [.int 0, .int 1])) = .d (fr q) := by
  by_cases c : q = 0
  · rw [c, en_zero]; rfl
  · rw [en_some c]; rfl
/-- the neighbours -/
noncomputable def nb (w : Int → Rat) (ps : List Int) : List Int := ps.filter fun q => decide (w q ≠ 0)
theorem mem_nb {w : Int → Rat} {ps : List Int} {q : Int} : q ∈ nb w ps ↔ q ∈ ps ∧ w q ≠ 0 := by
  unfold nb
  rw [List.mem_filter, decide_eq_true_iff]
/-- one dict -/
structure RW (ps : List Int) (es : List (Int × D)) (w : Int → Rat) : Prop where
  nd : (es.map (·.1)).Nodup
  lk : ∀ q, lk es q = en (w q)
  dat : ∀ z ∈ es, ∃ d, z.2 = .d d
  sup : ∀ q, w q ≠ 0 → q ∈ ps
theorem RW.nil {ps : List Int} : RW ps [] fun _ => 0 := ⟨.nil, fun q => by rw [en_zero]; rfl, fun z hz => (nomatch hz), fun q h => absurd rfl h⟩
theorem RW.put {ps : List Int} {es : List (Int × D)} {w : Int → Rat} (r : RW ps es w) {k : Int} (hk : k ∈ ps) {q : Rat} (q0 : q ≠ 0) : RW ps (stD es k (.d (fr q))) fun j => if j = k then q else w j := by
  refine ⟨nd_st r.nd, fun j => ?_, fun z hz => ?_, fun j h => ?_⟩
  · rw [lk_st, r.lk]
    by_cases c : k = j
    · rw [if_pos c, if_pos c.symm, en_some q0]
    · rw [if_neg c, if_neg fun e => c e.symm]
  · unfold stD at hz
    split at hz
    · obtain ⟨y, hy, rfl⟩ := List.mem_map.1 hz
      split
      · exact ⟨_, rfl⟩
      · exact r.dat y hy
    · rcases List.mem_append.1 hz with hz | hz
      · exact r.dat z hz
      · rw [List.mem_singleton] at hz
        exact ⟨_, by rw [hz]⟩
  · by_cases c : j = k
    · rw [c]; exact hk
    · rw [if_neg c] at h
      exact r.sup j h
theorem RW.del {ps : List Int} {es : List (Int × D)} {w : Int → Rat} (r : RW ps es w) (k : Int) : RW ps (dlD es k) fun j => if j = k then 0 else w j := by
  refine ⟨nd_dl r.nd, fun j => ?_, fun z hz => r.dat z (List.mem_filter.1 hz).1, fun j h => ?_⟩
  · rw [lk_dl, r.lk]
    by_cases c : k = j
    · rw [if_pos c, if_pos c.symm, en_zero]
    · rw [if_neg c, if_neg fun e => c e.symm]
  · by_cases c : j = k
    · rw [if_pos c] at h
      exact absurd rfl h
    · rw [if_neg c] at h
      exact r.sup j h
theorem RW.keys {ps : List Int} {es : List (Int × D)} {w : Int → Rat} (r : RW ps es w) (np : ps.Nodup) : (es.map (·.1)).Perm (nb w ps) := by
  refine perm_of_mem r.nd (np.sublist List.filter_sublist) fun q => ?_
  rw [mem_keys, r.lk, en_isSome, mem_nb]
  exact ⟨fun h => ⟨r.sup q h, h⟩, fun h => h.2⟩
theorem RW.len {ps : List Int} {es : List (Int × D)} {w : Int → Rat} (r : RW ps es w) (np : ps.Nodup) : es.length ≤ ps.length := by
  have h := (r.keys np).length_eq
  rw [List.length_map] at h
  rw [h]
  exact List.length_filter_le _ _
theorem sorted_eq {l m : List Int} (p : l.Perm m) (h1 : l.Pairwise (· ≤ ·)) (h2 : m.Pairwise (· < ·)) : l = m :=
  p.eq_of_pairwise (fun a b _ _ x y => Int.le_antisymm x y) h1 (h2.imp fun h => Int.le_of_lt h)
theorem nb_lt {w : Int → Rat} {ps : List Int} (h : ps.Pairwise (· < ·)) : (nb w ps).Pairwise (· < ·) := h.sublist List.filter_sublist
theorem lt_nodup {ps : List Int} (h : ps.Pairwise (· < ·)) : ps.Nodup := h.imp fun h => Int.ne_of_lt h
/-- the dict of dicts: at place n, its dicts behind it -/
def TB (ps : List Int) (n m : Nat) (h : Ho) (ks : List Int) (g : Int → Int → Rat) : Prop :=
  ∃ (kvs : List (Int × D)) (pl : Int → Nat), h[n]? = some (.di kvs) ∧ (kvs.map (·.1)).Nodup ∧ (∀ k, k ∈ kvs.map (·.1) ↔ k ∈ ks) ∧
    (∀ k ∈ ks, lk kvs k = some (.loc (pl k)) ∧ n < pl k ∧ pl k ≤ n + m ∧ ∃ es, h[pl k]? = some (.di es) ∧ RW ps es (g k)) ∧ ∀ k ∈ ks, ∀ j ∈ ks, pl k = pl j → k = j
theorem TB.congr {ps : List Int} {n m : Nat} {h : Ho} {ks : List Int} {g g' : Int → Int → Rat} (T : TB ps n m h ks g) (e : ∀ k ∈ ks, ∀ q, g k q = g' k q) : TB ps n m h ks g' := by
  obtain ⟨kvs, pl, h1, h2, h3, h4, h5⟩ := T
  refine ⟨kvs, pl, h1, h2, h3, fun k hk => ?_, h5⟩
  obtain ⟨a, b, c, es, d, r⟩ := h4 k hk
  have : g k = g' k := funext fun q => e k hk q
  exact ⟨a, b, c, es, d, by rw [← this]; exact r⟩
/-- what lies elsewhere may change -/
theorem TB.far {ps : List Int} {n m : Nat} {h h' : Ho} {ks : List Int} {g : Int → Int → Rat} (T : TB ps n m h ks g) (e : ∀ i, n ≤ i → i ≤ n + m → h'[i]? = h[i]?) : TB ps n m h' ks g := by
  obtain ⟨kvs, pl, h1, h2, h3, h4, h5⟩ := T
  refine ⟨kvs, pl, by rw [e n (Nat.le_refl _) (by omega)]; exact h1, h2, h3, fun k hk => ?_, h5⟩
  obtain ⟨a, b, c, es, d, r⟩ := h4 k hk
  exact ⟨a, b, c, es, by rw [e _ (by omega) c]; exact d, r⟩
theorem TB.row {ps : List Int} {n m : Nat} {h : Ho} {ks : List Int} {g : Int → Int → Rat} (T : TB ps n m h ks g) {k : Int} (hk : k ∈ ks) :
    ∃ kvs l es, h[n]? = some (.di kvs) ∧ lk kvs k = some (.loc l) ∧ n < l ∧ l ≤ n + m ∧ h[l]? = some (.di es) ∧ RW ps es (g k) ∧ ∀ es' w', RW ps es' w' → TB ps n m (h.set l (.di es')) ks (fun x => if x = k then w' else g x) := by
  obtain ⟨kvs, pl, h1, h2, h3, h4, h5⟩ := T
  obtain ⟨a, b, c, es, d, r⟩ := h4 k hk
  refine ⟨kvs, pl k, es, h1, a, b, c, d, r, fun es' w' r' => ⟨kvs, pl, ?_, h2, h3, fun j hj => ?_, h5⟩⟩
  · rw [List.getElem?_set_ne (by omega)]
    exact h1
  · obtain ⟨a', b', c', es2, d', q⟩ := h4 j hj
    by_cases e : j = k
    · subst e
      refine ⟨a', b', c', es', ?_, by show RW ps es' (if j = j then w' else g j); rw [if_pos rfl]; exact r'⟩
      rw [List.getElem?_set_self (List.getElem?_eq_some_iff.1 d).1]
    · refine ⟨a', b', c', es2, ?_, by show RW ps es2 (if j = k then w' else g j); rw [if_neg e]; exact q⟩
      rw [List.getElem?_set_ne fun z => e (h5 j hj k hk z.symm)]
      exact d'
theorem TB.keys {ps : List Int} {n m : Nat} {h : Ho} {ks : List Int} {g : Int → Int → Rat} (T : TB ps n m h ks g) (nk : ks.Nodup) : ∃ kvs, h[n]? = some (.di kvs) ∧ (kvs.map (·.1)).Perm ks ∧ ∀ k ∈ ks, ∃ l, lk kvs k = some (.loc l) := by
  obtain ⟨kvs, pl, h1, h2, h3, h4, h5⟩ := T
  exact ⟨kvs, h1, perm_of_mem h2 nk h3, fun k hk => ⟨_, (h4 k hk).1⟩⟩
/-- a point's dict is taken out -/
theorem TB.out {ps : List Int} {n m : Nat} {h : Ho} {ks : List Int} {g : Int → Int → Rat} (T : TB ps n m h ks g) (k : Int) : ∃ kvs, h[n]? = some (.di kvs) ∧ (k ∈ ks → (lk kvs k).isSome = true) ∧ ∀ ks', (∀ j, j ∈ ks' ↔ j ∈ ks ∧ j ≠ k) → TB ps n m (h.set n (.di (dlD kvs k))) ks' g := by
  obtain ⟨kvs, pl, h1, h2, h3, h4, h5⟩ := T
  refine ⟨kvs, h1, fun hk => by rw [(h4 k hk).1]; rfl, fun ks' e => ⟨dlD kvs k, pl, ?_, nd_dl h2, fun j => ?_, fun j hj => ?_, fun j hj i hi => h5 j ((e j).1 hj).1 i ((e i).1 hi).1⟩⟩
  · rw [List.getElem?_set_self (List.getElem?_eq_some_iff.1 h1).1]
  · rw [mem_keys, lk_dl, e]
    by_cases c : k = j
    · rw [if_pos c]
      simp [c]
    · rw [if_neg c, ← mem_keys, h3]
      exact ⟨fun q => ⟨q, fun z => c z.symm⟩, fun q => q.1⟩
  · obtain ⟨q, ne⟩ := (e j).1 hj
    obtain ⟨a, b, c, es, d, r⟩ := h4 j q
    refine ⟨?_, b, c, es, ?_, r⟩
    · rw [lk_dl, if_neg fun z => ne z.symm]
      exact a
    · rw [List.getElem?_set_ne (by omega)]
      exact d
/-- all places that are named lie below a bound, and what was there ahead stands -/
def Fra (h0 h : Ho) : Prop := ∃ T, h = h0 ++ T ∧ ∀ n, h.length ≤ n → noRef n T = true
theorem Fra.refl (h0 : Ho) : Fra h0 h0 := ⟨[], by simp, fun n _ => rfl⟩
theorem Fra.push {h0 h : Ho} (f : Fra h0 h) {o : O} (ho : ∀ n, h.length < n → noRef n [o] = true) : Fra h0 (h ++ [o]) := by
  obtain ⟨T, rfl, k⟩ := f
  refine ⟨T ++ [o], by rw [List.append_assoc], fun n hn => ?_⟩
  have h1 := k n (by rw [List.length_append, List.length_singleton] at hn; omega)
  have h2 := ho n (by rw [List.length_append, List.length_singleton] at hn; omega)
  unfold noRef at *
  rw [List.all_append, h1, h2]
  rfl
theorem Fra.set {h0 h : Ho} (f : Fra h0 h) {o : O} {i : Nat} (hi : h0.length ≤ i) (ho : ∀ n, h.length ≤ n → noRef n [o] = true) : Fra h0 (h.set i o) := by
  obtain ⟨T, rfl, k⟩ := f
  refine ⟨T.set (i - h0.length) o, by rw [List.set_append, if_neg (by omega)], fun n hn => ?_⟩
  rw [List.length_set] at hn
  have h1 := k n hn
  have h2 := ho n hn
  unfold noRef at *
  rw [List.all_eq_true] at *
  intro x hx
  rcases List.mem_or_eq_of_mem_set hx with hx | rfl
  · exact h1 x hx
  · exact h2 _ (List.mem_singleton.2 rfl)
theorem Fra.at {h0 h : Ho} (f : Fra h0 h) {i : Nat} (hi : i < h0.length) : h[i]? = h0[i]? := by
  obtain ⟨T, rfl, k⟩ := f
  exact List.getElem?_append_left hi
theorem Fra.le {h0 h : Ho} (f : Fra h0 h) : h0.length ≤ h.length := by
  obtain ⟨T, rfl, k⟩ := f
  rw [List.length_append]
  omega
theorem RW.noRef {ps : List Int} {es : List (Int × D)} {w : Int → Rat} (r : RW ps es w) (n : Nat) : noRef n [.di es] = true := by
  unfold V2.noRef
  rw [List.all_cons, List.all_nil, Bool.and_true]
  show es.all _ = true
  rw [List.all_eq_true]
  intro z hz
  obtain ⟨d, e⟩ := r.dat z hz
  rw [e]
  rfl
theorem noRef_data (n : Nat) (ps : List PyData) : noRef n [.lst (ps.map D.d)] = true := by
  unfold noRef
  rw [List.all_cons, List.all_nil, Bool.and_true]
  show (ps.map D.d).all _ = true
  rw [List.all_map, List.all_eq_true]
  intro z _
  rfl
section
variable {ρ : En} {h : Ho} {Q : KD} {E : XD} {fo fi fe fx : WE} {nx : En → Ho → Prop} {rt : KD} {bk ct : En → Ho → Prop} {ex : Ex → En → Ho → Prop}
theorem i_dgI (k : fo ρ h (fun x h1 => fi ρ h1 (fun y h2 => dgI Q x y h2) E) E) : fDgI fo fi ρ h Q E := k
theorem i_dg2I (k : fo ρ h (fun x h1 => (∃ n kvs, x = .loc n ∧ h1[n]? = some (.di kvs)) ∧ fi ρ h1 (fun y h2 => fx ρ h2 (fun z h3 => dg2I Q x y z h3) E) E) E) : fDg2I fo fi fx ρ h Q E := k
theorem i_dp2I (k : fo ρ h (fun x h1 => (∃ n kvs, x = .loc n ∧ h1[n]? = some (.di kvs)) ∧ fi ρ h1 (fun y h2 => fx ρ h2 (fun z h3 => dpI Q x y z h3) E) E) E) : fDp2I fo fi fx ρ h Q E := k
theorem i_dsI (k : fe ρ h (fun v h1 => fo ρ h1 (fun x h2 => fi ρ h2 (fun y h3 => dsI (nx ρ) v x y h3) (fun x h => ex x ρ h)) (fun x h => ex x ρ h)) (fun x h => ex x ρ h)) : sDsI fe fo fi ρ h ⟨nx, rt, bk, ct, ex⟩ := k
theorem i_ddI (k : fo ρ h (fun x h1 => fi ρ h1 (fun y h2 => ddI (nx ρ) x y h2) (fun x h => ex x ρ h)) (fun x h => ex x ρ h)) : sDdI fo fi ρ h ⟨nx, rt, bk, ct, ex⟩ := k
theorem i_dsTn (k : fe ρ h (fun v h1 => fo ρ h1 (fun x h2 => fi ρ h2 (fun y h3 => dsT (nx ρ) v x y h3) (fun x h => ex x ρ h)) (fun x h => ex x ρ h)) (fun x h => ex x ρ h)) : sDsT fe fo fi ρ h ⟨nx, rt, bk, ct, ex⟩ := k
theorem i_dgTn (k : fo ρ h (fun x h1 => fi ρ h1 (fun y h2 => dgT Q x y h2) E) E) : fDgT fo fi ρ h Q E := k
theorem i_dg2Tn (k : fo ρ h (fun x h1 => (∃ n kvs, x = .loc n ∧ h1[n]? = some (.dt kvs)) ∧ fi ρ h1 (fun y h2 => fx ρ h2 (fun z h3 => dg2T Q x y z h3) E) E) E) : fDg2T fo fi fx ρ h Q E := k
end
section
variable {st : Ho → Prop} {g : WG} {tk tv : WE} {n : Nat} {ρ : En} {QH : Ho → Prop} {xs : List D}
theorem dc_ind (I : Nat → Ho → Prop)
    (hs : ∀ k x h (G : Ho → Prop), xs[k]? = some x → I k h → (∀ h', I (k + 1) h' → G h') → ∃ ρ1, g x h ρ = some ρ1 ∧ tk ρ1 h (fun y h2 => tv ρ1 h2 (fun z h3 => dcSt st n G y z h3) noX) noX)
    (he : ∀ h, I xs.length h → QH h) {h : Ho} (h0 : I 0 h) : dcGo g tTrue tk tv st n ρ QH xs h := by
  have aux : ∀ (ys : List D) (k : Nat), (∀ j, ys[j]? = xs[k + j]?) → k + ys.length = xs.length → ∀ h, I k h → dcGo g tTrue tk tv st n ρ QH ys h := by
    intro ys
    induction ys with
    | nil => intro k _ hl h hi; exact he h (by rw [← hl]; simpa using hi)
    | cons y ys ih =>
      intro k hj hl h hi
      have ihk := ih (k + 1) (fun j => by rw [Nat.add_assoc, Nat.add_comm 1 j, ← hj (j + 1)]; rfl) (by rw [← hl, List.length_cons]; omega)
      obtain ⟨ρ1, e1, e2⟩ := hs k y h (fun h' => dcGo g tTrue tk tv st n ρ QH ys h') (by rw [← Nat.add_zero k, ← hj 0]; rfl) hi ihk
      unfold dcGo
      rw [e1]
      refine i_tTrue ?_
      rw [if_pos rfl]
      exact e2
  exact aux xs 0 (fun j => by rw [Nat.zero_add]) (by simp) h h0
end
theorem i_dc {wi : WI} {g : WG} {tt : WT} {tk tv : WE} {own : List Nat} {ρ : En} {h : Ho} {Q : KD} {E : XD} (k : wi ρ h (fun xs st h1 =>
  st (h1 ++ [O.di []]) ∧ dcGo g tt tk tv st h1.length (wipeD ρ own) (fun h2 => Q (.loc h1.length) h2) xs (h1 ++ [O.di []])) E) : fDc wi g tt tk tv own ρ h Q E := k
/-- one more dict -/
theorem TB.more {ps : List Int} {n m : Nat} {h : Ho} {ks : List Int} {g : Int → Int → Rat} (T : TB ps n m h ks g) (nk : ks.Nodup) (h1 : n < h.length) (h2 : h.length ≤ n + m) {p : Int} (hp : p ∉ ks) :
    ∃ kvs, h[n]? = some (.di kvs) ∧ kvs.length = ks.length ∧ TB ps n m ((h ++ [O.di []]).set n (.di (stD kvs p (.loc h.length)))) (ks ++ [p]) (fun x => if x = p then fun _ => 0 else g x) := by
  obtain ⟨kvs, pl, a1, a2, a3, a4, a5⟩ := T
  have lt : ∀ k ∈ ks, pl k < h.length := fun k hk => by
    obtain ⟨_, _, _, es, d, _⟩ := a4 k hk
    exact (List.getElem?_eq_some_iff.1 d).1
  refine ⟨kvs, a1, by rw [← List.length_map (f := fun z : Int × D => z.1)]; exact (perm_of_mem a2 nk a3).length_eq, stD kvs p (.loc h.length), fun x => if x = p then h.length else pl x, ?_, nd_st a2, fun k => ?_, fun k hk => ?_, fun k hk j hj e => ?_⟩
  · rw [List.getElem?_set_self (by rw [List.length_append]; omega)]
  · rw [mem_keys, lk_st, List.mem_append, List.mem_singleton]
    by_cases c : p = k
    · rw [if_pos c]
      simp [c]
    · rw [if_neg c, ← mem_keys, a3]
      exact ⟨.inl, fun z => z.elim id fun e => absurd e.symm c⟩
  · dsimp only
    by_cases c : k = p
    · subst c
      refine ⟨by rw [lk_st, if_pos rfl, if_pos rfl], by rw [if_pos rfl]; exact h1, by rw [if_pos rfl]; exact h2, [], ?_, by rw [if_pos rfl]; exact RW.nil⟩
      rw [if_pos rfl, List.getElem?_set_ne (by omega), List.getElem?_append_right (Nat.le_refl _), Nat.sub_self]
      rfl
    · have hk : k ∈ ks := (List.mem_append.1 hk).elim id fun z => absurd (List.mem_singleton.1 z) c
      obtain ⟨b1, b2, b3, es, b4, b5⟩ := a4 k hk
      refine ⟨by rw [lk_st, if_neg fun z => c z.symm, if_neg c]; exact b1, by rw [if_neg c]; exact b2, by rw [if_neg c]; exact b3, es, ?_, by rw [if_neg c]; exact b5⟩
      rw [if_neg c, List.getElem?_set_ne (by omega), List.getElem?_append_left (lt k hk)]
      exact b4
  · dsimp only at e
    rcases List.mem_append.1 hk with hk | hk
    · rcases List.mem_append.1 hj with hj | hj
      · rw [if_neg (fun z => hp (by rw [← z]; exact hk)), if_neg (fun z => hp (by rw [← z]; exact hj))] at e
        exact a5 k hk j hj e
      · have := lt k hk
        rw [List.mem_singleton] at hj
        rw [if_neg (fun z => hp (by rw [← z]; exact hk)), if_pos hj] at e
        omega
    · rw [List.mem_singleton] at hk
      rcases List.mem_append.1 hj with hj | hj
      · have := lt j hj
        rw [if_pos hk, if_neg (fun z => hp (by rw [← z]; exact hj))] at e
        omega
      · rw [List.mem_singleton] at hj
        rw [hk, hj]
/-- ties and networks as data -/
abbrev tieD (z : Int × Int × Rat) : PyData := .tuple [.int z.1, .int z.2.1, fr z.2.2]
abbrev netD (ps : List Int) (T : List (Int × Int × Rat)) : PyData := .tuple [.tuple (ps.map PyData.int), .tuple (T.map tieD)]
/-- weights between points -/
structure NW (f : Int → Int → Rat) (ps : List Int) : Prop where
  lt : ps.Pairwise (· < ·)
  len : ps.length ≤ 7
  sy : ∀ a b, f a b = f b a
  on : ∀ a b, f a b ≠ 0 → a ∈ ps ∧ b ∈ ps ∧ a ≠ b
theorem NW.diag {f : Int → Int → Rat} {ps : List Int} (w : NW f ps) (a : Int) : f a a = 0 := by
  by_cases c : f a a = 0
  · exact c
  · exact absurd rfl (w.on a a c).2.2
theorem fra_outer {n : Nat} {kvs : List (Int × D)} (h : ∀ z ∈ kvs, ∃ l, z.2 = .loc l ∧ l < n) : ∀ i, n ≤ i → noRef i [.di kvs] = true := by
  intro i hi
  unfold noRef
  rw [List.all_cons, List.all_nil, Bool.and_true]
  show kvs.all _ = true
  rw [List.all_eq_true]
  intro z hz
  obtain ⟨l, e, hl⟩ := h z hz
  rw [e]
  show (l != i) = true
  simp
  omega
theorem TB.outer {ps : List Int} {n m : Nat} {h : Ho} {ks : List Int} {g : Int → Int → Rat} (T : TB ps n m h ks g) {kvs : List (Int × D)} (e : h[n]? = some (.di kvs)) : ∀ z ∈ kvs, ∃ l, z.2 = .loc l ∧ l < h.length := by
  obtain ⟨kvs', pl, a1, a2, a3, a4, a5⟩ := T
  rw [e] at a1
  cases a1
  intro z hz
  have h1 := lk_own a2 hz
  obtain ⟨b1, _, _, es, b4, _⟩ := a4 z.1 ((a3 z.1).1 (List.mem_map.2 ⟨z, hz, rfl⟩))
  rw [b1] at h1
  exact ⟨_, (Option.some.inj h1).symm, (List.getElem?_eq_some_iff.1 b4).1⟩
theorem nr_di0 (n : Nat) : noRef n [.di []] = true := rfl
end LW
set_option Elab.async false
set_option linter.all false
set_option maxRecDepth 100000
set_option maxHeartbeats 40000000
namespace LW
open PySem PySem.Spec PyProof.Rows L2 V2
local macro_rules | `(tactic| array_get_dec) => `(tactic| with_reducible refine i_go (by assumption) ?_)
local macro_rules | `(tactic| array_get_dec) => `(tactic| with_reducible refine i_next ?_)
local macro_rules | `(tactic| array_get_dec) => `(tactic| with_reducible refine i_dg2Tn ?_)
local macro_rules | `(tactic| array_get_dec) => `(tactic| with_reducible refine i_dgTn ?_)
local macro_rules | `(tactic| array_get_dec) => `(tactic| with_reducible refine i_dsTn ?_)
local macro_rules | `(tactic| array_get_dec) => `(tactic| with_reducible refine i_dp2I ?_)
local macro_rules | `(tactic| array_get_dec) => `(tactic| with_reducible refine i_dg2I ?_)
local macro_rules | `(tactic| array_get_dec) => `(tactic| with_reducible refine i_dgI ?_)
local macro_rules | `(tactic| array_get_dec) => `(tactic| with_reducible refine i_ddI ?_)
local macro_rules | `(tactic| array_get_dec) => `(tactic| with_reducible refine i_dsI ?_)
local macro_rules | `(tactic| array_get_dec) => `(tactic| with_reducible refine i_idxT ?_)
local macro_rules | `(tactic| array_get_dec) => `(tactic| with_reducible refine i_unT ?_)
local macro_rules | `(tactic| array_get_dec) => `(tactic| with_reducible refine i_make2 ?_)
local macro_rules | `(tactic| array_get_dec) => `(tactic| with_reducible refine fld1 (by with_unfolding_all exact rfl) ?_)
local macro_rules | `(tactic| array_get_dec) => `(tactic| with_reducible refine i_fld ?_)
local macro_rules | `(tactic| array_get_dec) => `(tactic| with_reducible refine i_isr2 ?_)
local macro_rules | `(tactic| array_get_dec) => `(tactic| with_reducible refine i_range2 ?_)
local macro_rules | `(tactic| array_get_dec) => `(tactic| with_reducible refine i_range1 ?_)
local macro_rules | `(tactic| array_get_dec) => `(tactic| with_reducible refine i_for ?_)
local macro_rules | `(tactic| array_get_dec) => `(tactic| with_reducible refine i_brk ?_)
local macro_rules | `(tactic| array_get_dec) => `(tactic| with_reducible refine i_zip2 ?_)
local macro_rules | `(tactic| array_get_dec) => `(tactic| with_reducible refine i_enum1 ?_)
local macro_rules | `(tactic| array_get_dec) => `(tactic| with_reducible refine i_one ?_)
local macro_rules | `(tactic| array_get_dec) => `(tactic| with_reducible refine i_raise ?_)
local macro_rules | `(tactic| array_get_dec) => `(tactic| with_reducible refine i_sub ?_)
local macro_rules | `(tactic| array_get_dec) => `(tactic| with_reducible refine i_append ?_)
local macro_rules | `(tactic| array_get_dec) => `(tactic| with_reducible refine i_pop ?_)
local macro_rules | `(tactic| array_get_dec) => `(tactic| with_reducible refine i_drop ?_)
local macro_rules | `(tactic| array_get_dec) => `(tactic| with_reducible refine i_len (by with_unfolding_all exact rfl) ?_)
local macro_rules | `(tactic| array_get_dec) => `(tactic| with_reducible refine i_notN ?_)
local macro_rules | `(tactic| array_get_dec) => `(tactic| with_reducible refine i_isN ?_)
local macro_rules | `(tactic| array_get_dec) => `(tactic| with_reducible refine i_min2 ?_)
local macro_rules | `(tactic| array_get_dec) => `(tactic| with_reducible refine i_max2 ?_)
local macro_rules | `(tactic| array_get_dec) => `(tactic| with_reducible refine i_chain ?_)
local macro_rules | `(tactic| array_get_dec) => `(tactic| with_reducible refine i_lcm3 ?_ ?_)
local macro_rules | `(tactic| array_get_dec) => `(tactic| with_reducible refine i_gcd ?_)
local macro_rules | `(tactic| array_get_dec) => `(tactic| with_reducible refine i_toint ?_)
local macro_rules | `(tactic| array_get_dec) => `(tactic| with_reducible refine i_abs ?_)
local macro_rules | `(tactic| array_get_dec) => `(tactic| with_reducible refine i_pk4 ?_)
local macro_rules | `(tactic| array_get_dec) => `(tactic| with_reducible refine i_pk3 ?_)
local macro_rules | `(tactic| array_get_dec) => `(tactic| with_reducible refine i_pk2 ?_)
local macro_rules | `(tactic| array_get_dec) => `(tactic| with_reducible refine i_pk1 ?_)
local macro_rules | `(tactic| array_get_dec) => `(tactic| with_reducible refine i_fnk ?_)
local macro_rules | `(tactic| array_get_dec) => `(tactic| with_reducible refine i_fn ?_)
local macro_rules | `(tactic| array_get_dec) => `(tactic| with_reducible refine i_call ?_)
local macro_rules | `(tactic| array_get_dec) => `(tactic| with_reducible refine i_ix (by with_unfolding_all exact rfl) (by with_unfolding_all exact rfl) ?_)
local macro_rules | `(tactic| array_get_dec) => `(tactic| with_reducible refine i_ix (by assumption) (by with_unfolding_all exact rfl) ?_)
local macro_rules | `(tactic| array_get_dec) => `(tactic| with_reducible refine i_all (by repeat constructor) (by with_unfolding_all exact Nat.le_of_ble_eq_true rfl) ?_)
local macro_rules | `(tactic| array_get_dec) => `(tactic| with_reducible refine i_lst ?_)
local macro_rules | `(tactic| array_get_dec) => `(tactic| with_reducible refine i_tup ?_)
local macro_rules | `(tactic| array_get_dec) => `(tactic| with_reducible refine i_zipL ?_)
local macro_rules | `(tactic| array_get_dec) => `(tactic| with_reducible refine i_slP ?_)
local macro_rules | `(tactic| array_get_dec) => `(tactic| with_reducible refine i_subB ?_)
local macro_rules | `(tactic| array_get_dec) => `(tactic| with_reducible refine i_notB ?_)
local macro_rules | `(tactic| array_get_dec) => `(tactic| with_reducible refine i_minT2 ?_)
local macro_rules | `(tactic| array_get_dec) => `(tactic| with_reducible refine i_maxT2 ?_)
local macro_rules | `(tactic| array_get_dec) => `(tactic| with_reducible refine i_listT ?_)
local macro_rules | `(tactic| array_get_dec) => `(tactic| with_reducible refine i_tupL ?_)
local macro_rules | `(tactic| array_get_dec) => `(tactic| with_reducible refine rvL ?_)
local macro_rules | `(tactic| array_get_dec) => `(tactic| with_reducible refine i_rev ?_)
local macro_rules | `(tactic| array_get_dec) => `(tactic| with_reducible refine slL ?_)
local macro_rules | `(tactic| array_get_dec) => `(tactic| with_reducible refine slT ?_)
local macro_rules | `(tactic| array_get_dec) => `(tactic| with_reducible refine i_oS ?_)
local macro_rules | `(tactic| array_get_dec) => `(tactic| with_reducible refine i_oN ?_)
local macro_rules | `(tactic| array_get_dec) => `(tactic| with_reducible refine i_slG ?_)
local macro_rules | `(tactic| array_get_dec) => `(tactic| with_reducible refine i_fnotG ?_)
local macro_rules | `(tactic| array_get_dec) => `(tactic| with_reducible refine i_forG ?_)
local macro_rules | `(tactic| array_get_dec) => `(tactic| with_reducible refine i_fand ?_)
local macro_rules | `(tactic| array_get_dec) => `(tactic| with_reducible refine i_fif ?_)
local macro_rules | `(tactic| array_get_dec) => `(tactic| with_reducible refine i_not2 ?_)
local macro_rules | `(tactic| array_get_dec) => `(tactic| with_reducible refine i_or2 ?_)
local macro_rules | `(tactic| array_get_dec) => `(tactic| with_reducible refine i_and2 ?_)
local macro_rules | `(tactic| array_get_dec) => `(tactic| with_reducible refine i_isr ?_)
local macro_rules | `(tactic| array_get_dec) => `(tactic| with_reducible refine i_isi ?_)
local macro_rules | `(tactic| array_get_dec) => `(tactic| with_reducible refine i_isb ?_)
local macro_rules | `(tactic| array_get_dec) => `(tactic| with_reducible refine i_val ?_)
local macro_rules | `(tactic| array_get_dec) => `(tactic| with_reducible refine i_un ?_)
local macro_rules | `(tactic| array_get_dec) => `(tactic| with_reducible refine i_nes ?_)
local macro_rules | `(tactic| array_get_dec) => `(tactic| with_reducible refine i_nesr ?_)
local macro_rules | `(tactic| array_get_dec) => `(tactic| with_reducible refine i_eqs ?_)
local macro_rules | `(tactic| array_get_dec) => `(tactic| with_reducible refine i_eqsr ?_)
local macro_rules | `(tactic| array_get_dec) => `(tactic| with_reducible refine i_nei ?_)
local macro_rules | `(tactic| array_get_dec) => `(tactic| with_reducible refine i_eqi ?_)
local macro_rules | `(tactic| array_get_dec) => `(tactic| with_reducible refine i_add ?_)
local macro_rules | `(tactic| array_get_dec) => `(tactic| with_reducible refine i_ints ?_ ?_)
local macro_rules | `(tactic| array_get_dec) => `(tactic| with_reducible refine i_ints0 ?_)
local macro_rules | `(tactic| array_get_dec) => `(tactic| with_reducible refine i_bin ?_)
local macro_rules | `(tactic| array_get_dec) => `(tactic| with_reducible refine i_nil ?_)
local macro_rules | `(tactic| array_get_dec) => `(tactic| with_reducible refine i_cons ?_)
local macro_rules | `(tactic| array_get_dec) => `(tactic| with_reducible refine i_c ?_)
local macro_rules | `(tactic| array_get_dec) => `(tactic| with_reducible refine i_var (by repeat constructor) ?_)
local macro_rules | `(tactic| array_get_dec) => `(tactic| with_reducible refine i_if ?_)
local macro_rules | `(tactic| array_get_dec) => `(tactic| with_reducible refine i_ret ?_)
local macro_rules | `(tactic| array_get_dec) => `(tactic| with_reducible refine i_trip (by repeat constructor) (by repeat constructor) (by repeat constructor) ?_)
local macro_rules | `(tactic| array_get_dec) => `(tactic| with_reducible refine i_par3 ?_ (by with_unfolding_all exact Nat.le_of_ble_eq_true rfl) (by with_unfolding_all exact Nat.le_of_ble_eq_true rfl) (by with_unfolding_all exact Nat.le_of_ble_eq_true rfl))
local macro_rules | `(tactic| array_get_dec) => `(tactic| with_reducible refine i_pair (by repeat constructor) (by repeat constructor) ?_)
local macro_rules | `(tactic| array_get_dec) => `(tactic| with_reducible refine i_par ?_ (by with_unfolding_all exact Nat.le_of_ble_eq_true rfl) (by with_unfolding_all exact Nat.le_of_ble_eq_true rfl))
local macro_rules | `(tactic| array_get_dec) => `(tactic| with_reducible refine i_set (by repeat constructor) ?_)
local macro_rules | `(tactic| array_get_dec) => `(tactic| with_reducible refine i_asgn ?_ (by with_unfolding_all exact Nat.le_of_ble_eq_true rfl))
local macro_rules | `(tactic| array_get_dec) => `(tactic| with_reducible refine i_asg2v (by repeat constructor) (by repeat constructor) (by repeat constructor) ?_)
local macro_rules | `(tactic| array_get_dec) => `(tactic| with_reducible refine i_seqg (fun _ _ => ?_))
local macro_rules
  | `(tactic| decreasing_trivial_pre_omega) => `(tactic| (apply cmB; (repeat' (first | assumption | apply Bd.add | apply Bd.sub | apply Bd.mul | apply Bd.neg)); decide))
open NT
/-- the weights of the first ties -/
noncomputable def part (f : Int → Int → Rat) (T : List (Int × Int × Rat)) (a b : Int) : Rat := by
  open Classical in
  exact if ∃ t ∈ T, (t.1 = a ∧ t.2.1 = b) ∨ (t.1 = b ∧ t.2.1 = a) then f a b else 0
theorem part_nil (f : Int → Int → Rat) (a b : Int) : part f [] a b = 0 := by
  unfold part
  rw [if_neg]
  rintro ⟨t, ht, _⟩
  exact nomatch ht
theorem part_step {f : Int → Int → Rat} (sy : ∀ a b, f a b = f b a) {T : List (Int × Int × Rat)} {lo hi : Int} {q : Rat} (e : f lo hi = q) (a b : Int) :
    part f (T ++ [(lo, hi, q)]) a b = if a = hi ∧ b = lo then q else if a = lo ∧ b = hi then q else part f T a b := by
  unfold part
  by_cases c1 : a = hi ∧ b = lo
  · rw [if_pos c1, if_pos ⟨(lo, hi, q), by simp, .inr ⟨c1.2.symm, c1.1.symm⟩⟩, c1.1, c1.2, sy, e]
  · rw [if_neg c1]
    by_cases c2 : a = lo ∧ b = hi
    · rw [if_pos c2, if_pos ⟨(lo, hi, q), by simp, .inl ⟨c2.1.symm, c2.2.symm⟩⟩, c2.1, c2.2, e]
    · rw [if_neg c2]
      by_cases c3 : ∃ t ∈ T, (t.1 = a ∧ t.2.1 = b) ∨ (t.1 = b ∧ t.2.1 = a)
      · obtain ⟨t, ht, h⟩ := c3
        rw [if_pos ⟨t, List.mem_append.2 (.inl ht), h⟩, if_pos ⟨t, ht, h⟩]
      · rw [if_neg c3, if_neg]
        rintro ⟨t, ht, h⟩
        rcases List.mem_append.1 ht with ht | ht
        · exact c3 ⟨t, ht, h⟩
        · rw [List.mem_singleton] at ht
          subst ht
          rcases h with ⟨x, y⟩ | ⟨x, y⟩
          · exact c2 ⟨x.symm, y.symm⟩
          · exact c1 ⟨y.symm, x.symm⟩
theorem part_all {f : Int → Int → Rat} {ps : List Int} (w : NW f ps) (a b : Int) : part f (tl f ps) a b = f a b := by
  by_cases z : f a b = 0
  · unfold part
    split
    · rfl
    · exact z.symm
  · obtain ⟨h1, h2, h3⟩ := w.on a b z
    unfold part
    refine if_pos ?_
    rcases Int.lt_or_gt_of_ne h3 with c | c
    · exact ⟨(a, b, f a b), (mem_tl w.lt).2 ⟨h1, h2, c, z, rfl⟩, .inl ⟨rfl, rfl⟩⟩
    · exact ⟨(b, a, f b a), (mem_tl w.lt).2 ⟨h2, h1, c, by rw [← w.sy]; exact z, rfl⟩, .inr ⟨rfl, rfl⟩⟩
theorem wp_tbp {f : Int → Int → Rat} {ps : List Int} (w : NW f ps) {h : Ho} {Q : KD} {E : XD} (k : ∀ h', Fra h h' → h.length + ps.length < h'.length → TB ps h.length ps.length h' ps f → Q (.loc h.length) h') : M_ties_by_point [.d (netD ps (tl f ps))] h Q E := by
  have sz : sizeLine = 2 ^ 24 := rfl
  have len := w.len
  refine i_mir rfl (by repeat constructor) (by repeat constructor) ?_
  unfold B_ties_by_point
  repeat' array_get_dec
  refine i_dc ?_
  refine i_iseqG ?_
  repeat' array_get_dec
  refine ⟨_, rfl, trivial, ?_⟩
  refine dc_ind (fun k h' => Fra h h' ∧ h'.length = h.length + 1 + k ∧ k ≤ ps.length ∧ TB ps h.length ps.length h' (ps.take k) fun _ _ => 0) ?_ ?_ ⟨(Fra.refl h).push fun n _ => nr_di0 n, by simp, Nat.zero_le _, ?_⟩
  · rintro i x h1 G ex ⟨fr1, l1, li, T⟩ hG
    rw [List.getElem?_map, List.getElem?_map, Option.map_map, Option.map_eq_some_iff] at ex
    obtain ⟨p, ep, rfl⟩ := ex
    obtain ⟨ip, ep'⟩ := List.getElem?_eq_some_iff.1 ep
    have nd := lt_nodup w.lt
    have hp : p ∉ ps.take i := fun hm => by
      obtain ⟨j, hj, e⟩ := List.getElem_of_mem hm
      rw [List.length_take] at hj
      rw [List.getElem_take] at e
      have := List.pairwise_iff_getElem.1 w.lt j i (by omega) ip (by omega)
      omega
    obtain ⟨kvs, e1, e2, T'⟩ := T.more (nd.sublist (List.take_sublist _ _)) (by omega) (by omega) hp
    refine ⟨_, rfl, ?_⟩
    show fVar 4 [_, _, _, _, some (.d (.int p)), _, _, _] _ _ _
    repeat' array_get_dec
    have key : h1.length = h.length + 1 + i := l1
    refine ⟨kvs, p, rfl, ?_, ?_, trivial, hG _ ⟨?_, ?_, by omega, ?_⟩⟩
    · rw [List.getElem?_append_left (by omega)]
      exact e1
    · rw [e2, List.length_take]
      omega
    · refine (fr1.push fun n _ => nr_di0 n).set (Nat.le_refl _) fun n hn => ?_
      refine fra_outer (TB.outer T' ?_) n (by rw [List.length_set]; exact hn)
      rw [List.getElem?_set_self (by rw [List.length_append]; omega)]
    · rw [List.length_set, List.length_append, List.length_singleton]
      omega
    · rw [List.take_add_one, ep]
      exact T'.congr fun k _ q => by split <;> rfl
  · rintro h1 ⟨fr1, l1, li, T⟩
    rw [List.length_map, List.length_map] at T
    rw [List.take_length] at T
    repeat' array_get_dec
    refine i_iseqG ?_
    repeat' array_get_dec
    refine ⟨_, rfl, ?_⟩
    refine for_ind (fun i ρ' h2 => (∃ a b c d, ρ' = [some (.d (netD ps (tl f ps))), some (.d (.tuple (ps.map PyData.int))), some (.d (.tuple ((tl f ps).map tieD))), some (.loc h.length), a, b, c, d]) ∧ h2.length = h1.length ∧ Fra h h2 ∧ TB ps h.length ps.length h2 ps (part f ((tl f ps).take i))) ?_ ?_ ⟨⟨_, _, _, _, rfl⟩, rfl, fr1, T.congr fun k _ q => by rw [List.take_zero, part_nil]⟩
    · rintro i x ρ' h2 G ex ⟨⟨a, b, c, d, rfl⟩, ln2, fr2, T2⟩ hG
      rw [List.getElem?_map, List.getElem?_map, Option.map_map, Option.map_eq_some_iff] at ex
      obtain ⟨⟨lo, hi, q⟩, et, rfl⟩ := ex
      obtain ⟨m1, m2, m3, m4, m5⟩ := (mem_tl w.lt).1 (List.mem_of_getElem? et)
      dsimp only at m1 m2 m3 m4 m5
      refine ⟨_, rfl, ?_⟩
      show (sSeq _ _) [_, _, _, _, _, some (.d (.int lo)), some (.d (.int hi)), some (.d (fr q))] _ _
      repeat' array_get_dec
      obtain ⟨kvs, l, es, r1, r2, r3, r4, r5, r6, r7⟩ := T2.row m1
      refine ⟨h.length, kvs, lo, _, rfl, r1, rfl, r2, ?_⟩
      repeat' array_get_dec
      have le := r6.len (lt_nodup w.lt)
      refine ⟨l, es, hi, rfl, r5, rfl, by omega, ?_⟩
      have T3 := r7 _ _ (r6.put m2 m4)
      have fr3 : Fra h (h2.set l (.di (stD es hi (.d (fr q))))) := fr2.set (by omega) fun n _ => (r6.put m2 m4).noRef n
      have ln3 : (h2.set l (.di (stD es hi (.d (fr q))))).length = h1.length := by rw [List.length_set]; exact ln2
      generalize h2.set l (.di (stD es hi (.d (fr q)))) = h3 at T3 fr3 ln3
      repeat' array_get_dec
      obtain ⟨kvs, l, es, r1, r2, r3, r4, r5, r6, r7⟩ := T3.row m2
      refine ⟨h.length, kvs, hi, _, rfl, r1, rfl, r2, ?_⟩
      repeat' array_get_dec
      have le := r6.len (lt_nodup w.lt)
      refine ⟨l, es, lo, rfl, r5, rfl, by omega, ?_⟩
      have T4 := r7 _ _ (r6.put m1 m4)
      have fr4 : Fra h (h3.set l (.di (stD es lo (.d (fr q))))) := fr3.set (by omega) fun n _ => (r6.put m1 m4).noRef n
      have ln4 : (h3.set l (.di (stD es lo (.d (fr q))))).length = h1.length := by rw [List.length_set]; exact ln3
      refine ⟨?_, hG _ _ ⟨⟨_, _, _, _, rfl⟩, ln4, fr4, T4.congr fun x _ y => ?_⟩⟩
      · trivial
      · rw [List.take_add_one, et, Option.toList_some, part_step w.sy m5]
        by_cases c1 : x = hi
        · subst c1
          have : x ≠ lo := by omega
          by_cases c2 : y = lo
          · simp [c2]
          · simp [c2, this]
        · by_cases c2 : x = lo
          · subst c2
            by_cases c3 : y = hi
            · simp [c1, c3]
            · simp [c1, c3]
          · simp [c1, c2]
    · rintro ρ' h2 ⟨⟨a, b, c, d, rfl⟩, ln2, fr2, T2⟩
      rw [List.length_map, List.length_map, List.take_length] at T2
      repeat' array_get_dec
      exact k _ fr2 (by rw [List.length_map, List.length_map] at l1; omega) (T2.congr fun x _ y => part_all w x y)
  · refine ⟨[], fun _ => 0, ?_, .nil, fun k => by simp, fun k hk => by simp at hk, fun k hk => by simp at hk⟩
    rw [List.getElem?_append_right (Nat.le_refl _), Nat.sub_self]
    rfl
open NT
theorem cut_0n {α : Type} (ps : List α) (j : Nat) : cut ps none (some (j : Int)) = ps.take j := by
  unfold cut
  rw [HT.sIx_nat]
  show (ps.drop 0).take (min j ps.length - 0) = _
  rw [List.drop_zero, Nat.sub_zero]
  by_cases c : j ≤ ps.length
  · rw [Nat.min_eq_left c]
  · rw [Nat.min_eq_right (by omega), List.take_of_length_le (by omega), List.take_of_length_le (by omega)]
section
variable {ps : List Int} {n m : Nat} {h h0 : Ho} {ks : List Int} {g : Int → Int → Rat} {Q : KD} {E : XD}
/-- what is left behind a call that changes the table -/
structure Kp (h0 : Ho) (n m : Nat) (h h' : Ho) : Prop where
  len : h'.length = h.length
  far : ∀ i, n + m < i → h'[i]? = h[i]?
  fra : Fra h0 h → Fra h0 h'
theorem Kp.refl : Kp h0 n m h h := ⟨rfl, fun _ _ => rfl, id⟩
theorem Kp.trans {h1 h2 : Ho} (a : Kp h0 n m h h1) (b : Kp h0 n m h1 h2) : Kp h0 n m h h2 := ⟨b.len.trans a.len, fun i hi => (b.far i hi).trans (a.far i hi), fun f => b.fra (a.fra f)⟩
theorem Kp.row {l : Nat} {es : List (Int × D)} {w : Int → Rat} (hn : h0.length ≤ n) (h1 : n < l) (h2 : l ≤ n + m) (r : RW ps es w) : Kp h0 n m h (h.set l (.di es)) :=
  ⟨List.length_set, fun i hi => List.getElem?_set_ne (by omega), fun f => f.set (by omega) fun j _ => r.noRef j⟩
theorem wp_more (np : ps.Nodup) (hl : ps.length ≤ 7) (hn : h0.length ≤ n) (T : TB ps n m h ks g) {a b : Int} (ha : a ∈ ks) (hb : b ∈ ks) (pa : a ∈ ps) (pb : b ∈ ps) (ne : a ≠ b) (sy : g b a = g a b) {x : Rat} (s1 : Wd (g a b)) (s2 : Wd x)
    (k : ∀ h', Kp h0 n m h h' → TB ps n m h' ks (fun c d => if (c = a ∧ d = b) ∨ (c = b ∧ d = a) then g a b + x else g c d) → Q (.d .none) h') :
    M_tie_more [.loc n, .d (.int a), .d (.int b), .d (fr x)] h Q E := by
  have sz : sizeLine = 2 ^ 24 := rfl
  refine i_mir rfl (by repeat constructor) (by repeat constructor) ?_
  unfold B_tie_more
  repeat' array_get_dec
  obtain ⟨kvs, l, es, r1, r2, r3, r4, r5, r6, r7⟩ := T.row ha
  refine ⟨n, kvs, a, _, rfl, r1, rfl, r2, ⟨l, es, rfl, r5⟩, ?_⟩
  repeat' array_get_dec
  refine ⟨l, es, b, rfl, r5, rfl, ?_⟩
  rw [r6.lk, en_getD]
  repeat' array_get_dec
  refine wp_plusW s1 s2 ?_
  repeat' array_get_dec
  have z0 : PyData.tuple [.int 0, .int 1] = fr 0 := rfl
  rw [z0]
  refine i_eqd (p := fr (g a b + x)) (q := fr 0) rfl rfl rfl rfl ⟨fun i e => (nomatch e), fun i e => (nomatch e)⟩ ?_
  rw [fr_eqv]
  have fin : ∀ v : Rat, ∀ h', (v = g a b + x) → TB ps n m h' ks (fun c => if c = b then fun j => if j = a then v else (if b = a then fun j => if j = b then v else g a j else g b) j else if c = a then fun j => if j = b then v else g a j else g c) → TB ps n m h' ks (fun c d => if (c = a ∧ d = b) ∨ (c = b ∧ d = a) then g a b + x else g c d) := by
    rintro v h' rfl T'
    refine T'.congr fun c _ d => ?_
    by_cases c1 : c = b
    · subst c1
      have : ¬ c = a := fun e => ne e.symm
      by_cases c2 : d = a
      · simp [c2]
      · simp [this, c2]
    · by_cases c2 : c = a
      · subst c2
        by_cases c3 : d = b
        · simp [c1, c3]
        · simp [c1, c3]
      · simp [c1, c2]
  refine i_isb ?_
  refine i_ite (fun c => ?_) (fun c => ?_)
  · have c := of_decide_eq_true c
    repeat' array_get_dec
    refine ⟨n, kvs, a, _, rfl, r1, rfl, r2, ⟨l, es, rfl, r5⟩, ?_⟩
    repeat' array_get_dec
    have st1 : ∃ h1, Kp h0 n m h h1 ∧ TB ps n m h1 ks (fun c => if c = a then fun j => if j = b then 0 else g a j else g c) ∧ dpI (fun _ h' => h' = h1) (.loc l) (.d (.int b)) (.d .none) h := by
      by_cases e : g a b = 0
      · refine ⟨h, Kp.refl, T.congr fun c _ d => ?_, l, es, b, rfl, r5, rfl, fun v hv => ?_, fun _ => rfl⟩
        · by_cases c2 : c = a
          · subst c2
            by_cases c3 : d = b
            · simp [c3, e]
            · simp [c3]
          · simp [c2]
        · rw [r6.lk, e, en_zero] at hv
          cases hv
      · refine ⟨_, Kp.row hn r3 r4 (r6.del b), r7 _ _ (r6.del b), l, es, b, rfl, r5, rfl, fun v hv => rfl, fun hv => ?_⟩
        rw [r6.lk, en_some e] at hv
        cases hv
    obtain ⟨h1, kp1, T1, l', es', b', e1, e2, e3, e4, e5⟩ := st1
    refine ⟨l', es', b', e1, e2, e3, fun v hv => ?_, fun hv => ?_⟩
    all_goals
      first
        | rw [e4 v hv]
        | rw [e5 hv]
      repeat' array_get_dec
      obtain ⟨kvs, l, es, r1, r2, r3, r4, r5, r6, r7⟩ := T1.row hb
      refine ⟨n, kvs, b, _, rfl, r1, rfl, r2, ⟨l, es, rfl, r5⟩, ?_⟩
      repeat' array_get_dec
      refine ⟨l, es, a, rfl, r5, rfl, fun v hv => ?_, fun hv => ?_⟩
      · repeat' array_get_dec
        exact k _ (kp1.trans (Kp.row hn r3 r4 (r6.del a))) (fin 0 _ c.symm (r7 _ _ (r6.del a)))
      · repeat' array_get_dec
        refine k _ kp1 (fin 0 _ c.symm (T1.congr fun c' _ d => ?_))
        by_cases c2 : c' = b
        · by_cases c3 : d = a
          · have hz : g b a = 0 := by
              have h3 : en ((fun c => if c = a then fun j => if j = b then 0 else g a j else g c) b a) = none := by rw [← r6.lk]; exact hv
              have h4 : ¬ (b = a) := fun e => ne e.symm
              have h5 : (fun c => if c = a then fun j => if j = b then 0 else g a j else g c) b a = g b a := by
                show (if b = a then fun j => if j = b then 0 else g a j else g b) a = g b a
                rw [if_neg h4]
              rw [h5] at h3
              by_cases z : g b a = 0
              · exact z
              · rw [en_some z] at h3; cases h3
            subst c2
            subst c3
            have h6 : ¬ (c' = d) := fun e => ne e.symm
            simp [h6, hz]
          · simp [c2, c3]
        · simp [c2]
  · have c := of_decide_eq_false c
    repeat' array_get_dec
    refine ⟨n, kvs, a, _, rfl, r1, rfl, r2, ?_⟩
    repeat' array_get_dec
    have le := r6.len np
    refine ⟨l, es, b, rfl, r5, rfl, by omega, ?_⟩
    have T1 := r7 _ _ (r6.put pb c)
    have kp1 : Kp h0 n m h _ := Kp.row hn r3 r4 (r6.put pb c)
    generalize h.set l (.di (stD es b (.d (fr (g a b + x))))) = h1 at T1 kp1
    repeat' array_get_dec
    obtain ⟨kvs, l, es, r1, r2, r3, r4, r5, r6, r7⟩ := T1.row hb
    refine ⟨n, kvs, b, _, rfl, r1, rfl, r2, ?_⟩
    repeat' array_get_dec
    have le := r6.len np
    refine ⟨l, es, a, rfl, r5, rfl, by omega, ?_⟩
    exact k _ (kp1.trans (Kp.row hn r3 r4 (r6.put pa c))) (fin _ _ rfl (r7 _ _ (r6.put pa c)))
end
open NT
theorem i_sortDi {ps : List Int} {l : Nat} {es : List (Int × D)} {w : Int → Rat} {h : Ho} {Q : KD} (lt : ps.Pairwise (· < ·)) (hl : ps.length ≤ 7) (e : h[l]? = some (.di es)) (r : RW ps es w) (k : Q (.d (.list ((nb w ps).map PyData.int))) h) : rSortDi [.loc l] h Q := by
  refine ⟨l, es, rfl, e, by have := r.len (lt_nodup lt); omega, fun ns' hp hs => ?_⟩
  rw [sorted_eq (hp.trans (r.keys (lt_nodup lt))) hs (nb_lt lt)]
  exact k
theorem i_sortKs {ps ks : List Int} {n m : Nat} {g : Int → Int → Rat} {h : Ho} {Q : KD} (T : TB ps n m h ks g) (lt : ks.Pairwise (· < ·)) (hl : ks.length ≤ 7) (k : Q (.d (.list (ks.map PyData.int))) h) : rSortDi [.loc n] h Q := by
  obtain ⟨kvs, e, p, _⟩ := T.keys (lt_nodup lt)
  have hl2 := p.length_eq
  rw [List.length_map] at hl2
  refine ⟨n, kvs, rfl, e, by omega, fun ns' hp hs => ?_⟩
  rw [sorted_eq (hp.trans p) hs lt]
  exact k
/-- behind some turns: R: whose ties with the point are gone; S: which pairs have more -/
noncomputable def gg (f : Int → Int → Rat) (p : Int) (P : Rat) (R : Int → Prop) (S : Int → Int → Prop) (a b : Int) : Rat := by
  open Classical in
  exact if b = p then (if R a then 0 else f a b) else f a b + (if S a b then f p a * f p b / P else 0)
theorem gg_p {f : Int → Int → Rat} {p : Int} {P : Rat} {R : Int → Prop} {S : Int → Int → Prop} {a : Int} (h : ¬ R a) : gg f p P R S a p = f a p := by
  unfold gg
  rw [if_pos rfl, if_neg h]
theorem gg_no {f : Int → Int → Rat} {p : Int} {P : Rat} {R : Int → Prop} {S : Int → Int → Prop} {a b : Int} (hb : b ≠ p) (h : ¬ S a b) : gg f p P R S a b = f a b := by
  unfold gg
  rw [if_neg hb, if_neg h, Rat.add_zero]
theorem gg_yes {f : Int → Int → Rat} {p : Int} {P : Rat} {R : Int → Prop} {S : Int → Int → Prop} {a b : Int} (hb : b ≠ p) (h : S a b) : gg f p P R S a b = f a b + f p a * f p b / P := by
  unfold gg
  rw [if_neg hb, if_pos h]
theorem gg_gone {f : Int → Int → Rat} {p : Int} {P : Rat} {R : Int → Prop} {S : Int → Int → Prop} {a : Int} (h : R a) : gg f p P R S a p = 0 := by
  unfold gg
  rw [if_pos rfl, if_pos h]
theorem gg_congr {f : Int → Int → Rat} {p : Int} {P : Rat} {R R' : Int → Prop} {S S' : Int → Int → Prop} {a b : Int} (h1 : R a ↔ R' a) (h2 : S a b ↔ S' a b) : gg f p P R S a b = gg f p P R' S' a b := by
  unfold gg
  rw [show R a = R' a from propext h1, show S a b = S' a b from propext h2]
/-- the star: weights without a point -/
def star (f : Int → Int → Rat) (p : Int) (P : Rat) (a b : Int) : Rat := if a = b ∨ a = p ∨ b = p then 0 else f a b + f p a * f p b / P
theorem star_nw {f : Int → Int → Rat} {ps : List Int} (w : NW f ps) (p : Int) (P : Rat) : NW (star f p P) (ps.filter fun q => decide (q ≠ p)) := by
  refine ⟨w.lt.sublist List.filter_sublist, Nat.le_trans (List.length_filter_le _ _) w.len, fun a b => ?_, fun a b h => ?_⟩
  · unfold star
    have e : (a = b ∨ a = p ∨ b = p) ↔ (b = a ∨ b = p ∨ a = p) := ⟨fun h => h.elim (fun e => .inl e.symm) fun h => .inr h.symm, fun h => h.elim (fun e => .inl e.symm) fun h => .inr h.symm⟩
    rw [w.sy a b, Rat.mul_comm (f p a)]
    by_cases c : b = a ∨ b = p ∨ a = p
    · rw [if_pos c, if_pos (e.2 c)]
    · rw [if_neg c, if_neg fun z => c (e.1 z)]
  · unfold star at h
    by_cases c : a = b ∨ a = p ∨ b = p
    · rw [if_pos c] at h
      exact absurd rfl h
    · rw [if_neg c] at h
      have ca : a ≠ b := fun e => c (.inl e)
      have cb : a ≠ p := fun e => c (.inr (.inl e))
      have cc : b ≠ p := fun e => c (.inr (.inr e))
      rw [List.mem_filter, List.mem_filter, decide_eq_true_iff, decide_eq_true_iff]
      by_cases z : f a b = 0
      · rw [z, Rat.zero_add] at h
        have z1 : f p a ≠ 0 := fun e => h (by rw [e, Rat.zero_mul, Rat.div_def, Rat.zero_mul])
        have z2 : f p b ≠ 0 := fun e => h (by rw [e, Rat.mul_zero, Rat.div_def, Rat.zero_mul])
        exact ⟨⟨(w.on p a z1).2.1, cb⟩, ⟨(w.on p b z2).2.1, cc⟩, ca⟩
      · obtain ⟨h1, h2, h3⟩ := w.on a b z
        exact ⟨⟨h1, cb⟩, ⟨h2, cc⟩, ca⟩
abbrev ndD (z : Int × Rat) : PyData := .tuple [.int z.1, fr z.2]
section
variable {f : Int → Int → Rat} {ps : List Int} {n m : Nat} {h h0 : Ho} {p : Int} {P : Rat} {Q : KD} {E : XD}
theorem allD_fn {α : Type} (g : α → PyData) (l : List α) : AllD (l.map fun o => D.d (g o)) (l.map g) := by
  have := allD_iff (allD_map (l.map g))
  rw [List.map_map] at this
  exact this
theorem take_ne {l : List Int} (nd : l.Pairwise (· < ·)) {i : Nat} {o : Int} (e : l[i]? = some o) : o ∉ l.take i := fun hm => by
  obtain ⟨j, hj, e1⟩ := List.getElem_of_mem hm
  obtain ⟨hi, e2⟩ := List.getElem?_eq_some_iff.1 e
  rw [List.length_take] at hj
  rw [List.getElem_take] at e1
  have := List.pairwise_iff_getElem.1 nd j i (by omega) hi (by omega)
  omega
theorem mem_take1 {l : List Int} {i : Nat} {o a : Int} (e : l[i]? = some o) : a ∈ l.take (i + 1) ↔ a ∈ l.take i ∨ a = o := by
  rw [List.take_add_one, e, Option.toList_some, List.mem_append, List.mem_singleton]
theorem wp_drop (w : NW f ps) (sz : ∀ a b, Sz 133 (f a b)) (hp : p ∈ ps) (hn : h0.length ≤ n) (hm : n + m < h.length) (T : TB ps n m h ps f) (fra : Fra h0 h) (hP : P = ((nb (f p) ps).map (f p)).sum) (sP : Sz 810 P)
    (kR : P.num ≤ 0 → ∀ h', Fra h0 h' → E ⟨"Refused", some ("word", .d (.str "pull"))⟩ h')
    (k : 0 < P.num → ∀ x h', Fra h0 h' → n + m < h'.length → TB ps n m h' (ps.filter fun q => decide (q ≠ p)) (star f p P) → Q x h') : M_drop_point [.loc n, .d (.int p)] h Q E := by
  have sl : sizeLine = 2 ^ 24 := rfl
  have len := w.len
  have nlt := nb_lt (w := f p) w.lt
  have nlen : (nb (f p) ps).length ≤ 7 := Nat.le_trans (List.length_filter_le _ _) w.len
  have mem : ∀ {i : Nat} {o : Int}, (nb (f p) ps)[i]? = some o → o ∈ ps ∧ f p o ≠ 0 ∧ o ≠ p := fun {i o} e => by
    obtain ⟨h1, h2⟩ := mem_nb.1 (List.mem_of_getElem? e)
    exact ⟨h1, h2, fun e => (w.on _ _ h2).2.2 e.symm⟩
  generalize hns : nb (f p) ps = ns at *
  refine i_mir rfl (by repeat constructor) (by repeat constructor) ?_
  unfold B_drop_point
  repeat' array_get_dec
  refine i_lcv ?_
  refine i_iseqG ?_
  repeat' array_get_dec
  obtain ⟨kvs, l, es, r1, r2, r3, r4, r5, r6, r7⟩ := T.row hp
  refine ⟨n, kvs, p, _, rfl, r1, rfl, r2, ?_⟩
  repeat' array_get_dec
  refine i_sortDi w.lt w.len r5 r6 ?_
  rw [hns]
  refine ⟨_, rfl, ?_⟩
  refine lcv_indS (hb := h) (fun k acc => acc = ((ns.take k).map fun o => D.d (ndD (o, f p o)))) (fun _ => trivial) ?_ ?_ rfl
  · rintro i z acc ez rfl
    rw [List.getElem?_map, List.getElem?_map, Option.map_map, Option.map_eq_some_iff] at ez
    obtain ⟨o, eo, rfl⟩ := ez
    obtain ⟨o1, o2, o3⟩ := mem eo
    refine ⟨_, .d (ndD (o, f p o)), rfl, fun P' qq => ?_, ?_, ?_⟩
    · show fTup _ [_, _, _, some (.d (.int o)), _, _, _, _, _, _, _, _] _ _ _
      repeat' array_get_dec
      refine ⟨n, kvs, p, _, rfl, ?_, rfl, r2, ?_⟩
      · rw [List.getElem?_append_left (by omega)]
        exact r1
      repeat' array_get_dec
      refine ⟨l, es, o, _, rfl, ?_, rfl, by rw [r6.lk]; exact en_some o2, ?_⟩
      · rw [List.getElem?_append_left (by omega)]
        exact r5
      repeat' array_get_dec
      exact qq
    · rw [List.length_map, List.length_take]
      omega
    · rw [List.take_add_one, eo]
      simp
  rintro acc rfl
  rw [List.length_map, List.length_map, List.take_length]
  refine ⟨ns.map fun o => ndD (o, f p o), allD_fn _ _, ?_⟩
  repeat' array_get_dec
  refine i_lcv ?_
  refine i_iseqG ?_
  repeat' array_get_dec
  refine ⟨_, rfl, ?_⟩
  refine lcv_indS (hb := h) (fun k acc => acc = ((ns.take k).map fun o => D.d (fr (f p o)))) (fun _ => trivial) ?_ ?_ rfl
  · rintro i z acc ez rfl
    rw [List.getElem?_map, List.getElem?_map, Option.map_map, Option.map_eq_some_iff] at ez
    obtain ⟨o, eo, rfl⟩ := ez
    refine ⟨_, .d (fr (f p o)), rfl, fun P' qq => ?_, ?_, ?_⟩
    · show fVar 6 [_, _, _, _, _, some (.d (.int o)), some (.d (fr (f p o))), _, _, _, _, _] _ _ _
      repeat' array_get_dec
      exact qq
    · rw [List.length_map, List.length_take]
      omega
    · rw [List.take_add_one, eo]
      simp
  rintro acc rfl
  rw [List.length_map, List.length_map, List.take_length]
  refine ⟨(ns.map (f p)).map fr, by rw [List.map_map]; exact allD_fn _ _, ?_⟩
  repeat' array_get_dec
  refine wp_total (.inl rfl) (by rw [List.length_map]; omega) (s := 133) (fun q hq => by
    obtain ⟨o, _, rfl⟩ := List.mem_map.1 hq
    exact sz _ _) (by decide) ?_
  rw [← hP]
  repeat' array_get_dec
  refine i_ite (fun c => ?_) (fun c => ?_)
  · repeat' array_get_dec
    exact kR (of_decide_eq_true c) _ fra
  have P0 : 0 < P.num := by have := of_decide_eq_false c; omega
  have Pn : P ≠ 0 := fun e => by rw [e] at P0; exact absurd P0 (by decide)
  repeat' array_get_dec
  obtain ⟨kvs0, q1, q2, q3⟩ := T.out p
  refine ⟨n, kvs0, p, rfl, q1, rfl, q2 hp, ?_⟩
  have T1 := q3 (ps.filter fun q => decide (q ≠ p)) fun j => by rw [List.mem_filter, decide_eq_true_iff]
  have fra1 : Fra h0 (h.set n (.di (dlD kvs0 p))) := fra.set hn fun i hi => fra_outer (fun z hz => T.outer q1 z (List.mem_filter.1 hz).1) i hi
  have hm1 : n + m < (h.set n (.di (dlD kvs0 p))).length := by rw [List.length_set]; exact hm
  generalize h.set n (.di (dlD kvs0 p)) = h1 at T1 fra1 hm1
  repeat' array_get_dec
  refine i_loc ?_
  repeat' array_get_dec
  refine ⟨by decide, ?_⟩
  repeat' array_get_dec
  have fra2 : Fra h0 (h1 ++ [.lst []]) := fra1.push fun i _ => noRef_data i []
  have T2 : TB ps n m (h1 ++ [.lst []]) (ps.filter fun q => decide (q ≠ p)) (gg f p P (fun a => a ∈ ns.take 0) fun a b => a ≠ b ∧ a ∈ ns.take 0 ∧ b ∈ ns.take 0) := by
    refine (T1.far fun i hi1 hi2 => List.getElem?_append_left (by omega)).congr fun a ha b => ?_
    by_cases c : b = p
    · rw [c, gg_p (by simp)]
    · rw [gg_no c (by simp)]
  have s2 : (h1 ++ [O.lst []])[h1.length]? = some (.lst (((ns.take 0).map fun o => ndD (o, f p o / P)).map D.d)) := by
    rw [List.getElem?_append_right (Nat.le_refl _), Nat.sub_self]
    rfl
  have near0 : ∀ {i : Nat}, i ≤ ns.length → allD ((ns.map fun o => ndD (o, f p o)).map D.d) = some (ns.map fun o => ndD (o, f p o)) := fun _ => allD_map _
  refine ⟨_, _, _, rfl, rfl, near0 (Nat.zero_le _), ?_⟩
  have nd1 : ps.Nodup := lt_nodup w.lt
  have inr : ∀ {a : Int}, a ∈ ps → a ≠ p → a ∈ ps.filter fun q => decide (q ≠ p) := fun ha hb => List.mem_filter.2 ⟨ha, decide_eq_true hb⟩
  have wd : ∀ a b, Wd (f a b) := fun a b => Wd.of (sz a b) (by decide)
  generalize hsh : h1.length = sp at *
  have hlen2 : (h1 ++ [O.lst []]).length = sp + 1 := by rw [List.length_append, hsh]; rfl
  refine for_ind (fun i ρ' h' => (∃ a3 a5 a6 a8 a9 a10 a11, ρ' = [some (.loc n), some (.d (.int p)), some (.d (.list (ns.map fun o => ndD (o, f p o)))), a3, some (.d (fr P)), a5, a6, some (.loc sp), a8, a9, a10, a11]) ∧ h'.length = sp + 1 ∧ Fra h0 h' ∧
      h'[sp]? = some (.lst (((ns.take i).map fun o => ndD (o, f p o / P)).map D.d)) ∧ TB ps n m h' (ps.filter fun q => decide (q ≠ p)) (gg f p P (fun a => a ∈ ns.take i) fun a b => a ≠ b ∧ a ∈ ns.take i ∧ b ∈ ns.take i)) ?_ ?_ ⟨⟨_, _, _, _, _, _, _, rfl⟩, hlen2, fra2, s2, T2⟩
  · rintro i z ρ' h' G ez ⟨⟨a3, a5, a6, a8, a9, a10, a11, rfl⟩, l2, fr2, e2, T2⟩ hG
    obtain ⟨z, eo, rfl⟩ := enumD_get ez
    rw [List.getElem?_map, Option.map_eq_some_iff] at eo
    obtain ⟨o, eo, rfl⟩ := eo
    obtain ⟨o1, o2, o3⟩ := mem eo
    have oi := take_ne nlt eo
    have il := (List.getElem?_eq_some_iff.1 eo).1
    refine ⟨_, rfl, ?_⟩
    show (sSeq _ _) [some (.loc n), some (.d (.int p)), some (.d (.list (ns.map fun o => ndD (o, f p o)))), some (.d (.int o)), some (.d (fr P)), a5, some (.d (fr (f p o))), some (.loc sp), some (.d (.int (i : Nat))), a9, a10, a11] _ _
    repeat' array_get_dec
    obtain ⟨kvs, l, es, r1, r2, r3, r4, r5, r6, r7⟩ := T2.row (inr o1 o3)
    refine ⟨n, kvs, o, _, rfl, r1, rfl, r2, ?_⟩
    repeat' array_get_dec
    refine ⟨l, es, p, rfl, r5, rfl, ?_, ?_⟩
    · rw [r6.lk, gg_p oi, en_isSome, w.sy]
      exact o2
    have T3 := r7 _ _ (r6.del p)
    have fr3 : Fra h0 (h'.set l (.di (dlD es p))) := fr2.set (by omega) fun j _ => (r6.del p).noRef j
    have l3 : (h'.set l (.di (dlD es p))).length = sp + 1 := by rw [List.length_set, l2]
    have e3 : (h'.set l (.di (dlD es p)))[sp]? = some (.lst (((ns.take i).map fun o => ndD (o, f p o / P)).map D.d)) := by rw [List.getElem?_set_ne (by omega)]; exact e2
    generalize h'.set l (.di (dlD es p)) = h3 at T3 fr3 l3 e3
    repeat' array_get_dec
    refine wp_over Pn (sz _ _) sP (by decide) ?_
    repeat' array_get_dec
    refine appK_loc e3 ?_
    repeat' array_get_dec
    refine ⟨_, _, rfl, e3, by rw [List.length_map, List.length_map, List.length_take]; omega, ?_⟩
    have T4 : TB ps n m (h3.set sp (.lst (((ns.take i).map fun o => ndD (o, f p o / P)).map D.d ++ [.d (ndD (o, f p o / P))]))) (ps.filter fun q => decide (q ≠ p)) (gg f p P (fun a => a ∈ ns.take (i + 1)) fun a b => (a ≠ b ∧ a ∈ ns.take i ∧ b ∈ ns.take i) ∨ (a = o ∧ b ∈ (ns.take i).take 0) ∨ (b = o ∧ a ∈ (ns.take i).take 0)) := by
      refine (T3.far fun j _ hj => List.getElem?_set_ne (by omega)).congr fun a ha b => ?_
      by_cases c : a = o
      · subst c
        show (if a = a then fun j => if j = p then 0 else gg f p P _ _ a j else _) b = _
        rw [if_pos rfl]
        by_cases c2 : b = p
        · rw [if_pos c2, c2, gg_gone (by rw [mem_take1 eo]; exact .inr rfl)]
        · rw [if_neg c2, gg_no c2 (fun z => oi z.2.1), gg_no c2]
          rintro (⟨_, z, _⟩ | ⟨_, z⟩ | ⟨_, z⟩)
          · exact oi z
          · simp at z
          · simp at z
      · show (if a = o then _ else gg f p P _ _ a) b = _
        rw [if_neg c]
        refine gg_congr ?_ ?_
        · rw [mem_take1 eo]
          simp [c]
        · simp
    have fr4 : Fra h0 (h3.set sp (.lst (((ns.take i).map fun o => ndD (o, f p o / P)).map D.d ++ [.d (ndD (o, f p o / P))]))) := fr3.set (by have := fra1.le; omega) fun j _ => by
      have := noRef_data j ((ns.take i).map (fun o => ndD (o, f p o / P)) ++ [ndD (o, f p o / P)])
      rw [List.map_append] at this
      exact this
    have l4 : (h3.set sp (.lst (((ns.take i).map fun o => ndD (o, f p o / P)).map D.d ++ [.d (ndD (o, f p o / P))]))).length = sp + 1 := by rw [List.length_set, l3]
    have e4 : (h3.set sp (.lst (((ns.take i).map fun o => ndD (o, f p o / P)).map D.d ++ [.d (ndD (o, f p o / P))])))[sp]? = some (.lst (((ns.take (i + 1)).map fun o => ndD (o, f p o / P)).map D.d)) := by
      rw [List.getElem?_set_self (by omega), List.take_add_one, eo]
      simp
    generalize h3.set sp _ = h4 at T4 fr4 l4 e4
    repeat' array_get_dec
    refine i_iseqG ?_
    repeat' array_get_dec
    rw [cut_0n, ← List.map_take]
    refine ⟨_, rfl, ?_⟩
    refine for_ind (fun j ρ' h' => (∃ a10 a11, ρ' = [some (.loc n), some (.d (.int p)), some (.d (.list (ns.map fun o => ndD (o, f p o)))), some (.d (.int o)), some (.d (fr P)), a5, some (.d (fr (f p o))), some (.loc sp), some (.d (.int (i : Nat))), some (.d (fr (f p o / P))), a10, a11]) ∧ h'.length = sp + 1 ∧ Fra h0 h' ∧
      h'[sp]? = some (.lst (((ns.take (i + 1)).map fun o => ndD (o, f p o / P)).map D.d)) ∧ TB ps n m h' (ps.filter fun q => decide (q ≠ p)) (gg f p P (fun a => a ∈ ns.take (i + 1)) fun a b => (a ≠ b ∧ a ∈ ns.take i ∧ b ∈ ns.take i) ∨ (a = o ∧ b ∈ (ns.take i).take j) ∨ (b = o ∧ a ∈ (ns.take i).take j))) ?_ ?_ ⟨⟨_, _, rfl⟩, l4, fr4, e4, T4⟩
    · rintro j y ρ' h' G2 ey ⟨⟨a10, a11, rfl⟩, l2, fr2, e2, T2⟩ hG2
      rw [List.getElem?_map, List.getElem?_map, Option.map_map, Option.map_eq_some_iff] at ey
      obtain ⟨e, ee, rfl⟩ := ey
      have mi : e ∈ ns.take i := List.mem_of_getElem? ee
      obtain ⟨x1, x2, x3⟩ := (by
        obtain ⟨q, hq⟩ := List.getElem?_of_mem (List.mem_of_mem_take mi)
        exact mem hq : e ∈ ps ∧ f p e ≠ 0 ∧ e ≠ p)
      have ne : e ≠ o := fun z => oi (by rw [← z]; exact mi)
      have ej := take_ne (nlt.sublist (List.take_sublist i ns)) ee
      refine ⟨_, rfl, ?_⟩
      show (sDrop _) [some (.loc n), some (.d (.int p)), some (.d (.list (ns.map fun o => ndD (o, f p o)))), some (.d (.int o)), some (.d (fr P)), a5, some (.d (fr (f p o))), some (.loc sp), some (.d (.int (i : Nat))), some (.d (fr (f p o / P))), some (.d (.int e)), some (.d (fr (f p e)))] _ _
      repeat' array_get_dec
      refine wp_times (sz _ _) ((sz _ _).div sP Pn) (by decide) ?_
      repeat' array_get_dec
      have g1 : gg f p P (fun a => a ∈ ns.take (i + 1)) (fun a b => (a ≠ b ∧ a ∈ ns.take i ∧ b ∈ ns.take i) ∨ (a = o ∧ b ∈ (ns.take i).take j) ∨ (b = o ∧ a ∈ (ns.take i).take j)) e o = f e o := by
        refine gg_no o3 ?_
        rintro (⟨_, _, z⟩ | ⟨z, _⟩ | ⟨_, z⟩)
        · exact oi z
        · exact ne z
        · exact ej z
      have g2 : gg f p P (fun a => a ∈ ns.take (i + 1)) (fun a b => (a ≠ b ∧ a ∈ ns.take i ∧ b ∈ ns.take i) ∨ (a = o ∧ b ∈ (ns.take i).take j) ∨ (b = o ∧ a ∈ (ns.take i).take j)) o e = f o e := by
        refine gg_no x3 ?_
        rintro (⟨_, z, _⟩ | ⟨_, z⟩ | ⟨z, _⟩)
        · exact oi z
        · exact ej z
        · exact ne z
      refine wp_more (h0 := h0) nd1 w.len hn T2 (inr x1 x3) (inr o1 o3) x1 o1 ne (by rw [g1, g2, w.sy]) (by rw [g1]; exact wd _ _) (Wd.of ((sz _ _).mul ((sz _ _).div sP Pn)) (by decide)) fun h5 kp T5 => ?_
      have e5 : h5[sp]? = _ := (kp.far sp (by omega)).trans e2
      refine ⟨trivial, hG2 _ _ ⟨⟨_, _, rfl⟩, kp.len.trans l2, kp.fra fr2, e5, T5.congr fun a ha b => ?_⟩⟩
      rw [g1]
      have ap : a ≠ p := of_decide_eq_true (List.mem_filter.1 ha).2
      have dv : f p e * (f p o / P) = f p e * f p o / P := by rw [Rat.div_def, Rat.div_def, Rat.mul_assoc]
      rw [dv]
      by_cases c1 : a = e ∧ b = o
      · obtain ⟨rfl, rfl⟩ := c1
        rw [if_pos (.inl ⟨rfl, rfl⟩), gg_yes o3]
        exact .inr (.inr ⟨rfl, by rw [mem_take1 ee]; exact .inr rfl⟩)
      by_cases c2 : a = o ∧ b = e
      · obtain ⟨rfl, rfl⟩ := c2
        rw [if_pos (.inr ⟨rfl, rfl⟩), gg_yes x3, w.sy a b, Rat.mul_comm (f p a)]
        exact .inr (.inl ⟨rfl, by rw [mem_take1 ee]; exact .inr rfl⟩)
      rw [if_neg (fun z => z.elim c1 c2)]
      refine gg_congr Iff.rfl ?_
      rw [mem_take1 ee, mem_take1 ee]
      constructor
      · rintro (z | ⟨z1, z2⟩ | ⟨z1, z2⟩)
        · exact .inl z
        · exact .inr (.inl ⟨z1, .inl z2⟩)
        · exact .inr (.inr ⟨z1, .inl z2⟩)
      · rintro (z | ⟨z1, z2 | z2⟩ | ⟨z1, z2 | z2⟩)
        · exact .inl z
        · exact .inr (.inl ⟨z1, z2⟩)
        · exact absurd ⟨z1, z2⟩ c2
        · exact .inr (.inr ⟨z1, z2⟩)
        · exact absurd ⟨z2, z1⟩ c1
    · rintro ρ' h' ⟨⟨a10, a11, rfl⟩, l2, fr2, e2, T2⟩
      refine ⟨trivial, hG _ _ ⟨⟨_, _, _, _, _, _, _, rfl⟩, l2, fr2, e2, T2.congr fun a ha b => gg_congr Iff.rfl ?_⟩⟩
      rw [List.length_map, List.length_map, List.take_length, mem_take1 eo, mem_take1 eo]
      constructor
      · rintro (⟨z1, z2, z3⟩ | ⟨z1, z2⟩ | ⟨z1, z2⟩)
        · exact ⟨z1, .inl z2, .inl z3⟩
        · exact ⟨fun z => oi (by rw [← z1, z]; exact z2), .inr z1, .inl z2⟩
        · exact ⟨fun z => oi (by rw [← z1, ← z]; exact z2), .inl z2, .inr z1⟩
      · rintro ⟨z1, z2 | z2, z3 | z3⟩
        · exact .inl ⟨z1, z2, z3⟩
        · exact .inr (.inr ⟨z3, z2⟩)
        · exact .inr (.inl ⟨z2, z3⟩)
        · exact absurd (z2.trans z3.symm) z1
  · rintro ρ' h' ⟨⟨a3, a5, a6, a8, a9, a10, a11, rfl⟩, l2, fr2, e2, T2⟩
    rw [enumD_len, List.length_map, List.take_length] at e2 T2
    repeat' array_get_dec
    refine i_tupLoc e2 ?_
    repeat' array_get_dec
    refine k P0 _ _ fr2 (by omega) (T2.congr fun a ha b => ?_)
    have ap : a ≠ p := of_decide_eq_true (List.mem_filter.1 ha).2
    have nz : ∀ {a : Int}, f p a ≠ 0 → a ∈ ns := fun hz => by rw [← hns]; exact mem_nb.2 ⟨(w.on _ _ hz).2.1, hz⟩
    unfold star
    by_cases c : b = p
    · rw [c, if_pos (.inr (.inr rfl))]
      by_cases z : f p a = 0
      · by_cases c2 : a ∈ ns
        · exact gg_gone c2
        · rw [gg_p c2, w.sy, z]
      · exact gg_gone (nz z)
    · by_cases c2 : a = b
      · rw [if_pos (.inl c2), gg_no c (fun z => z.1 c2), c2, w.diag]
      · rw [if_neg (fun z => z.elim c2 fun z => z.elim ap c)]
        by_cases z1 : f p a = 0
        · rw [z1, Rat.zero_mul, Rat.div_def, Rat.zero_mul, Rat.add_zero]
          by_cases c3 : a ≠ b ∧ a ∈ ns ∧ b ∈ ns
          · rw [gg_yes c c3, z1, Rat.zero_mul, Rat.div_def, Rat.zero_mul, Rat.add_zero]
          · rw [gg_no c c3]
        · by_cases z2 : f p b = 0
          · rw [z2, Rat.mul_zero, Rat.div_def, Rat.zero_mul, Rat.add_zero]
            by_cases c3 : a ≠ b ∧ a ∈ ns ∧ b ∈ ns
            · rw [gg_yes c c3, z2, Rat.mul_zero, Rat.div_def, Rat.zero_mul, Rat.add_zero]
            · rw [gg_no c c3]
          · exact gg_yes c ⟨c2, nz z1, nz z2⟩
end
open NT
theorem concat_at' (h : Ho) (o : O) : (h ++ [o])[h.length]? = some o := by simp
theorem concat_set' (h : Ho) (o o' : O) : (h ++ [o]).set h.length o' = h ++ [o'] := by simp
section
variable {g : WG} {tt : WT} {wi1 : WI} {g1 : WG} {tt1 : WT} {te : WE} {vs1 own : List Nat} {st : Ho → Prop} {n : Nat} {ρ ρ1 : En} {h : Ho} {N : Ho → Prop} {x : D} {xs : List D}
theorem lc2In_nil (k : N h) : lc2In g tt te st n ρ N [] h := k
theorem lc2In_cons (e : g x h ρ = some ρ1) (k : tt ρ1 h (fun b h1 => if b = true then te ρ1 h1 (fun y h2 => ∃ acc, h2[n]? = some (.lst acc) ∧ acc.length < sizeLine ∧ st (h2.set n (.lst (acc ++ [y]))) ∧ lc2In g tt te st n ρ N xs (h2.set n (.lst (acc ++ [y])))) noX else st h1 ∧ lc2In g tt te st n ρ N xs h1) noX) : lc2In g tt te st n ρ N (x :: xs) h := by
  unfold lc2In
  rw [e]
  have e1 : (fun (y : D) (h2 : Ho) => ∃ acc, h2[n]? = some (.lst acc) ∧ acc.length < sizeLine ∧ st (h2.set n (.lst (acc ++ [y]))) ∧ lc2In g tt te st n ρ N xs (h2.set n (.lst (acc ++ [y])))) = (fun y h2 => match h2[n]? with
      | some (.lst acc) => acc.length < sizeLine ∧ st (h2.set n (.lst (acc ++ [y]))) ∧ lc2In g tt te st n ρ N xs (h2.set n (.lst (acc ++ [y])))
      | _ => False) := by
    funext y h2
    apply propext
    constructor
    · rintro ⟨acc, e2, q⟩
      rw [e2]
      exact q
    · split
      · rename_i acc e3
        exact fun q => ⟨acc, e3, q⟩
      · exact False.elim
  rw [e1] at k
  exact k
theorem lc2Go_nil {Q : Ho → Prop} (k : Q h) : lc2Go g tt wi1 g1 tt1 te vs1 st n ρ Q [] h := k
theorem lc2Go_cons {Q : Ho → Prop} (e : g x h ρ = some ρ1) (k : tt ρ1 h (fun b h1 => if b = true then wi1 ρ1 h1 (fun ys st1 h2 => lc2In g1 tt1 te st1 n (wipeD ρ1 vs1) (fun h3 => st h3 ∧ lc2Go g tt wi1 g1 tt1 te vs1 st n ρ Q xs h3) ys h2) noX
        else st h1 ∧ lc2Go g tt wi1 g1 tt1 te vs1 st n ρ Q xs h1) noX) : lc2Go g tt wi1 g1 tt1 te vs1 st n ρ Q (x :: xs) h := by
  unfold lc2Go
  rw [e]
  exact k
end
section
variable {g g1 : WG} {tt tt1 : WT} {wi1 : WI} {te : WE} {vs1 : List Nat} {st : Ho → Prop} {ρ : En} {hb : Ho} {N : Ho → Prop}
/-- inner turns over ints: test and item known -/
theorem in_all (c : Int → Bool) (it : Int → D) (hst : ∀ h, st h) : ∀ (l : List Int) (acc : List D), (∀ b ∈ l, ∀ acc, ∃ ρ1, g (.d (.int b)) (hb ++ [.lst acc]) ρ = some ρ1 ∧ (∀ P : Bool → Ho → Prop, P (c b) (hb ++ [.lst acc]) → tt ρ1 (hb ++ [.lst acc]) P noX) ∧ (c b = true → ∀ P : KD, P (it b) (hb ++ [.lst acc]) → te ρ1 (hb ++ [.lst acc]) P noX)) →
    acc.length + l.length ≤ sizeLine → N (hb ++ [.lst (acc ++ (l.filter c).map it)]) → lc2In g tt te st hb.length ρ N (l.map fun b => D.d (.int b)) (hb ++ [.lst acc])
  | [], acc, _, _, k => lc2In_nil (by
    have e : acc ++ (([] : List Int).filter c).map it = acc := by simp
    rw [e] at k
    exact k)
  | b :: l, acc, h, hl, k => by
    obtain ⟨ρ1, e1, e2, e3⟩ := h b (List.mem_cons_self ..) acc
    rw [List.length_cons] at hl
    rw [List.map_cons]
    refine lc2In_cons e1 (e2 _ ?_)
    cases hc : c b with
    | true =>
      rw [if_pos rfl]
      refine e3 hc _ ⟨acc, concat_at' _ _, by omega, hst _, ?_⟩
      rw [concat_set']
      refine in_all c it hst l _ (fun b' hb' => h b' (List.mem_cons_of_mem _ hb')) (by rw [List.length_append, List.length_singleton]; omega) ?_
      rw [List.filter_cons, if_pos hc, List.map_cons] at k
      rw [List.append_assoc]
      exact k
    | false =>
      rw [if_neg (by decide)]
      refine ⟨hst _, in_all c it hst l _ (fun b' hb' => h b' (List.mem_cons_of_mem _ hb')) (by omega) ?_⟩
      rw [List.filter_cons, if_neg (by rw [hc]; decide)] at k
      exact k
/-- outer turns over ints -/
theorem go_all {Q : Ho → Prop} (its : Int → List D) (hst : ∀ h, st h) : ∀ (l : List Int) (acc : List D), (∀ a ∈ l, ∀ acc : List D, acc.length ≤ 1000 → ∃ ρ1, g (.d (.int a)) (hb ++ [.lst acc]) ρ = some ρ1 ∧ ∀ N : Ho → Prop, N (hb ++ [.lst (acc ++ its a)]) → wi1 ρ1 (hb ++ [.lst acc]) (fun ys st1 h2 => lc2In g1 tt1 te st1 hb.length (wipeD ρ1 vs1) N ys h2) noX) →
    (∀ a ∈ l, (its a).length ≤ 7) → acc.length + 7 * l.length ≤ 1000 → Q (hb ++ [.lst (acc ++ l.flatMap its)]) → lc2Go g tTrue wi1 g1 tt1 te vs1 st hb.length ρ Q (l.map fun b => D.d (.int b)) (hb ++ [.lst acc])
  | [], acc, _, _, _, k => lc2Go_nil (by
    have e : acc ++ ([] : List Int).flatMap its = acc := by simp
    rw [e] at k
    exact k)
  | a :: l, acc, h, h7, hl, k => by
    rw [List.length_cons] at hl
    obtain ⟨ρ1, e1, e2⟩ := h a (List.mem_cons_self ..) acc (by omega)
    have := h7 a (List.mem_cons_self ..)
    rw [List.map_cons]
    refine lc2Go_cons e1 ?_
    refine i_tTrue ?_
    rw [if_pos rfl]
    refine e2 _ ⟨hst _, ?_⟩
    refine go_all its hst l _ (fun a' ha' => h a' (List.mem_cons_of_mem _ ha')) (fun a' ha' => h7 a' (List.mem_cons_of_mem _ ha')) (by rw [List.length_append]; omega) ?_
    rw [List.flatMap_cons] at k
    rw [List.append_assoc]
    exact k
end
theorem lx_eq {L M : List (Int × Int × Rat)} (h1 : L.Pairwise Lx) (h2 : M.Pairwise Lx) (h : ∀ z, z ∈ L ↔ z ∈ M) : L = M := by
  have nd : ∀ {L : List (Int × Int × Rat)}, L.Pairwise Lx → L.Nodup := fun h => h.imp fun {a b} q e => by
    subst e
    unfold Lx at q
    omega
  exact (perm_of_mem (nd h1) (nd h2) h).eq_of_pairwise (fun a b _ _ x y => by unfold Lx at x y; omega) h1 h2
/-- the ties, point by point -/
theorem tl_rows {g : Int → Int → Rat} {ks : List Int} (w : NW g ks) : ks.flatMap (fun a => ((nb (g a) ks).filter fun b => decide (a < b)).map fun b => (a, b, g a b)) = tl g ks := by
  refine lx_eq ?_ (tl_ord w.lt) fun z => ?_
  · rw [List.pairwise_flatMap]
    refine ⟨fun a ha => ?_, w.lt.imp fun {a b} q x hx y hy => ?_⟩
    · rw [List.pairwise_map]
      exact ((nb_lt w.lt).sublist List.filter_sublist).imp fun h => .inr ⟨rfl, h⟩
    · obtain ⟨_, _, rfl⟩ := List.mem_map.1 hx
      obtain ⟨_, _, rfl⟩ := List.mem_map.1 hy
      exact .inl q
  · rw [mem_tl w.lt, List.mem_flatMap]
    obtain ⟨x, y, q⟩ := z
    dsimp only
    constructor
    · rintro ⟨a, ha, hz⟩
      obtain ⟨b, hb, e⟩ := List.mem_map.1 hz
      obtain ⟨hb1, hb2⟩ := List.mem_filter.1 hb
      obtain ⟨b1, b2⟩ := mem_nb.1 hb1
      cases e
      exact ⟨ha, b1, of_decide_eq_true hb2, b2, rfl⟩
    · rintro ⟨h1, h2, h3, h4, h5⟩
      exact ⟨x, h1, List.mem_map.2 ⟨y, List.mem_filter.2 ⟨mem_nb.2 ⟨h2, by rw [h5]; exact h4⟩, decide_eq_true h3⟩, by rw [h5]⟩⟩
/-- all places named are there -/
def NF (h : Ho) : Prop := ∀ n, h.length ≤ n → noRef n h = true
theorem Fra.nf {h0 h : Ho} (f : Fra h0 h) (n0 : NF h0) : NF h := by
  have hle := f.le
  obtain ⟨T, rfl, k⟩ := f
  intro n hn
  have h1 := k n hn
  have h2 := n0 n (by omega)
  unfold noRef at *
  rw [List.all_append, h1, h2]
  rfl
theorem nb_sub {w : Int → Rat} {ps ks : List Int} (h1 : ps.Pairwise (· < ·)) (h2 : ks.Pairwise (· < ·)) (s1 : ∀ q, w q ≠ 0 → q ∈ ps) (s2 : ∀ q, w q ≠ 0 → q ∈ ks) : nb w ps = nb w ks :=
  sorted_eq (perm_of_mem (lt_nodup (nb_lt h1)) (lt_nodup (nb_lt h2)) fun q => by
    rw [mem_nb, mem_nb]
    exact ⟨fun h => ⟨s2 q h.2, h.2⟩, fun h => ⟨s1 q h.2, h.2⟩⟩) ((nb_lt h1).imp fun h => Int.le_of_lt h) (nb_lt h2)
section
variable {ps ks : List Int} {n m : Nat} {h : Ho} {g : Int → Int → Rat} {Q : KD} {E : XD}
theorem wp_netin (lp : ps.Pairwise (· < ·)) (hp : ps.length ≤ 7) (w : NW g ks) (T : TB ps n m h ks g) (hm : n + m < h.length) (nf : NF h) (k : Q (.d (netD ks (tl g ks))) h) : M_network_in [.loc n] h Q E := by
  have sl : sizeLine = 2 ^ 24 := rfl
  have len := w.len
  refine i_mir rfl (by repeat constructor) (by repeat constructor) ?_
  unfold B_network_in
  repeat' array_get_dec
  unfold fLc2V
  refine i_iseqG ?_
  repeat' array_get_dec
  refine i_sortKs T w.lt w.len ?_
  refine ⟨_, rfl, trivial, ?_⟩
  rw [List.map_map]
  refine go_all (fun a => ((nb (g a) ks).filter fun b => decide (a < b)).map fun b => D.d (tieD (a, b, g a b))) (fun _ => trivial) ks [] (fun a ha acc hacc => ⟨_, rfl, fun N hN => ?_⟩) (fun a ha => ?_) (by simp; omega) ?_
  · show iSeq _ [some (.loc n), _, some (.d (.int a)), _] _ _ _
    refine i_iseqG ?_
    repeat' array_get_dec
    obtain ⟨kvs, l, es, r1, r2, r3, r4, r5, r6, r7⟩ := T.row ha
    have r1' : (h ++ [O.lst acc])[n]? = some (.di kvs) := by rw [List.getElem?_append_left (by omega)]; exact r1
    have r5' : (h ++ [O.lst acc])[l]? = some (.di es) := by rw [List.getElem?_append_left (by omega)]; exact r5
    refine ⟨n, kvs, a, _, rfl, r1', rfl, r2, ?_⟩
    repeat' array_get_dec
    refine i_sortDi lp hp r5' r6 ?_
    rw [nb_sub lp w.lt r6.sup fun q hq => (w.on a q hq).2.1]
    have ln : (nb (g a) ks).length ≤ ks.length := List.length_filter_le _ _
    refine ⟨_, rfl, ?_⟩
    rw [List.map_map]
    refine in_all (fun b => decide (a < b)) (fun b => D.d (tieD (a, b, g a b))) (fun _ => trivial) (nb (g a) ks) acc (fun b hb acc => ⟨_, rfl, fun P hP => ?_, fun _ P hP => ?_⟩) (by omega) hN
    · show tVal _ [some (.loc n), _, some (.d (.int a)), some (.d (.int b))] _ _ _
      repeat' array_get_dec
      exact hP
    · show fTup _ [some (.loc n), _, some (.d (.int a)), some (.d (.int b))] _ _ _
      obtain ⟨b1, b2⟩ := mem_nb.1 hb
      have r1' : (h ++ [O.lst acc])[n]? = some (.di kvs) := by rw [List.getElem?_append_left (by omega)]; exact r1
      have r5' : (h ++ [O.lst acc])[l]? = some (.di es) := by rw [List.getElem?_append_left (by omega)]; exact r5
      repeat' array_get_dec
      refine ⟨n, kvs, a, _, rfl, r1', rfl, r2, ?_⟩
      repeat' array_get_dec
      refine ⟨l, es, b, _, rfl, r5', rfl, by rw [r6.lk]; exact en_some b2, ?_⟩
      repeat' array_get_dec
      exact hP
  · rw [List.length_map]
    have h1 := List.length_filter_le (fun b => decide (a < b)) (nb (g a) ks)
    have h2 : (nb (g a) ks).length ≤ ks.length := List.length_filter_le _ _
    omega
  refine ⟨h, _, (tl g ks).map tieD, rfl, rfl, nf _ (Nat.le_refl _), ?_, ?_⟩
  · rw [← tl_rows w, List.map_flatMap, List.nil_append]
    have e : (ks.flatMap fun a => ((nb (g a) ks).filter fun b => decide (a < b)).map fun b => D.d (tieD (a, b, g a b))) = (ks.flatMap fun a => (((nb (g a) ks).filter fun b => decide (a < b)).map fun b => (a, b, g a b)).map tieD).map D.d := by
      rw [List.map_flatMap]
      congr 1
      funext a
      rw [List.map_map, List.map_map]
      rfl
    rw [e]
    exact allD_map _
  · repeat' array_get_dec
    refine i_sortKs T w.lt w.len ?_
    repeat' array_get_dec
    exact k
/-- the network without a point -/
theorem wp_dropped {f : Int → Int → Rat} {p : Int} {P : Rat} (w : NW f ps) (sz : ∀ a b, Sz 133 (f a b)) (hp : p ∈ ps) (nf : NF h) (hP : P = ((nb (f p) ps).map (f p)).sum) (sP : Sz 810 P)
    (kR : P.num ≤ 0 → ∀ h', Fra h h' → E ⟨"Refused", some ("word", .d (.str "pull"))⟩ h')
    (k : 0 < P.num → ∀ h', Fra h h' → Q (.d (netD (ps.filter fun q => decide (q ≠ p)) (tl (star f p P) (ps.filter fun q => decide (q ≠ p))))) h') : M_dropped [.d (netD ps (tl f ps)), .d (.int p)] h Q E := by
  refine i_mir rfl (by repeat constructor) (by repeat constructor) ?_
  unfold B_dropped
  repeat' array_get_dec
  refine wp_tbp w fun h1 fr1 hm1 T1 => ?_
  repeat' array_get_dec
  refine wp_drop (h0 := h) w sz hp (Nat.le_refl _) hm1 T1 fr1 hP sP (fun z h' fr => ?_) fun z x h' fr2 hm T2 => ?_
  · exact kR z h' fr
  · repeat' array_get_dec
    refine wp_netin w.lt w.len (star_nw w p P) T2 hm (fr2.nf nf) ?_
    exact k z _ fr2
end
open NT
theorem lk_mg {u : Int → Rat} {k : Int} : ∀ (ks : List Int) (acc : List (Int × D)), lk (mgD acc (ks.map fun q => (q, fr (u q)))) k = if k ∈ ks then some (.d (fr (u k))) else lk acc k
  | [], acc => by simp [mgD]
  | q :: ks, acc => by
    rw [List.map_cons]
    show lk (mgD (stD acc q (.d (fr (u q)))) (ks.map fun q => (q, fr (u q)))) k = _
    rw [lk_mg ks, lk_st]
    by_cases c : k ∈ ks
    · rw [if_pos c, if_pos (List.mem_cons_of_mem _ c)]
    · rw [if_neg c]
      by_cases d : q = k
      · subst d
        rw [if_pos rfl, if_pos (List.mem_cons_self ..)]
      · rw [if_neg d, if_neg]
        intro z
        rcases List.mem_cons.1 z with e | z
        · exact d e.symm
        · exact c z
abbrev wD (u : Int → Rat) (ks : List Int) : List PyData := (ks.map fun q => (q, fr (u q))).map V2.prD
/-- a tie's part of the energy, twice -/
def tm (u : Int → Rat) (z : Int × Int × Rat) : Rat := z.2.2 * ((u z.1 - u z.2.1) * (u z.1 - u z.2.1))
theorem ov_sum {N : Nat} (h : N ≠ 0) : ∀ zs : List Int, (zs.map (ov N)).sum = ov N zs.sum
  | [] => (Rat.zero_mkRat N).symm
  | z :: zs => by rw [List.map_cons, List.sum_cons, List.sum_cons, ov_sum h zs, ov_add h]
theorem absum_le {c : Nat} : ∀ {zs : List Int}, (∀ z ∈ zs, z.natAbs ≤ c) → absum zs ≤ zs.length * c
  | [], _ => Nat.zero_le _
  | z :: zs, h => by
    rw [absum_cons, List.length_cons, Nat.succ_mul, Nat.add_comm]
    exact Nat.add_le_add (absum_le fun y hy => h y (List.mem_cons_of_mem _ hy)) (h z (List.mem_cons_self ..))
theorem ov_of {N : Nat} (hN : N ≠ 0) {x : Rat} (d : x.den ∣ N) : x = ov N (x.num * (N / x.den : Nat)) := by
  obtain ⟨c, rfl⟩ := d
  have d0 := x.den_nz
  rw [Nat.mul_div_cancel_left _ (Nat.pos_of_ne_zero d0)]
  have c0 : c ≠ 0 := fun e => hN (by rw [e, Nat.mul_zero])
  unfold ov
  have e := Rat.mkRat_mul_right (n := x.num) (d := x.den) c0
  rw [e, Rat.mkRat_self]
section
variable {h : Ho} {Q : KD} {E : XD}
theorem wp_halfW {x : Rat} (hd : x.den < 2 ^ 8990) (k : Q (.d (fr (x / 2))) h) : M_half [.d (fr x)] h Q E := by
  have d0 := x.den_nz
  have e : x / 2 = mkRat x.num (2 * x.den) := by
    rw [Rat.mkRat_eq_div, Rat.natCast_mul]
    conv => lhs; rw [← Rat.mkRat_self x, Rat.mkRat_eq_div]
    have := x.den_nz
    grind
  rw [e] at k
  refine i_mir rfl (by repeat constructor) (by repeat constructor) ?_
  unfold B_half
  repeat' array_get_dec
  · exact cmB (show Bd 2 2 by show (2 : Int).natAbs < 4; decide) (show Bd 8990 ((x.den : Nat) : Int) from hd) (by decide)
  have e2 : (2 : Int) * ((x.den : Nat) : Int) = ((2 * x.den : Nat) : Int) := by rw [Int.natCast_mul]; rfl
  rw [e2]
  refine wp_fraction (n := 8990 + 1) (by omega) (show 2 * x.den < 2 ^ (8990 + 1) by rw [Nat.pow_succ]; omega) (by decide) (by decide) k
theorem wp_netE {ps : List Int} {T : List (Int × Int × Rat)} {u : Int → Rat} {N su sg st : Nat} (hT : ∀ z ∈ T, z.1 ∈ ps ∧ z.2.1 ∈ ps) (hp : ps.length ≤ 7) (hl : T.length ≤ 32) (hN : N ≠ 0) (hN2 : N < 2 ^ 8000) (hd : ∀ z ∈ T, (tm u z).den ∣ N)
    (s1 : ∀ q ∈ ps, Sz 9000 (u q)) (s2 : ∀ a ∈ ps, ∀ b ∈ ps, Sz sg (u a - u b)) (hs : sg + sg ≤ 9000) (s3 : ∀ z ∈ T, Sz 9000 z.2.2) (s4 : ∀ z ∈ T, Sz 9000 (tm u z)) {qs : List Int}
    (k : Q (.d (fr ((T.map (tm u)).sum / 2))) (h ++ [.di (mgD [] (ps.map fun q => (q, fr (u q))))])) : M_network_energy [.d (netD qs T), .tp (wD u ps)] h Q E := by
  have sl : sizeLine = 2 ^ 24 := rfl
  refine i_mir rfl (by repeat constructor) (by repeat constructor) ?_
  unfold B_network_energy
  repeat' array_get_dec
  refine ⟨_, ps.map fun q => (q, fr (u q)), rfl, .inl rfl, by rw [List.length_map]; omega, ?_⟩
  have at1 : ∀ (acc : O) (q : Int), q ∈ ps → ∃ kvs, (h ++ [.di (mgD [] (ps.map fun q => (q, fr (u q))))] ++ [acc])[h.length]? = some (.di kvs) ∧ lk kvs q = some (.d (fr (u q))) := fun acc q hq => by
    refine ⟨mgD [] (ps.map fun q => (q, fr (u q))), ?_, by rw [lk_mg, if_pos hq]⟩
    rw [List.append_assoc, List.getElem?_append_right (Nat.le_refl _), Nat.sub_self]
    rfl
  generalize h ++ [O.di (mgD [] (ps.map fun q => (q, fr (u q))))] = h1 at k at1 ⊢
  generalize hn : h.length = n at at1 ⊢
  repeat' array_get_dec
  refine i_lcv ?_
  refine i_iseqG ?_
  repeat' array_get_dec
  refine ⟨_, rfl, ?_⟩
  refine lcv_indS (hb := h1) (fun k acc => acc = ((T.take k).map fun z => D.d (.tuple [fr z.2.2, fr (u z.1 - u z.2.1)]))) (fun _ => trivial) ?_ ?_ rfl
  · rintro i z acc ez rfl
    rw [List.getElem?_map, List.getElem?_map, Option.map_map, Option.map_eq_some_iff] at ez
    obtain ⟨⟨a, b, q⟩, eo, rfl⟩ := ez
    have il := (List.getElem?_eq_some_iff.1 eo).1
    obtain ⟨m1, m2⟩ := hT _ (List.mem_of_getElem? eo)
    refine ⟨_, .d (.tuple [fr q, fr (u a - u b)]), rfl, fun P' qq => ?_, ?_, ?_⟩
    · show fTup _ [_, _, some (.loc n), _, some (.d (.int a)), some (.d (.int b)), some (.d (fr q)), _] _ _ _
      repeat' array_get_dec
      obtain ⟨kvs, e1, e2⟩ := at1 _ _ m1
      refine ⟨n, kvs, a, _, rfl, e1, rfl, e2, ?_⟩
      repeat' array_get_dec
      obtain ⟨kvs, e1, e2⟩ := at1 _ _ m2
      refine ⟨n, kvs, b, _, rfl, e1, rfl, e2, ?_⟩
      repeat' array_get_dec
      refine wp_minusW (Wd.of (s1 _ m1) (Nat.le_refl _)) (Wd.of (s1 _ m2) (Nat.le_refl _)) ?_
      repeat' array_get_dec
      exact qq
    · rw [List.length_map, List.length_take]
      omega
    · rw [List.take_add_one, eo]
      simp
  rintro acc rfl
  rw [List.length_map, List.length_map, List.take_length]
  refine ⟨_, allD_fn _ _, ?_⟩
  repeat' array_get_dec
  refine i_lcv ?_
  refine i_iseqG ?_
  repeat' array_get_dec
  refine ⟨_, rfl, ?_⟩
  refine lcv_indS (hb := h1) (fun k acc => acc = ((T.take k).map fun z => D.d (fr (tm u z)))) (fun _ => trivial) ?_ ?_ rfl
  · rintro i z acc ez rfl
    rw [List.getElem?_map, List.getElem?_map, Option.map_map, Option.map_eq_some_iff] at ez
    obtain ⟨⟨a, b, q⟩, eo, rfl⟩ := ez
    have il := (List.getElem?_eq_some_iff.1 eo).1
    have hz := List.mem_of_getElem? eo
    obtain ⟨m1, m2⟩ := hT _ hz
    have g1 := s2 _ m1 _ m2
    refine ⟨_, .d (fr (tm u (a, b, q))), rfl, fun P' qq => ?_, ?_, ?_⟩
    · show fFn _ _ [_, _, some (.loc n), _, _, _, some (.d (fr q)), some (.d (fr (u a - u b)))] _ _ _
      repeat' array_get_dec
      refine wp_timesW (Wd.of g1 (by omega)) (Wd.of g1 (by omega)) ?_
      repeat' array_get_dec
      refine wp_timesW (Wd.of (s3 _ hz) (Nat.le_refl _)) (Wd.of (g1.mul g1) hs) ?_
      exact qq
    · rw [List.length_map, List.length_take]
      omega
    · rw [List.take_add_one, eo]
      simp
  rintro acc rfl
  rw [List.length_map, List.length_map, List.take_length]
  have ez : T.map (tm u) = (T.map fun z => (tm u z).num * (N / (tm u z).den : Nat)).map (ov N) := by
    rw [List.map_map]
    exact List.map_congr_left fun z hz => ov_of hN (hd z hz)
  refine ⟨((T.map fun z => (tm u z).num * (N / (tm u z).den : Nat)).map (ov N)).map fr, by rw [← ez, List.map_map]; exact allD_fn _ _, ?_⟩
  repeat' array_get_dec
  refine wp_totalW (.inl rfl) (N := N) (B := 2 ^ 5 * (2 ^ 9000 * 2 ^ 8000)) (by rw [List.length_map]; omega) hN (Nat.lt_of_lt_of_le hN2 (Nat.pow_le_pow_right (by decide) (by decide))) ?_ ?_ ?_
  · refine Nat.le_trans (absum_le (c := 2 ^ 9000 * 2 ^ 8000) fun z hz => ?_) (Nat.mul_le_mul_right _ (by rw [List.length_map]; exact hl))
    obtain ⟨y, hy, rfl⟩ := List.mem_map.1 hz
    rw [Int.natAbs_mul, Int.natAbs_natCast]
    exact Nat.mul_le_mul (Nat.le_of_lt (s4 y hy).1) (Nat.le_of_lt (Nat.lt_of_le_of_lt (Nat.div_le_self _ _) hN2))
  · rw [← Nat.pow_add, ← Nat.pow_add]
    exact Nat.pow_lt_pow_right (by decide) (by decide)
  rw [← ov_sum hN, ← ez]
  repeat' array_get_dec
  refine wp_halfW ?_ k
  have hs : (T.map (tm u)).sum.den ∣ N := Ov.dvd hN (Ov.sum fun x hx => by
    obtain ⟨z, hz, rfl⟩ := List.mem_map.1 hx
    exact Ov.of_dvd (hd z hz))
  exact Nat.lt_of_le_of_lt (Nat.le_of_dvd (Nat.pos_of_ne_zero hN) hs) (Nat.lt_of_lt_of_le hN2 (Nat.pow_le_pow_right (by decide) (by decide)))
end
open NT
section
variable {rest h : Ho} {Q : KD} {E : XD}
theorem wp_someR {n : Int} (n0 : 0 < n) (n1 : n ≤ 20) (dh : Deal rest h) (k : ∀ (a : Int) (b : Nat) h', a.natAbs < 2 ^ 133 → b ≠ 0 → b < 2 ^ 100 → Deal rest h' → Q (.d (fr (mkRat a b))) h') : M__law_some [.loc 1, .d (.int n)] h Q E := by
  refine i_mir rfl (by repeat constructor) (by repeat constructor) ?_
  unfold B__law_some
  repeat' array_get_dec
  · exact cmB (show Bd 2 2 by show (2 : Int).natAbs < 4; decide) (show Bd 5 n by show _ < 32; omega) (by decide)
  refine wp_any (by omega) (by omega) dh fun v h1 v0 v1 dh => ?_
  repeat' array_get_dec
  refine wp_of (xs := [.int 1, .int 3, .int 12]) (by simp) (by show 3 < 2 ^ 140; decide) dh fun x h2 hx dh => ?_
  obtain ⟨y, rfl, y0, y1⟩ : ∃ y : Int, x = .int y ∧ 1 ≤ y ∧ y ≤ 12 := by
    simp only [List.mem_cons, List.not_mem_nil, or_false] at hx
    rcases hx with rfl | rfl | rfl
    · exact ⟨1, rfl, by decide, by decide⟩
    · exact ⟨3, rfl, by decide, by decide⟩
    · exact ⟨12, rfl, by decide, by decide⟩
  repeat' array_get_dec
  refine wp_any (by omega) (by omega) dh fun u h3 u0 u1 dh => ?_
  repeat' array_get_dec
  refine wp_any (by decide) (by decide) dh fun w h4 w0 w1 dh => ?_
  repeat' array_get_dec
  obtain ⟨b, eb⟩ : ∃ b : Nat, 1 + u = (b : Nat) := ⟨(1 + u).toNat, by omega⟩
  refine i_ite (fun c => ?_) (fun c => ?_)
  · repeat' array_get_dec
    · exact ⟨by decide, by decide, by decide⟩
    refine wp_any (by decide) (by decide) dh fun p h5 p0 p1 dh => ?_
    repeat' array_get_dec
    · exact ⟨by decide, by decide, by decide⟩
    refine wp_any (by decide) (by decide) dh fun q h6 q0 q1 dh => ?_
    have p1 : p < 10 ^ 40 := p1
    have q1 : q < 10 ^ 30 := q1
    obtain ⟨b, eb⟩ : ∃ b : Nat, 1 + u + q = (b : Nat) := ⟨(1 + u + q).toNat, by omega⟩
    repeat' array_get_dec
    rw [eb]
    exact wp_frac (by omega) (by omega) (k _ _ _ (by omega) (by omega) (by omega) dh)
  · repeat' array_get_dec
    rw [eb]
    exact wp_frac (by omega) (by omega) (k _ _ _ (by omega) (by omega) (by omega) dh)
end
/-- a row that stands in order is what sorting gives -/
theorem sort_is {α : Type} {enc : α → PyData} {R : α → α → Prop} {L M : List α} (p : L.Perm M) (o : M.Pairwise R) (h : ∀ x y, R x y → PySem.W.dataLt (enc x) (enc y) = true ∧ PySem.W.dataLt (enc y) (enc x) = false) : L.mergeSort (PySem.W.dataLe false enc) = M := by
  have tot : PySem.W.TotalLe (PySem.W.dataLe false enc) := PySem.W.sortLe_total _ _ _
  have le1 : ∀ x y, R x y → PySem.W.dataLe false enc x y = true := fun x y r => by
    show (!PySem.W.dataLt (enc y) (enc x)) = true
    rw [(h x y r).2]
    rfl
  have le2 : ∀ x y, R x y → PySem.W.dataLe false enc y x = false := fun x y r => by
    show (!PySem.W.dataLt (enc x) (enc y)) = false
    rw [(h x y r).1]
    rfl
  have pm := (List.mergeSort_perm L (PySem.W.dataLe false enc)).trans p
  have pw := List.pairwise_mergeSort (le := PySem.W.dataLe false enc) tot.trans (fun a b => by
    rcases tot.total a b with e | e
    · rw [e]; rfl
    · rw [e, Bool.or_true]) L
  refine pm.eq_of_pairwise (le := fun a b => PySem.W.dataLe false enc a b = true) (fun a b ha hb x y => ?_) pw (o.imp fun {a b} r => le1 a b r)
  obtain ⟨i, hi, rfl⟩ := List.getElem_of_mem (pm.mem_iff.1 ha)
  obtain ⟨j, hj, rfl⟩ := List.getElem_of_mem hb
  rcases Nat.lt_trichotomy i j with c | c | c
  · rw [le2 _ _ (List.pairwise_iff_getElem.1 o i j hi hj c)] at y
    cases y
  · subst c
    rfl
  · rw [le2 _ _ (List.pairwise_iff_getElem.1 o j i hj hi c)] at x
    cases x
theorem sort_map {α : Type} {enc : α → PyData} {L M : List α} (h : L.mergeSort (PySem.W.dataLe false enc) = M) : (L.map enc).mergeSort (PySem.W.dataLe false id) = M.map enc := by
  rw [← h]
  exact (List.map_mergeSort (r := PySem.W.dataLe false enc) (s := PySem.W.dataLe false id) (f := enc) (l := L) fun _ _ _ _ => rfl).symm
theorem ali (x y : Int) : PySem.W.alike (.int x) (.int y) = true := by simp [PySem.W.alike]
theorem eqv_i (x y : Int) : PyData.eqv (.int x) (.int y) = decide (x = y) := by
  rw [PyData.eqv, Bool.eq_iff_iff, beq_iff_eq, decide_eq_true_iff]
theorem lt_first {a b : Int} {r s : List PyData} (c : a < b) : PySem.W.dataLt (.tuple (.int a :: r)) (.tuple (.int b :: s)) = true ∧ PySem.W.dataLt (.tuple (.int b :: s)) (.tuple (.int a :: r)) = false := by
  refine ⟨?_, ?_⟩
  · rw [PySem.W.dataLt_tuple, PySem.W.dataLt_all_no (ali _ _) (by rw [eqv_i]; exact decide_eq_false (by omega)), PySem.W.dataLt_int]
    exact decide_eq_true c
  · rw [PySem.W.dataLt_tuple, PySem.W.dataLt_all_no (ali _ _) (by rw [eqv_i]; exact decide_eq_false (by omega)), PySem.W.dataLt_int]
    exact decide_eq_false (by omega)
theorem lt_second {a b c : Int} {r s : List PyData} (h : b < c) : PySem.W.dataLt (.tuple (.int a :: .int b :: r)) (.tuple (.int a :: .int c :: s)) = true ∧ PySem.W.dataLt (.tuple (.int a :: .int c :: s)) (.tuple (.int a :: .int b :: r)) = false := by
  refine ⟨?_, ?_⟩
  · rw [PySem.W.dataLt_tuple, PySem.W.dataLt_all_yes (ali _ _) (by rw [eqv_i]; exact decide_eq_true rfl), PySem.W.dataLt_all_no (ali _ _) (by rw [eqv_i]; exact decide_eq_false (by omega)), PySem.W.dataLt_int]
    exact decide_eq_true h
  · rw [PySem.W.dataLt_tuple, PySem.W.dataLt_all_yes (ali _ _) (by rw [eqv_i]; exact decide_eq_true rfl), PySem.W.dataLt_all_no (ali _ _) (by rw [eqv_i]; exact decide_eq_false (by omega)), PySem.W.dataLt_int]
    exact decide_eq_false (by omega)
theorem lt_tie (x y : Int × Int × Rat) (h : Lx x y) : PySem.W.dataLt (tieD x) (tieD y) = true ∧ PySem.W.dataLt (tieD y) (tieD x) = false := by
  obtain ⟨a, b, q⟩ := x
  obtain ⟨c, d, r⟩ := y
  rcases h with h | ⟨h1, h2⟩
  · exact lt_first h
  · have h1 : a = c := h1
    subst h1
    exact lt_second h2
theorem lt_nd (x y : Int × Rat) (h : x.1 < y.1) : PySem.W.dataLt (ndD x) (ndD y) = true ∧ PySem.W.dataLt (ndD y) (ndD x) = false := lt_first h
theorem i_sortDn {x : D} {ds : List PyData} {h : Ho} {Q : KD} (e : litems h x = some (ds.map D.d)) (ha : PySem.W.AllAlike ds) (hs : PySem.W.Sortable ds) (hd : ∀ d ∈ ds, d.depth ≤ 60) (k : Q (.d (.list (ds.mergeSort (PySem.W.dataLe false id)))) h) : rSortD [x] h Q := ⟨x, ds, rfl, e, ha, hs, hd, k⟩
theorem alike_tie (a b : Int × Int × Rat) : PySem.W.alike (tieD a) (tieD b) = true := by simp [PySem.W.alike, PySem.W.alikeAll]
theorem alike_nd (a b : Int × Rat) : PySem.W.alike (ndD a) (ndD b) = true := by simp [PySem.W.alike, PySem.W.alikeAll]
theorem i_sortTies {x : D} {L M : List (Int × Int × Rat)} {h : Ho} {Q : KD} (e : litems h x = some ((L.map tieD).map D.d)) (p : L.Perm M) (o : M.Pairwise Lx) (k : Q (.d (.list (M.map tieD))) h) : rSortD [x] h Q := by
  refine i_sortDn (ds := L.map tieD) e (PySem.W.AllAlike.of fun b b' => alike_tie b b') (PySem.W.Sortable.tuples fun b => ⟨_, _, rfl⟩) (fun d hd => ?_) ?_
  · obtain ⟨t, _, rfl⟩ := List.mem_map.1 hd
    simp [PyData.depth, PyData.depthAll]
  · rw [sort_map (sort_is p o lt_tie)]
    exact k
theorem i_sortNds {x : D} {L M : List (Int × Rat)} {h : Ho} {Q : KD} (e : litems h x = some ((L.map ndD).map D.d)) (p : L.Perm M) (o : M.Pairwise fun a b => a.1 < b.1) (k : Q (.d (.list (M.map ndD))) h) : rSortD [x] h Q := by
  refine i_sortDn (ds := L.map ndD) e (PySem.W.AllAlike.of fun b b' => alike_nd b b') (PySem.W.Sortable.tuples fun b => ⟨_, _, rfl⟩) (fun d hd => ?_) ?_
  · obtain ⟨t, _, rfl⟩ := List.mem_map.1 hd
    simp [PyData.depth, PyData.depthAll]
  · rw [sort_map (sort_is p o lt_nd)]
    exact k
/-- sizes of a drawn fraction -/
def W2 (q : Rat) : Prop := q.num.natAbs < 2 ^ 133 ∧ q.den < 2 ^ 100
theorem W2.mk' {a : Int} {b : Nat} (h1 : a.natAbs < 2 ^ 133) (b0 : b ≠ 0) (h2 : b < 2 ^ 100) : W2 (mkRat a b) := by
  refine ⟨?_, ?_⟩
  · rw [Rat.num_mkRat, if_neg b0, Int.natAbs_ediv_of_dvd (Int.ofNat_dvd_left.2 (Nat.gcd_dvd_right _ _))]
    exact Nat.lt_of_le_of_lt (Nat.div_le_self _ _) h1
  · rw [Rat.den_mkRat, if_neg b0]
    exact Nat.lt_of_le_of_lt (Nat.div_le_self _ _) h2
theorem W2.sz {q : Rat} (w : W2 q) : Sz 133 q := ⟨w.1, Nat.lt_trans w.2 (by decide)⟩
def abq (q : Rat) : Rat := ⟨(q.num.natAbs : Int), q.den, q.den_nz, q.reduced⟩
theorem W2.abq {q : Rat} (w : W2 q) : W2 (abq q) := ⟨w.1, w.2⟩
theorem W2.one : W2 1 := ⟨by decide, by decide⟩
/-- ties that are told once each -/
structure TI (pts : List Int) (L : List (Int × Int × Rat)) : Prop where
  mem : ∀ t ∈ L, t.1 ∈ pts ∧ t.2.1 ∈ pts ∧ t.1 < t.2.1 ∧ t.2.2 ≠ 0 ∧ W2 t.2.2
  key : L.Pairwise fun s t => ¬ (s.1 = t.1 ∧ s.2.1 = t.2.1)
theorem TI.nil (pts : List Int) : TI pts [] := ⟨fun t h => (nomatch h), .nil⟩
theorem TI.uniq {pts : List Int} {L : List (Int × Int × Rat)} (h : TI pts L) {s t : Int × Int × Rat} (hs : s ∈ L) (ht : t ∈ L) (e1 : s.1 = t.1) (e2 : s.2.1 = t.2.1) : s = t := by
  obtain ⟨i, hi, rfl⟩ := List.getElem_of_mem hs
  obtain ⟨j, hj, rfl⟩ := List.getElem_of_mem ht
  rcases Nat.lt_trichotomy i j with c | c | c
  · exact absurd ⟨e1, e2⟩ (List.pairwise_iff_getElem.1 h.key i j hi hj c)
  · subst c
    rfl
  · exact absurd ⟨e1.symm, e2.symm⟩ (List.pairwise_iff_getElem.1 h.key j i hj hi c)
/-- the weights that a row of ties tells -/
def lf (L : List (Int × Int × Rat)) (a b : Int) : Rat := match L.find? (fun t => decide ((t.1 = a ∧ t.2.1 = b) ∨ (t.1 = b ∧ t.2.1 = a))) with
  | some t => t.2.2
  | none => 0
theorem lf_cases (L : List (Int × Int × Rat)) (a b : Int) : (lf L a b = 0 ∧ ∀ t ∈ L, ¬ ((t.1 = a ∧ t.2.1 = b) ∨ (t.1 = b ∧ t.2.1 = a))) ∨ ∃ t ∈ L, ((t.1 = a ∧ t.2.1 = b) ∨ (t.1 = b ∧ t.2.1 = a)) ∧ lf L a b = t.2.2 := by
  unfold lf
  cases e : L.find? (fun t => decide ((t.1 = a ∧ t.2.1 = b) ∨ (t.1 = b ∧ t.2.1 = a))) with
  | none => exact .inl ⟨rfl, fun t ht z => by
      have := List.find?_eq_none.1 e t ht
      rw [decide_eq_true z] at this
      exact this rfl⟩
  | some t =>
    have h := List.find?_some e
    exact .inr ⟨t, List.mem_of_find?_eq_some e, of_decide_eq_true h, rfl⟩
theorem TI.lf {pts : List Int} {L : List (Int × Int × Rat)} (h : TI pts L) {t : Int × Int × Rat} (ht : t ∈ L) : LW.lf L t.1 t.2.1 = t.2.2 := by
  rcases lf_cases L t.1 t.2.1 with ⟨_, n⟩ | ⟨s, hs, c, e⟩
  · exact absurd (.inl ⟨rfl, rfl⟩) (n t ht)
  · rw [e]
    rcases c with ⟨c1, c2⟩ | ⟨c1, c2⟩
    · rw [h.uniq hs ht c1 c2]
    · have := (h.mem s hs).2.2.1
      have := (h.mem t ht).2.2.1
      omega
theorem lf_sy (L : List (Int × Int × Rat)) (a b : Int) : lf L a b = lf L b a := by
  unfold lf
  have e : (fun t : Int × Int × Rat => decide ((t.1 = a ∧ t.2.1 = b) ∨ (t.1 = b ∧ t.2.1 = a))) = fun t => decide ((t.1 = b ∧ t.2.1 = a) ∨ (t.1 = a ∧ t.2.1 = b)) := by
    funext t
    exact decide_eq_decide.2 ⟨Or.symm, Or.symm⟩
  rw [e]
theorem TI.w2 {pts : List Int} {L : List (Int × Int × Rat)} (h : TI pts L) (a b : Int) : W2 (LW.lf L a b) := by
  rcases lf_cases L a b with ⟨e, _⟩ | ⟨s, hs, c, e⟩
  · rw [e]; exact ⟨by decide, by decide⟩
  · rw [e]; exact (h.mem s hs).2.2.2.2
theorem TI.nw {pts : List Int} {L : List (Int × Int × Rat)} (h : TI pts L) (lt : pts.Pairwise (· < ·)) (len : pts.length ≤ 7) : NW (LW.lf L) pts := by
  refine ⟨lt, len, lf_sy L, fun a b hz => ?_⟩
  rcases lf_cases L a b with ⟨e, _⟩ | ⟨s, hs, c, e⟩
  · exact absurd e hz
  · obtain ⟨m1, m2, m3, _, _⟩ := h.mem s hs
    rcases c with ⟨rfl, rfl⟩ | ⟨rfl, rfl⟩
    · exact ⟨m1, m2, by omega⟩
    · exact ⟨m2, m1, by omega⟩
theorem TI.perm {pts : List Int} {L : List (Int × Int × Rat)} (h : TI pts L) (lt : pts.Pairwise (· < ·)) : L.Perm (tl (LW.lf L) pts) := by
  refine perm_of_mem (h.key.imp fun {a b} n e => n (by rw [e]; exact ⟨rfl, rfl⟩)) ((tl_ord lt).imp fun {a b} q e => by subst e; unfold Lx at q; omega) fun z => ?_
  rw [mem_tl lt]
  constructor
  · intro hz
    obtain ⟨m1, m2, m3, m4, _⟩ := h.mem z hz
    exact ⟨m1, m2, m3, m4, h.lf hz⟩
  · rintro ⟨m1, m2, m3, m4, m5⟩
    rcases lf_cases L z.1 z.2.1 with ⟨e, _⟩ | ⟨s, hs, c, e⟩
    · rw [e] at m5
      exact absurd m5.symm m4
    · rcases c with ⟨c1, c2⟩ | ⟨c1, c2⟩
      · have : s = z := Prod.ext c1 (Prod.ext c2 (by rw [← m5, e]))
        rw [← this]
        exact hs
      · have := (h.mem s hs).2.2.1
        omega
theorem TI.more {pts : List Int} {L : List (Int × Int × Rat)} (h : TI pts L) {a b : Int} {q : Rat} (ha : a ∈ pts) (hb : b ∈ pts) (lt : a < b) (q0 : q ≠ 0) (w : W2 q) (nw : ∀ t ∈ L, ¬ (t.1 = a ∧ t.2.1 = b)) : TI pts (L ++ [(a, b, q)]) := by
  refine ⟨fun t ht => ?_, ?_⟩
  · rcases List.mem_append.1 ht with ht | ht
    · exact h.mem t ht
    · rw [List.mem_singleton] at ht
      subst ht
      exact ⟨ha, hb, lt, q0, w⟩
  · rw [List.pairwise_append]
    refine ⟨h.key, List.pairwise_singleton .., fun s hs t ht => ?_⟩
    rw [List.mem_singleton] at ht
    subst ht
    exact nw s hs
theorem get_inj {l : List Int} (nd : l.Pairwise (· < ·)) {i j : Nat} {o : Int} (e : l[i]? = some o) (e2 : l[j]? = some o) : i = j := by
  obtain ⟨hi, e⟩ := List.getElem?_eq_some_iff.1 e
  obtain ⟨hj, e2⟩ := List.getElem?_eq_some_iff.1 e2
  rcases Nat.lt_trichotomy i j with c | c | c
  · have := List.pairwise_iff_getElem.1 nd i j hi hj c
    omega
  · exact c
  · have := List.pairwise_iff_getElem.1 nd j i hj hi c
    omega
theorem get_lt {l : List Int} (nd : l.Pairwise (· < ·)) {i j : Nat} {a b : Int} (e : l[i]? = some a) (e2 : l[j]? = some b) (c : i < j) : a < b := by
  obtain ⟨hi, rfl⟩ := List.getElem?_eq_some_iff.1 e
  obtain ⟨hj, rfl⟩ := List.getElem?_eq_some_iff.1 e2
  exact List.pairwise_iff_getElem.1 nd i j hi hj c
theorem atI_nat {α : Type} {xs : List α} {i : Nat} {y : α} (e : xs[i]? = some y) : L2.atI xs (i : Nat) = some y := by
  have hi := (List.getElem?_eq_some_iff.1 e).1
  unfold L2.atI ixN
  rw [if_pos (by omega), if_pos (by omega)]
  simp only [Option.bind_some, Int.toNat_natCast]
  exact e
theorem i_truB {ρ : En} {h : Ho} {Q : Bool → Ho → Prop} {E : XD} {i : Nat} {b : Bool} (e : GetAt i ρ (.d (.bool b))) (k : Q b h) : tTru (fVar i) ρ h Q E := i_var e k
open NT
theorem range_get {n k : Nat} {x : D} (e : (rangeD 0 n)[k]? = some x) : k < n ∧ x = .d (.int (k : Nat)) := by
  unfold rangeD at e
  rw [List.getElem?_map, Option.map_eq_some_iff] at e
  obtain ⟨j, e1, rfl⟩ := e
  obtain ⟨h1, e2⟩ := List.getElem?_eq_some_iff.1 e1
  rw [List.getElem_range] at e2
  subst e2
  rw [List.length_range] at h1
  exact ⟨h1, by rw [Int.zero_add]⟩
theorem range_len {n : Nat} : (rangeD 0 n).length = n := by simp [rangeD]
section
variable {rest h : Ho} {Q : KD} {E : XD}
abbrev ptL (pts : List Int) : O := .lst ((pts.map PyData.int).map D.d)
abbrev tiL (L : List (Int × Int × Rat)) : O := .lst ((L.map tieD).map D.d)
theorem wp_net {many : Nat} {b : Bool} (m0 : 1 ≤ many) (m1 : many ≤ 7) (dh : Deal rest h)
    (k : ∀ pts L h', pts.length = many → pts.Pairwise (· < ·) → (∀ p ∈ pts, 0 ≤ p ∧ p.natAbs < 2 ^ 60) → TI pts L → Deal (rest ++ [ptL pts, tiL L]) h' → Q (.d (netD pts (tl (lf L) pts))) h') : M__law_net [.loc 1, .d (.int (many : Nat)), .d (.bool b)] h Q E := by
  have sz : sizeLine = 2 ^ 24 := rfl
  refine i_mir rfl (by repeat constructor) (by repeat constructor) ?_
  unfold B__law_net
  repeat' array_get_dec
  refine i_loc ?_
  repeat' array_get_dec
  refine ⟨by decide, ?_⟩
  repeat' array_get_dec
  · exact ⟨by omega, by omega, by
      rw [dh.len]
      have dh1 := dh.snoc (.lst [])
      rw [Int.toNat_natCast]
      refine for_ind (fun k ρ' h' => (∃ last v5 v6 v7 v8 pts, ρ' = [some (.loc 1), some (.d (.int (many : Nat))), some (.d (.bool b)), some (.loc (rest.length + 2)), some (.d (.int last)), v5, v6, v7, v8] ∧ pts.length = k ∧ pts.Pairwise (· < ·) ∧ (k = 0 → last = 0) ∧ (∀ p ∈ pts, p ≤ last) ∧ (0 ≤ last ∧ last ≤ 6 * (k : Int)) ∧ (∀ p ∈ pts, 0 ≤ p) ∧ Deal (rest ++ [ptL pts]) h')) ?_ ?_ ⟨_, _, _, _, _, [], rfl, rfl, .nil, fun _ => rfl, fun p hp => (nomatch hp), ⟨by decide, by decide⟩, fun p hp => (nomatch hp), dh1⟩
      · rintro i x ρ' h1 G ex ⟨last, v5, v6, v7, v8, pts, rfl, hl, lt, l0, ub, lb, pb, dh⟩ hG
        obtain ⟨hi, rfl⟩ := range_get ex
        refine ⟨_, rfl, ?_⟩
        show (sSeq _ _) [some (.loc 1), some (.d (.int (many : Nat))), some (.d (.bool b)), some (.loc (rest.length + 2)), some (.d (.int last)), some (.d (.int (i : Nat))), v6, v7, v8] _ _
        repeat' array_get_dec
        refine wp_of (xs := [.int 1, .int 1, .int 5]) (by simp) (by show 3 < 2 ^ 140; decide) dh fun x h2 hx dh => ?_
        obtain ⟨y, rfl, y0, y1⟩ : ∃ y : Int, x = .int y ∧ 1 ≤ y ∧ y ≤ 5 := by
          simp only [List.mem_cons, List.not_mem_nil, or_false] at hx
          rcases hx with rfl | rfl | rfl
          · exact ⟨1, rfl, by decide, by decide⟩
          · exact ⟨1, rfl, by decide, by decide⟩
          · exact ⟨5, rfl, by decide, by decide⟩
        repeat' array_get_dec
        refine wp_any (by omega) (by omega) dh fun v h3 v0 v1 dh => ?_
        repeat' array_get_dec
        have at3 : (rest ++ [ptL pts])[rest.length]? = some (ptL pts) := by simp
        have fin : ∀ last', (∀ p ∈ pts, p < last') → (0 ≤ last' ∧ last' ≤ 6 * ((i + 1 : Nat) : Int)) → ∀ ρ2, ρ2 = [some (.loc 1), some (.d (.int (many : Nat))), some (.d (.bool b)), some (.loc (rest.length + 2)), some (.d (.int last')), some (.d (.int (i : Nat))), v6, v7, v8] → G ρ2 (h3.set (rest.length + 2) (.lst ((pts.map PyData.int).map D.d ++ [.d (.int last')]))) := by
          rintro last' ub' lb' ρ2 rfl
          refine hG _ _ ⟨last', _, _, _, _, pts ++ [last'], rfl, by rw [List.length_append, hl]; rfl, ?_, fun z => by omega, fun p hp => ?_, ?_, fun p hp => ?_, ?_⟩
          · rw [List.pairwise_append]
            refine ⟨lt, List.pairwise_singleton .., fun p hp q hq => ?_⟩
            rw [List.mem_singleton] at hq
            rw [hq]
            exact ub' p hp
          · rcases List.mem_append.1 hp with hp | hp
            · have := ub' p hp; omega
            · rw [List.mem_singleton] at hp; omega
          · exact lb'
          · rcases List.mem_append.1 hp with hp | hp
            · exact pb p hp
            · rw [List.mem_singleton] at hp; omega
          · have := dh.put rest.length (ptL (pts ++ [last']))
            rw [concat_set'] at this
            have e : (pts ++ [last']).map PyData.int = pts.map PyData.int ++ [.int last'] := by rw [List.map_append]; rfl
            rw [show ptL (pts ++ [last']) = .lst ((pts.map PyData.int).map D.d ++ [.d (.int last')]) by unfold ptL; rw [e, List.map_append]; rfl] at this ⊢
            exact this
        refine i_ite (fun c => ?_) (fun c => ?_)
        · have c := of_decide_eq_true c
          repeat' array_get_dec
          refine appK_loc (dh.at' at3) ?_
          repeat' array_get_dec
          refine ⟨_, _, rfl, dh.at' at3, by rw [List.length_map, List.length_map]; omega, trivial, ?_⟩
          exact fin _ (fun p hp => by have := ub p hp; omega) (by omega) _ rfl
        · have c := of_decide_eq_false c
          have i0 : i = 0 := by omega
          repeat' array_get_dec
          refine appK_loc (dh.at' at3) ?_
          repeat' array_get_dec
          refine ⟨_, _, rfl, dh.at' at3, by rw [List.length_map, List.length_map]; omega, trivial, ?_⟩
          refine fin _ (fun p hp => ?_) (by omega) _ rfl
          have : pts = [] := List.length_eq_zero_iff.1 (by omega)
          rw [this] at hp
          exact (nomatch hp)
      · rintro ρ' h1 ⟨last, v5, v6, v7, v8, pts, rfl, hl, lt, l0, ub, lb, pb, dh⟩
        rw [range_len] at hl
        repeat' array_get_dec
        refine i_loc ?_
        repeat' array_get_dec
        refine ⟨by decide, ?_⟩
        repeat' array_get_dec
        refine ⟨by omega, by omega, ?_⟩
        have dh1 := dh.snoc (tiL [])
        rw [List.append_assoc] at dh1
        rw [show h1.length = rest.length + 3 by rw [dh.len, List.length_append]; rfl]
        rw [Int.toNat_natCast]
        have at3 : ∀ L, (rest ++ [ptL pts, tiL L])[rest.length]? = some (ptL pts) := fun L => by
          rw [List.getElem?_append_right (Nat.le_refl _), Nat.sub_self]
          rfl
        have at4 : ∀ L, (rest ++ [ptL pts, tiL L])[rest.length + 1]? = some (tiL L) := fun L => by
          rw [List.getElem?_append_right (by omega), show rest.length + 1 - rest.length = 1 by omega]
          rfl
        refine for_ind (fun i ρ' h' => (∃ v4 v5 v7 v8 L, ρ' = [some (.loc 1), some (.d (.int (many : Nat))), some (.d (.bool b)), some (.loc (rest.length + 2)), v4, v5, some (.loc (rest.length + 3)), v7, v8] ∧ TI pts L ∧ L.length ≤ i * 7 ∧ (∀ t ∈ L, ∃ i', i' < i ∧ pts[i']? = some t.2.1) ∧ Deal (rest ++ [ptL pts, tiL L]) h')) ?_ ?_ ⟨_, _, _, _, [], rfl, TI.nil _, Nat.le_refl _, fun t ht => (nomatch ht), dh1⟩
        · rintro i x ρ' h1 G ex ⟨v4, v5, v7, v8, L, rfl, tiH, len, bef, dh⟩ hG
          obtain ⟨hi, rfl⟩ := range_get ex
          refine ⟨_, rfl, ?_⟩
          show (sFor _ _ _) [some (.loc 1), some (.d (.int (many : Nat))), some (.d (.bool b)), some (.loc (rest.length + 2)), v4, some (.d (.int (i : Nat))), some (.loc (rest.length + 3)), v7, v8] _ _
          repeat' array_get_dec
          refine ⟨by omega, by omega, ?_⟩
          rw [Int.toNat_natCast]
          obtain ⟨pi, epi⟩ : ∃ p, pts[i]? = some p := ⟨_, List.getElem?_eq_getElem (by omega)⟩
          refine for_ind (fun j ρ' h' => (∃ v7 v8 L, ρ' = [some (.loc 1), some (.d (.int (many : Nat))), some (.d (.bool b)), some (.loc (rest.length + 2)), v4, some (.d (.int (i : Nat))), some (.loc (rest.length + 3)), v7, v8] ∧ TI pts L ∧ L.length ≤ i * 7 + j ∧ (∀ t ∈ L, (∃ i', i' < i ∧ pts[i']? = some t.2.1) ∨ (t.2.1 = pi ∧ ∃ j', j' < j ∧ pts[j']? = some t.1)) ∧ Deal (rest ++ [ptL pts, tiL L]) h')) ?_ ?_ ⟨_, _, L, rfl, tiH, len, fun t ht => .inl (bef t ht), dh⟩
          · rintro j x ρ' h2 G2 ex ⟨v7, v8, L, rfl, tiH, len, bef, dh⟩ hG2
            obtain ⟨hj, rfl⟩ := range_get ex
            obtain ⟨pj, epj⟩ : ∃ p, pts[j]? = some p := ⟨_, List.getElem?_eq_getElem (by omega)⟩
            refine ⟨_, rfl, ?_⟩
            show (sIf _ _ _) [some (.loc 1), some (.d (.int (many : Nat))), some (.d (.bool b)), some (.loc (rest.length + 2)), v4, some (.d (.int (i : Nat))), some (.loc (rest.length + 3)), some (.d (.int (j : Nat))), v8] _ _
            repeat' array_get_dec
            refine wp_any (by decide) (by decide) dh fun v h3 v0 v1 dh => ?_
            repeat' array_get_dec
            have more : ∀ t ∈ L, (∃ i', i' < i ∧ pts[i']? = some t.2.1) ∨ (t.2.1 = pi ∧ ∃ j', j' < j + 1 ∧ pts[j']? = some t.1) := fun t ht => (bef t ht).elim .inl fun ⟨a, j', b, c⟩ => .inr ⟨a, j', by omega, c⟩
            refine i_ite (fun c => ?_) (fun c => ?_)
            · repeat' array_get_dec
              refine wp_someR (by decide) (by decide) dh fun a bb h4 a1 b0 b1 dh => ?_
              repeat' array_get_dec
              have w := W2.mk' a1 b0 b1
              generalize mkRat a bb = q at w
              have fin : ∀ q' ρ2 h5, q' ≠ 0 → W2 q' → Deal (rest ++ [ptL pts, tiL L]) h5 → ρ2 = [some (.loc 1), some (.d (.int (many : Nat))), some (.d (.bool b)), some (.loc (rest.length + 2)), v4, some (.d (.int (i : Nat))), some (.loc (rest.length + 3)), some (.d (.int (j : Nat))), some (.d (fr q))] ∨ ρ2 = [some (.loc 1), some (.d (.int (many : Nat))), some (.d (.bool b)), some (.loc (rest.length + 2)), v4, some (.d (.int (i : Nat))), some (.loc (rest.length + 3)), some (.d (.int (j : Nat))), some (.d (fr (abq q)))] → G2 ρ2 (h5.set (rest.length + 3) (.lst ((L.map tieD).map D.d ++ [.d (tieD (pj, pi, q'))]))) := by
                intro q' ρ2 h5 q0 w' dh hr
                refine hG2 _ _ ⟨some (.d (.int (j : Nat))), (ρ2[8]?).join, L ++ [(pj, pi, q')], ?_, tiH.more (List.mem_of_getElem? epj) (List.mem_of_getElem? epi) (get_lt lt epj epi hj) q0 w' ?_, by rw [List.length_append, List.length_singleton]; omega, fun t ht => ?_, ?_⟩
                · rcases hr with rfl | rfl <;> rfl
                · rintro t ht ⟨e1, e2⟩
                  rcases bef t ht with ⟨i', hi', e⟩ | ⟨e, j', hj', e'⟩
                  · rw [e2] at e
                    have := get_inj lt e epi
                    omega
                  · rw [e1] at e'
                    have := get_inj lt e' epj
                    omega
                · rcases List.mem_append.1 ht with ht | ht
                  · exact more t ht
                  · rw [List.mem_singleton] at ht
                    subst ht
                    exact .inr ⟨rfl, j, by omega, epj⟩
                · have := dh.put (rest.length + 1) (tiL (L ++ [(pj, pi, q')]))
                  have e : (rest ++ [ptL pts, tiL L]).set (rest.length + 1) (tiL (L ++ [(pj, pi, q')])) = rest ++ [ptL pts, tiL (L ++ [(pj, pi, q')])] := by
                    rw [List.set_append, if_neg (by omega), show rest.length + 1 - rest.length = 1 by omega]
                    rfl
                  rw [e] at this
                  have e2 : tiL (L ++ [(pj, pi, q')]) = .lst ((L.map tieD).map D.d ++ [.d (tieD (pj, pi, q'))]) := by
                    unfold tiL
                    rw [List.map_append, List.map_append]
                    rfl
                  rw [e2] at this ⊢
                  exact this
              have last : ∀ q' h5, W2 q' → Deal (rest ++ [ptL pts, tiL L]) h5 → (q' = q ∨ q' = abq q) → (sDrop (fAppend (fVar 6) (aCons (fTup (aCons (fBin rIx2 (fVar 3) (fVar 7)) (aCons (fBin rIx2 (fVar 3) (fVar 5)) (aCons (fIf (tVal (fBin rNe2 (fBin rIx2 (fVar 8) (fC (.int 0))) (fC (.int 0)))) (fVar 8) (fTup (aCons (fC (.int 1)) (aCons (fC (.int 1)) aNil)))) aNil)))) aNil))) [some (.loc 1), some (.d (.int (many : Nat))), some (.d (.bool b)), some (.loc (rest.length + 2)), v4, some (.d (.int (i : Nat))), some (.loc (rest.length + 3)), some (.d (.int (j : Nat))), some (.d (fr q'))] h5 ⟨fun ρ2 h2 => True ∧ G2 ρ2 h2, fun x h => Q x h, fun _ _ => False, fun ρ2 h2 => True ∧ G2 ρ2 h2, fun x _ h => E x h⟩ := by
                intro q' h5 w' dh hq
                have ix3 : ∀ (n : Nat) (p : Int), pts[n]? = some p → L2.atI ((pts.map PyData.int).map D.d) (n : Nat) = some (.d (.int p)) := fun n p e => atI_nat (by rw [List.getElem?_map, List.getElem?_map, e]; rfl)
                repeat' array_get_dec
                refine appK_loc (dh.at' (at4 L)) ?_
                repeat' array_get_dec
                refine i_ix (dh.items (at3 L)) (ix3 _ _ epj) ?_
                repeat' array_get_dec
                refine i_ix (dh.items (at3 L)) (ix3 _ _ epi) ?_
                repeat' array_get_dec
                refine i_ite (fun c => ?_) (fun c => ?_)
                · have c : q'.num ≠ 0 := by simpa using c
                  repeat' array_get_dec
                  refine ⟨_, _, rfl, dh.at' (at4 L), by rw [List.length_map, List.length_map]; omega, trivial, ?_⟩
                  refine fin q' _ _ (fun e => c (by rw [e]; rfl)) w' dh ?_
                  rcases hq with rfl | rfl
                  · exact .inl rfl
                  · exact .inr rfl
                · repeat' array_get_dec
                  refine ⟨_, _, rfl, dh.at' (at4 L), by rw [List.length_map, List.length_map]; omega, trivial, ?_⟩
                  refine fin 1 _ _ (by decide) W2.one dh ?_
                  rcases hq with rfl | rfl
                  · exact .inl rfl
                  · exact .inr rfl
              have eab : (if q.num < 0 then -q.num else q.num) = (abq q).num := by
                show _ = ((q.num.natAbs : Nat) : Int)
                split <;> omega
              refine i_truB (by repeat constructor) ?_
              refine i_ite (fun c => ?_) (fun c => ?_)
              · refine i_ifT rfl ?_
                repeat' array_get_dec
                rw [eab]
                exact last (abq q) _ w.abq dh (.inr rfl)
              · repeat' array_get_dec
                refine wp_any (by decide) (by decide) dh fun v h5 v0 v1 dh => ?_
                repeat' array_get_dec
                refine i_ite (fun c => ?_) (fun c => ?_)
                · repeat' array_get_dec
                  rw [eab]
                  exact last (abq q) _ w.abq dh (.inr rfl)
                · repeat' array_get_dec
                  exact last q _ w dh (.inl rfl)
            · repeat' array_get_dec
              exact ⟨trivial, hG2 _ _ ⟨_, _, L, rfl, tiH, by omega, more, dh⟩⟩
          · rintro ρ' h2 ⟨v7, v8, L, rfl, tiH, len, bef, dh⟩
            rw [range_len] at len bef
            refine ⟨trivial, hG _ _ ⟨_, _, _, _, L, rfl, tiH, by omega, fun t ht => ?_, dh⟩⟩
            rcases bef t ht with ⟨i', hi', e⟩ | ⟨e, _⟩
            · exact ⟨i', by omega, e⟩
            · exact ⟨i, by omega, by rw [e]; exact epi⟩
        · rintro ρ' h1 ⟨v4, v5, v7, v8, L, rfl, tiH, len, bef, dh⟩
          repeat' array_get_dec
          refine i_tupLoc (dh.at' (at3 L)) ?_
          repeat' array_get_dec
          refine i_sortTies (L := L) ?_ (tiH.perm lt) (tl_ord lt) ?_
          · show (match h1[rest.length + 1 + 2]? with
              | some (.lst xs) => some xs
              | _ => none) = _
            rw [dh.at' (at4 L)]
          repeat' array_get_dec
          exact k pts L _ hl lt (fun p hp => by have := pb p hp; have := ub p hp; have := lb.2; rw [range_len] at this; refine ⟨by omega, ?_⟩; show p.natAbs < 1152921504606846976; omega) tiH dh⟩
end
open NT
theorem sz_mk {N : Nat} {z : Int} {n : Nat} (hN : N ≠ 0) (h1 : z.natAbs < 2 ^ n) (h2 : N < 2 ^ n) : Sz n (ov N z) := Sz.mk' hN h1 h2
theorem absum_lt {c : Nat} : ∀ {zs : List Int}, (∀ z ∈ zs, z.natAbs < c) → zs.length ≤ 32 → 0 < c → absum zs < 32 * c := by
  intro zs h hl hc
  have := absum_le (c := c - 1) (zs := zs) fun z hz => by have := h z hz; omega
  have h2 : zs.length * (c - 1) ≤ 32 * (c - 1) := Nat.mul_le_mul_right _ hl
  omega
theorem natAbs_sum : ∀ zs : List Int, zs.sum.natAbs ≤ absum zs
  | [] => Nat.le_refl _
  | z :: zs => by
    have := natAbs_sum zs
    rw [List.sum_cons, absum_cons]
    omega
/-- a sum of few fractions over one bottom -/
theorem psum {N s b : Nat} (hN : N ≠ 0) (hb : N < 2 ^ b) {xs : List Rat} (h : ∀ x ∈ xs, x.den ∣ N ∧ Sz s x) (hl : xs.length ≤ 32) : xs.sum.den ∣ N ∧ Sz (s + b + 5) xs.sum := by
  refine ⟨Ov.dvd hN (Ov.sum fun x hx => Ov.of_dvd (h x hx).1), ?_⟩
  have ez : xs = (xs.map fun x : Rat => x.num * ((N / x.den : Nat) : Int)).map (ov N) := by
    rw [List.map_map]
    conv => lhs; rw [← List.map_id xs]
    exact List.map_congr_left fun x hx => ov_of hN (h x hx).1
  rw [ez, ov_sum hN]
  have p1 : (2 : Nat) ^ (s + b + 5) = 32 * (2 ^ s * 2 ^ b) := by rw [Nat.pow_add, Nat.pow_add, Nat.mul_comm]
  refine sz_mk hN ?_ ?_
  · refine Nat.lt_of_le_of_lt (natAbs_sum _) ?_
    rw [p1]
    refine absum_lt (fun z hz => ?_) (by rw [List.length_map]; exact hl) (Nat.mul_pos (Nat.two_pow_pos _) (Nat.two_pow_pos _))
    obtain ⟨x, hx, rfl⟩ := List.mem_map.1 hz
    rw [Int.natAbs_mul, Int.natAbs_natCast]
    exact Nat.mul_lt_mul'' (h x hx).2.1 (Nat.lt_of_le_of_lt (Nat.div_le_self _ _) hb)
  · refine Nat.lt_of_lt_of_le hb ?_
    exact Nat.pow_le_pow_right (by decide) (by omega)
theorem psum_take {α : Type} {T : List α} {c : α → Rat} {N s b : Nat} (hN : N ≠ 0) (hb : N < 2 ^ b) (h : ∀ t ∈ T, (c t).den ∣ N ∧ Sz s (c t)) (hl : T.length ≤ 32) (k : Nat) : ((T.take k).map c).sum.den ∣ N ∧ Sz (s + b + 5) ((T.take k).map c).sum :=
  psum hN hb (fun x hx => by
    obtain ⟨t, ht, rfl⟩ := List.mem_map.1 hx
    exact h t (List.mem_of_mem_take ht)) (by rw [List.length_map, List.length_take]; omega)
theorem sum_take1 {α : Type} {T : List α} {c : α → Rat} {k : Nat} {t : α} (e : T[k]? = some t) : ((T.take (k + 1)).map c).sum = ((T.take k).map c).sum + c t := by
  rw [List.take_add_one, e, Option.toList_some, List.map_append, List.sum_append, List.map_cons, List.map_nil, List.sum_cons, List.sum_nil, Rat.add_zero]
theorem den_lt {N b : Nat} {x : Rat} (hN : N ≠ 0) (hb : N < 2 ^ b) (h : x.den ∣ N) (hb2 : b ≤ 4140) : x.den < 2 ^ 4140 :=
  Nat.lt_of_le_of_lt (Nat.le_of_dvd (Nat.pos_of_ne_zero hN) h) (Nat.lt_of_lt_of_le hb (Nat.pow_le_pow_right (by decide) hb2))
theorem sz_den {n : Nat} {x : Rat} (s : Sz n x) (h : n ≤ 4140) : x.den < 2 ^ 4140 := Nat.lt_of_lt_of_le s.2 (Nat.pow_le_pow_right (by decide) h)
section
variable {h : Ho} {Q : KD} {E : XD} {T : List (Int × Int × Rat)} {N b s : Nat} {p : Int}
theorem wp_lenergy {ps : List Int} {u : Int → Rat} {r sw : Nat} {kvs : List (Int × D)} (hr : h[r]? = some (.di kvs)) (hk : ∀ q ∈ ps, lk kvs q = some (.d (fr (u q)))) (hT : ∀ z ∈ T, z.1 ∈ ps ∧ z.2.1 ∈ ps) (hl : T.length ≤ 32) (hN : N ≠ 0) (hb : N < 2 ^ b) (hb2 : b ≤ 4100)
    (hd : ∀ z ∈ T, (tm u z).den ∣ N) (s1 : ∀ q ∈ ps, Sz 133 (u q)) (s3 : ∀ z ∈ T, Sz sw z.2.2) (hs : sw ≤ 1150)
    (k : Q (.d (fr ((T.map (tm u)).sum / 2))) h) : M__law_energy [.d (.tuple (T.map tieD)), .loc r] h Q E := by
  have sg : ∀ a ∈ ps, ∀ b ∈ ps, Sz 267 (u a - u b) := fun a ha b hb => (s1 a ha).sub (s1 b hb)
  have hc : ∀ t ∈ T, (tm u t).den ∣ N ∧ Sz (sw + 534) (tm u t) := fun t ht => ⟨hd t ht, (s3 t ht).mul ((sg _ (hT t ht).1 _ (hT t ht).2).mul (sg _ (hT t ht).1 _ (hT t ht).2))⟩
  refine i_mir rfl (by repeat constructor) (by repeat constructor) ?_
  unfold B__law_energy
  repeat' array_get_dec
  refine i_iseqG ?_
  repeat' array_get_dec
  refine ⟨_, rfl, ?_⟩
  refine for_ind (fun i ρ' h' => h' = h ∧ ∃ v3 v4 v5 v6, ρ' = [some (.d (.tuple (T.map tieD))), some (.loc r), some (.d (fr ((T.take i).map (tm u)).sum)), v3, v4, v5, v6]) ?_ ?_ ⟨rfl, _, _, _, _, rfl⟩
  · rintro i x ρ' h' G ex ⟨rfl, v3, v4, v5, v6, rfl⟩ hG
    rw [List.getElem?_map, List.getElem?_map, Option.map_map, Option.map_eq_some_iff] at ex
    obtain ⟨⟨lo, hi, q⟩, et, rfl⟩ := ex
    have ht := List.mem_of_getElem? et
    have st := sum_take1 (c := tm u) et
    obtain ⟨ha, hb'⟩ := psum_take hN hb hc hl (i + 1)
    obtain ⟨ha0, hb0⟩ := psum_take hN hb hc hl i
    obtain ⟨m1, m2⟩ := hT _ ht
    have g1 := sg _ m1 _ m2
    have hq := (hc _ ht).2
    rw [st] at ha hb'
    refine ⟨_, rfl, ?_⟩
    show (sSeq _ _) [some (.d (.tuple (T.map tieD))), some (.loc r), some (.d (fr ((T.take i).map (tm u)).sum)), some (.d (.int lo)), some (.d (.int hi)), some (.d (fr q)), v6] _ _
    repeat' array_get_dec
    refine ⟨r, kvs, _, _, rfl, hr, rfl, hk _ m1, ?_⟩
    repeat' array_get_dec
    refine ⟨r, kvs, _, _, rfl, hr, rfl, hk _ m2, ?_⟩
    repeat' array_get_dec
    refine wp_lless (s1 _ m1) (s1 _ m2) (by decide) (sz_den g1 (by decide)) ?_
    repeat' array_get_dec
    refine wp_ltimes g1 g1 (by decide) (sz_den (g1.mul g1) (by decide)) ?_
    repeat' array_get_dec
    refine wp_ltimes (s3 _ ht) (g1.mul g1) (by omega) (sz_den hq (by omega)) ?_
    repeat' array_get_dec
    refine wp_lplus hb0 hq (by omega) (den_lt hN hb ha (by omega)) ?_
    repeat' array_get_dec
    show _ ∧ _
    have st' : ((T.take i).map (tm u)).sum + q * ((u lo - u hi) * (u lo - u hi)) = ((T.take (i + 1)).map (tm u)).sum := st.symm
    rw [st']
    exact ⟨trivial, hG _ _ ⟨rfl, _, _, _, _, rfl⟩⟩
  · rintro ρ' h' ⟨rfl, v3, v4, v5, v6, rfl⟩
    rw [List.length_map, List.length_map, List.take_length]
    obtain ⟨hX1, hX⟩ := psum_take hN hb hc hl T.length
    rw [List.take_length] at hX hX1
    rw [halfR_eq] at k
    have hh : (halfR * (T.map (tm u)).sum).den ∣ 2 * N := by
      have : Ov (2 * N) (halfR * (T.map (tm u)).sum) := (Ov.den halfR).mul (Ov.of_dvd hX1)
      exact Ov.dvd (by omega) this
    repeat' array_get_dec
    refine wp_ltimes (x := halfR) (n := 2) ⟨by decide, by decide⟩ hX (by omega) (den_lt (N := 2 * N) (b := b + 1) (by omega) (by rw [Nat.pow_succ]; omega) hh (by omega)) k
end
open NT
/-- a dict by pairs: what stands at each -/
structure DP (rs : List Int) (c : Nat) (kvs : List (List Int × D)) (F : Int → Int → Rat) : Prop where
  nd : (kvs.map (·.1)).Nodup
  key : ∀ z ∈ kvs, ∃ a b, z.1 = [a, b] ∧ a ∈ rs ∧ b ∈ rs ∧ a < b
  at' : ∀ a b, a < b → lk kvs [a, b] = some (.d (fr (F a b))) ∨ (lk kvs [a, b] = none ∧ F a b = 0)
  len : kvs.length ≤ c
theorem DP.nil (rs : List Int) : DP rs 0 [] fun _ _ => 0 := ⟨.nil, fun z h => (nomatch h), fun _ _ _ => .inr ⟨rfl, rfl⟩, Nat.le_refl _⟩
theorem DP.congr {rs : List Int} {c : Nat} {kvs : List (List Int × D)} {F F' : Int → Int → Rat} (h : DP rs c kvs F) (e : ∀ a b, a < b → F a b = F' a b) : DP rs c kvs F' :=
  ⟨h.nd, h.key, fun a b hab => by rw [← e a b hab]; exact h.at' a b hab, h.len⟩
theorem DP.more {rs : List Int} {c c' : Nat} {kvs : List (List Int × D)} {F : Int → Int → Rat} (h : DP rs c kvs F) (e : c ≤ c') : DP rs c' kvs F := ⟨h.nd, h.key, h.at', Nat.le_trans h.len e⟩
theorem DP.put {rs : List Int} {c : Nat} {kvs : List (List Int × D)} {F : Int → Int → Rat} (h : DP rs c kvs F) {a b : Int} (ha : a ∈ rs) (hb : b ∈ rs) (lt : a < b) (q : Rat) : DP rs (c + 1) (stD kvs [a, b] (.d (fr q))) fun x y => if x = a ∧ y = b then q else F x y := by
  refine ⟨nd_st h.nd, fun z hz => ?_, fun x y hxy => ?_, ?_⟩
  · unfold stD at hz
    split at hz
    · obtain ⟨w, hw, rfl⟩ := List.mem_map.1 hz
      split
      · exact h.key w hw
      · exact h.key w hw
    · rcases List.mem_append.1 hz with hz | hz
      · exact h.key z hz
      · rw [List.mem_singleton] at hz
        subst hz
        exact ⟨a, b, rfl, ha, hb, lt⟩
  · rw [lk_st]
    by_cases c : x = a ∧ y = b
    · obtain ⟨rfl, rfl⟩ := c
      rw [if_pos rfl, if_pos ⟨rfl, rfl⟩]
      exact .inl rfl
    · have : ¬ [a, b] = [x, y] := fun e => by
        injection e with e1 e2
        injection e2 with e2 _
        exact c ⟨e1.symm, e2.symm⟩
      rw [if_neg this, if_neg c]
      exact h.at' x y hxy
  · have := h.len
    unfold stD
    split
    · rw [List.length_map]; omega
    · rw [List.length_append, List.length_singleton]; omega
theorem DP.get {rs : List Int} {c : Nat} {kvs : List (List Int × D)} {F : Int → Int → Rat} (h : DP rs c kvs F) {a b : Int} (lt : a < b) : (lk kvs [a, b]).getD (.d (.tuple [.int 0, .int 1])) = .d (fr (F a b)) := by
  rcases h.at' a b lt with e | ⟨e, z⟩
  · rw [e]; rfl
  · rw [e, z]; rfl
theorem DP.noRef {rs : List Int} {c : Nat} {kvs : List (List Int × D)} {F : Int → Int → Rat} (h : DP rs c kvs F) (n : Nat) : noRef n [.dt kvs] = true := by
  unfold V2.noRef
  rw [List.all_cons, List.all_nil, Bool.and_true]
  show kvs.all _ = true
  rw [List.all_eq_true]
  intro z hz
  obtain ⟨a, b, e, _, _, lt⟩ := h.key z hz
  have h1 := lk_own h.nd hz
  rw [e] at h1
  rcases h.at' a b lt with h2 | ⟨h2, _⟩
  · rw [h1] at h2
    rw [Option.some.inj h2]
    rfl
  · rw [h1] at h2
    cases h2
/-- a point's ties, as pairs -/
def nearL (p : Int) (T : List (Int × Int × Rat)) : List (Int × Rat) := (T.filter fun z => decide (z.1 = p) || decide (z.2.1 = p)).map fun z => (z.1 + z.2.1 - p, z.2.2)
theorem near_perm {f : Int → Int → Rat} {ps : List Int} (w : NW f ps) (p : Int) : (nearL p (tl f ps)).Perm ((nb (f p) ps).map fun o => (o, f p o)) := by
  have m := fun z => mem_tl (f := f) (z := z) w.lt
  refine perm_of_mem ?_ ?_ fun z => ?_
  · unfold nearL List.Nodup
    rw [List.pairwise_map]
    refine ((tl_ord w.lt).sublist List.filter_sublist).imp_of_mem fun {s t} hs ht q e => ?_
    have e1 : s.1 + s.2.1 - p = t.1 + t.2.1 - p := congrArg Prod.fst e
    obtain ⟨hs1, hs2⟩ := List.mem_filter.1 hs
    obtain ⟨ht1, ht2⟩ := List.mem_filter.1 ht
    have a := ((m s).1 hs1).2.2.1
    have b := ((m t).1 ht1).2.2.1
    simp only [Bool.or_eq_true, decide_eq_true_iff] at hs2 ht2
    unfold Lx at q
    omega
  · unfold List.Nodup
    rw [List.pairwise_map]
    exact (nb_lt w.lt).imp fun {a b} q e => by
      have : a = b := congrArg Prod.fst e
      omega
  · unfold nearL
    rw [List.mem_map, List.mem_map]
    constructor
    · rintro ⟨t, ht, rfl⟩
      obtain ⟨h1, h2⟩ := List.mem_filter.1 ht
      obtain ⟨m1, m2, m3, m4, m5⟩ := (m t).1 h1
      simp only [Bool.or_eq_true, decide_eq_true_iff] at h2
      rcases h2 with h2 | h2
      · refine ⟨t.2.1, mem_nb.2 ⟨m2, by rw [← h2, m5]; exact m4⟩, ?_⟩
        rw [show t.1 + t.2.1 - p = t.2.1 by omega, ← h2, m5]
      · refine ⟨t.1, mem_nb.2 ⟨m1, by rw [← h2, w.sy, m5]; exact m4⟩, ?_⟩
        rw [show t.1 + t.2.1 - p = t.1 by omega, ← h2, w.sy, m5]
    · rintro ⟨o, ho, rfl⟩
      obtain ⟨h1, h2⟩ := mem_nb.1 ho
      obtain ⟨k1, k2, k3⟩ := w.on p o h2
      rcases Int.lt_or_gt_of_ne k3 with c | c
      · refine ⟨(p, o, f p o), List.mem_filter.2 ⟨(m _).2 ⟨k1, k2, c, h2, rfl⟩, by simp⟩, ?_⟩
        show (p + o - p, _) = _
        rw [show p + o - p = o by omega]
      · refine ⟨(o, p, f p o), List.mem_filter.2 ⟨(m _).2 ⟨k2, k1, c, h2, w.sy _ _⟩, by simp⟩, ?_⟩
        show (o + p - p, _) = _
        rw [show o + p - p = o by omega]
open NT
/-- the points but one -/
def oth (p : Int) (ps : List Int) : List Int := ps.filter fun q => decide (q ≠ p)
theorem mem_oth {p q : Int} {ps : List Int} : q ∈ oth p ps ↔ q ∈ ps ∧ q ≠ p := by
  unfold oth
  rw [List.mem_filter, decide_eq_true_iff]
theorem oth_lt {p : Int} {ps : List Int} (h : ps.Pairwise (· < ·)) : (oth p ps).Pairwise (· < ·) := h.sublist List.filter_sublist
theorem oth_perm {p : Int} {ps : List Int} (h : ps.Pairwise (· < ·)) (hp : p ∈ ps) : ps.Perm (p :: oth p ps) := by
  refine perm_of_mem (lt_nodup h) (List.nodup_cons.2 ⟨fun z => (mem_oth.1 z).2 rfl, lt_nodup (oth_lt h)⟩) fun q => ?_
  rw [List.mem_cons, mem_oth]
  by_cases c : q = p
  · simp [c, hp]
  · simp [c]
theorem oth_len {p : Int} {ps : List Int} (h : ps.Pairwise (· < ·)) (hp : p ∈ ps) (hl : ps.length ≤ 7) : (oth p ps).length ≤ 6 := by
  have := (oth_perm h hp).length_eq
  rw [List.length_cons] at this
  omega
theorem nb_sum {w : Int → Rat} (g : Int → Rat → Rat) (g0 : ∀ a, g a 0 = 0) : ∀ ps : List Int, ((nb w ps).map fun a => g a (w a)).sum = (ps.map fun a => g a (w a)).sum
  | [] => rfl
  | a :: t => by
    unfold nb
    rw [List.filter_cons]
    by_cases c : w a = 0
    · rw [if_neg (by simp [c])]
      have := nb_sum (w := w) g g0 t
      unfold nb at this
      rw [this, List.map_cons, List.sum_cons, c, g0, Rat.zero_add]
    · rw [if_pos (by simp [c]), List.map_cons, List.sum_cons, List.map_cons, List.sum_cons]
      have := nb_sum (w := w) g g0 t
      unfold nb at this
      rw [this]
section
variable {f : Int → Int → Rat} {ps : List Int} {p : Int} {u : Int → Rat}
/-! bottoms -/
def dF (f : Int → Int → Rat) (a b : Int) : Nat := (f a b).den
/-- the bottoms of a point's ties -/
def Bb (f : Int → Int → Rat) (p : Int) (ps : List Int) : Nat := prd ((oth p ps).map (dF f p))
def Ww (f : Int → Int → Rat) (p : Int) (ps : List Int) : Nat := Bb f p ps * pp (dF f) (oth p ps)
def Dd (u : Int → Rat) (p : Int) (ps : List Int) : Nat := prd ((oth p ps).map fun q => (u q).den)
theorem prd_le {k n : Nat} {l : List Nat} (h : ∀ x ∈ l, x ≤ 2 ^ k) (hl : l.length ≤ n) : prd l ≤ 2 ^ (k * n) :=
  Nat.le_trans (prd_lt h) (Nat.pow_le_pow_right (by decide) (Nat.mul_le_mul_left _ hl))
theorem Bb_ne (f : Int → Int → Rat) (p : Int) (ps : List Int) : Bb f p ps ≠ 0 := prd_pos fun x hx => by
  obtain ⟨b, _, rfl⟩ := List.mem_map.1 hx
  exact (f p b).den_nz
theorem Dd_ne (u : Int → Rat) (p : Int) (ps : List Int) : Dd u p ps ≠ 0 := prd_pos fun x hx => by
  obtain ⟨b, _, rfl⟩ := List.mem_map.1 hx
  exact (u b).den_nz
theorem Ww_ne (f : Int → Int → Rat) (p : Int) (ps : List Int) : Ww f p ps ≠ 0 := Nat.mul_ne_zero (Bb_ne _ _ _) (pp_pos (fun a b => (f a b).den_nz) _)
theorem Bb_le (w : NW f ps) (hp : p ∈ ps) (sz : ∀ a b, W2 (f a b)) : Bb f p ps ≤ 2 ^ 600 := prd_le (k := 100) (n := 6) (fun x hx => by
  obtain ⟨b, _, rfl⟩ := List.mem_map.1 hx
  exact Nat.le_of_lt (sz p b).2) (by rw [List.length_map]; exact oth_len w.lt hp w.len)
theorem Dd_le (w : NW f ps) (hp : p ∈ ps) (sz : ∀ q, W2 (u q)) : Dd u p ps ≤ 2 ^ 600 := prd_le (k := 100) (n := 6) (fun x hx => by
  obtain ⟨b, _, rfl⟩ := List.mem_map.1 hx
  exact Nat.le_of_lt (sz b).2) (by rw [List.length_map]; exact oth_len w.lt hp w.len)
theorem Ww_le (w : NW f ps) (hp : p ∈ ps) (sz : ∀ a b, W2 (f a b)) : Ww f p ps ≤ 2 ^ 600 * 2 ^ 1500 := by
  refine Nat.mul_le_mul (Bb_le w hp sz) (Nat.le_trans (pp_lt (k := 100) (fun a b => Nat.le_of_lt (sz a b).2) _) (Nat.pow_le_pow_right (by decide) ?_))
  have := tri_mono (oth_len w.lt hp w.len)
  have : tri 6 = 15 := rfl
  omega
theorem Ov.Bb {b : Int} (hb : b ∈ oth p ps) : Ov (Bb f p ps) (f p b) := (Ov.den _).up (dvd_prd (List.mem_map.2 ⟨b, hb, rfl⟩))
theorem Ov.Dd {b : Int} (hb : b ∈ oth p ps) : Ov (Dd u p ps) (u b) := (Ov.den _).up (dvd_prd (List.mem_map.2 ⟨b, hb, rfl⟩))
/-- each weight is over the bottom of all -/
theorem Ov.Ww (w : NW f ps) {a b : Int} (ha : a ∈ ps) (hb : b ∈ ps) (ne : a ≠ b) : Ov (Ww f p ps) (f a b) := by
  by_cases c : a = p
  · subst c
    exact (Ov.Bb (mem_oth.2 ⟨hb, fun e => ne e.symm⟩)).up (Nat.dvd_mul_right _ _)
  · by_cases d : b = p
    · subst d
      rw [w.sy]
      exact (Ov.Bb (mem_oth.2 ⟨ha, c⟩)).up (Nat.dvd_mul_right _ _)
    · refine (Ov.den _).up (Nat.dvd_trans ?_ (Nat.dvd_mul_left _ _))
      exact dvd_pp (g := dF f) (fun a b => by unfold dF; rw [w.sy]) ne (mem_oth.2 ⟨ha, c⟩) (mem_oth.2 ⟨hb, d⟩)
theorem full_dvd (w : NW f ps) (v : Rat) : ∀ z ∈ tl f ps, Ov (Ww f p ps * ((Dd u p ps * v.den) * (Dd u p ps * v.den))) (tm (fun q => if q = p then v else u q) z) := fun z hz => by
  obtain ⟨m1, m2, m3, m4, m5⟩ := (mem_tl w.lt).1 hz
  have ne : z.1 ≠ z.2.1 := by omega
  have one : ∀ {q : Int}, q ∈ ps → Ov (Dd u p ps * v.den) (if q = p then v else u q) := fun {q} hq => by
    by_cases c : q = p
    · rw [if_pos c]
      exact (Ov.den v).up (Nat.dvd_mul_left _ _)
    · rw [if_neg c]
      exact (Ov.Dd (mem_oth.2 ⟨hq, c⟩)).up (Nat.dvd_mul_right _ _)
  have g := (one m1).sub (one m2)
  unfold tm
  rw [← m5]
  exact (Ov.Ww w m1 m2 ne).mul (g.mul g)
end
open NT
theorem wide_int {i : Int} {n : Nat} (h0 : 0 < n) (h : i.natAbs < 2 ^ n) (hn : n ≤ 12900) : wideB (.int i) = true := by
  simp only [wideB]
  exact decide_eq_true (by have := log2_lt h0 h; omega)
theorem fr_show {q : Rat} {n : Nat} (h0 : 0 < n) (hn : n ≤ 12000) (s : Sz n q) : wideAll [.int q.num, .int q.den] = true ∧ (fr q).depth < 60 ∧ (fr q).shown.length ≤ sizeLine := by
  refine ⟨?_, by show 1 < 60; decide, ?_⟩
  · simp only [wideAll, wide_int h0 s.1 (by omega), wide_int (i := (q.den : Int)) h0 s.2 (by omega), Bool.and_self]
  · have b := PyData.shown_le_bulk 12001 (by decide) (fr q) (by
      have := fr_leaves (q := q) (n := 12000) (by decide) (s.mono hn)
      exact this)
    have e : (fr q).bulk ≤ 20 := by simp only [PyData.bulk, PyData.bulkAll]; decide
    have sz : sizeLine = 2 ^ 24 := rfl
    have := Nat.mul_le_mul_left (12001 + 2) e
    omega
theorem bulk_map {α : Type} {g : α → PyData} {c : Nat} : ∀ {l : List α}, (∀ a ∈ l, (g a).bulk ≤ c) → PyData.bulkAll (l.map g) ≤ l.length * (c + 1)
  | [], _ => Nat.zero_le _
  | a :: l, h => by
    have ih := bulk_map (l := l) fun b hb => h b (List.mem_cons_of_mem _ hb)
    have ha := h a (List.mem_cons_self ..)
    rw [List.map_cons, List.length_cons]
    simp only [PyData.bulkAll]
    rw [Nat.add_mul]
    omega
theorem leaves_map {α : Type} {g : α → PyData} {c : Nat} : ∀ {l : List α}, (∀ a ∈ l, PyData.leavesShort c (g a) = true) → PyData.leavesShortAll c (l.map g) = true
  | [], _ => rfl
  | a :: l, h => by
    rw [List.map_cons]
    simp only [PyData.leavesShortAll, h a (List.mem_cons_self ..), leaves_map fun b hb => h b (List.mem_cons_of_mem _ hb), Bool.and_self]
theorem wide_map {α : Type} {g : α → PyData} : ∀ {l : List α}, (∀ a ∈ l, wideB (g a) = true) → wideAll (l.map g) = true
  | [], _ => rfl
  | a :: l, h => by
    rw [List.map_cons]
    simp only [wideAll, h a (List.mem_cons_self ..), wide_map fun b hb => h b (List.mem_cons_of_mem _ hb), Bool.and_self]
theorem depth_map {α : Type} {g : α → PyData} {c : Nat} : ∀ {l : List α}, (∀ a ∈ l, (g a).depth ≤ c) → PyData.depthAll (l.map g) ≤ c
  | [], _ => Nat.zero_le _
  | a :: l, h => by
    have ih := depth_map (l := l) fun b hb => h b (List.mem_cons_of_mem _ hb)
    have ha := h a (List.mem_cons_self ..)
    rw [List.map_cons]
    simp only [PyData.depthAll]
    omega
theorem net_show {rs : List Int} {T : List (Int × Int × Rat)} (hi : ∀ q ∈ rs, q.natAbs < 2 ^ 60) (ht : ∀ z ∈ T, z.1.natAbs < 2 ^ 60 ∧ z.2.1.natAbs < 2 ^ 60 ∧ Sz 1200 z.2.2) (l1 : rs.length ≤ 7) (l2 : T.length ≤ 32) :
    wideAll [.tuple (rs.map PyData.int), .tuple (T.map tieD)] = true ∧ (netD rs T).depth < 60 ∧ (netD rs T).shown.length ≤ sizeLine := by
  have li : ∀ {i : Int}, i.natAbs < 2 ^ 60 → PyData.leavesShort 1201 (.int i) = true := fun {i} h => by
    simp only [PyData.leavesShort, decide_eq_true_eq]
    have := shown_int_len (n := 60) (by decide) h
    omega
  refine ⟨?_, ?_, ?_⟩
  · have a : wideAll (rs.map PyData.int) = true := wide_map fun q hq => wide_int (by decide) (hi q hq) (by decide)
    have b : wideAll (T.map tieD) = true := wide_map fun z hz => by
      obtain ⟨h1, h2, h3⟩ := ht z hz
      simp only [wideB, wideAll]
      have e1 := wide_int (by decide) h1 (by decide)
      have e2 := wide_int (by decide) h2 (by decide)
      have e3 := wide_int (by decide) h3.1 (by decide)
      have e4 := wide_int (i := (z.2.2.den : Int)) (by decide) h3.2 (by decide)
      simp only [wideB] at e1 e2 e3 e4
      simp only [e1, e2, e3, e4, Bool.and_self]
    simp only [wideAll, wideB, a, b, Bool.and_self]
  · have a : PyData.depthAll (rs.map PyData.int) ≤ 3 := depth_map fun q hq => by simp [PyData.depth]
    have b : PyData.depthAll (T.map tieD) ≤ 3 := depth_map fun q hq => by simp [PyData.depth, PyData.depthAll]
    simp only [PyData.depth, PyData.depthAll]
    omega
  · have c1 : PyData.leavesShortAll 1201 (rs.map PyData.int) = true := leaves_map fun q hq => li (hi q hq)
    have c2 : PyData.leavesShortAll 1201 (T.map tieD) = true := leaves_map fun z hz => by
      obtain ⟨h1, h2, h3⟩ := ht z hz
      have e3 := fr_leaves (q := z.2.2) (n := 1200) (by decide) h3
      have e1 := li h1
      have e2 := li h2
      simp only [PyData.leavesShort, PyData.leavesShortAll] at e1 e2 e3 ⊢
      simp only [e1, e2, e3, Bool.and_self]
    have b := PyData.shown_le_bulk 1201 (by decide) (netD rs T) (by
      simp only [PyData.leavesShort, PyData.leavesShortAll, c1, c2, Bool.and_self])
    have b1 := bulk_map (g := PyData.int) (c := 20) (l := rs) fun q hq => by simp only [PyData.bulk]; decide
    have b2 := bulk_map (g := tieD) (c := 40) (l := T) fun q hq => by simp only [PyData.bulk, PyData.bulkAll]; decide
    have e : (netD rs T).bulk ≤ 2000 := by
      have q1 := Nat.mul_le_mul_right 21 l1
      have q2 := Nat.mul_le_mul_right 41 l2
      simp only [PyData.bulk, PyData.bulkAll]
      omega
    have sz : sizeLine = 2 ^ 24 := rfl
    have := Nat.mul_le_mul_left (1201 + 2) e
    omega
section
variable {f : Int → Int → Rat} {ps : List Int} {p : Int} {u : Int → Rat} {P : Rat}
theorem Bb_lt (w : NW f ps) (hp : p ∈ ps) (sz : ∀ a b, W2 (f a b)) : Bb f p ps < 2 ^ 601 := Nat.lt_of_le_of_lt (Bb_le w hp sz) (Nat.pow_lt_pow_right (by decide) (by decide))
theorem tl_le {g : Int → Int → Rat} {l : List Int} (hl : l.length ≤ 7) : (tl g l).length ≤ 21 := by
  have h1 := tl_len (f := g) l
  have : l.length = 0 ∨ l.length = 1 ∨ l.length = 2 ∨ l.length = 3 ∨ l.length = 4 ∨ l.length = 5 ∨ l.length = 6 ∨ l.length = 7 := by omega
  rcases this with e | e | e | e | e | e | e | e <;> rw [e] at h1 <;> omega
end
open NT
/-- all places named in the rest are there -/
def NFR (R : Ho) : Prop := ∀ n, R.length + 2 ≤ n → noRef n R = true
theorem NFR.nf {R h : Ho} (d : Deal R h) (r : NFR R) : NF h := by
  obtain ⟨cs, m, rfl, _⟩ := d.is
  intro n hn
  have hn : R.length + 2 ≤ n := hn
  have h1 := r n hn
  unfold noRef at *
  rw [List.all_cons, List.all_cons, h1, Bool.and_true]
  have c : (cs.map cell).all (noRefD n) = true := by
    rw [List.all_map, List.all_eq_true]
    intro x _
    rfl
  show ((cs.map cell).all (noRefD n) && ([D.loc 0, cell m].all (noRefD n))) = true
  rw [c, Bool.true_and]
  show ((0 != n) && (true && true)) = true
  simp
  omega
theorem NFR.of {R h : Ho} (d : Deal R h) (r : NF h) : NFR R := by
  obtain ⟨cs, m, rfl, _⟩ := d.is
  intro n hn
  have h1 := r n hn
  unfold noRef at *
  rw [List.all_cons, List.all_cons, Bool.and_eq_true, Bool.and_eq_true] at h1
  exact h1.2.2
theorem NFR.app {R : Ho} (r : NFR R) {o : O} (h : ∀ n, noRef n [o] = true) : NFR (R ++ [o]) := fun n hn => by
  have h1 := r n (by rw [List.length_append] at hn; omega)
  have h2 := h n
  unfold noRef at *
  rw [List.all_append, h1, h2]
  rfl
theorem NFR.set {R : Ho} (r : NFR R) {i : Nat} {o : O} (h : ∀ n, noRef n [o] = true) : NFR (R.set i o) := fun n hn => by
  rw [List.length_set] at hn
  have h1 := r n hn
  have h2 := h n
  unfold noRef at *
  rw [List.all_eq_true] at *
  intro x hx
  rcases List.mem_or_eq_of_mem_set hx with hx | rfl
  · exact h1 x hx
  · exact h2 _ (List.mem_singleton.2 rfl)
theorem deal_app' {R h j : Ho} (d : Deal R h) : Deal (R ++ j) (h ++ j) := by
  obtain ⟨cs, mix, rfl, h1, h2, h3, h4⟩ := d.is
  exact ⟨cs, mix, rfl, h1, h2, h3, h4⟩
/-- known worths -/
structure KN (ps : List Int) (kvs : List (Int × D)) (u : Int → Rat) : Prop where
  at' : ∀ q ∈ ps, lk kvs q = some (.d (fr (u q)))
  dat : ∀ z ∈ kvs, ∃ d, z.2 = .d d
  len : kvs.length ≤ 20
theorem st_dat {kvs : List (Int × D)} {k : Int} {d : PyData} (h : ∀ z ∈ kvs, ∃ d, z.2 = .d d) : ∀ z ∈ stD kvs k (.d d), ∃ d, z.2 = D.d d := fun z hz => by
  unfold stD at hz
  split at hz
  · obtain ⟨y, hy, rfl⟩ := List.mem_map.1 hz
    split
    · exact ⟨_, rfl⟩
    · exact h y hy
  · rcases List.mem_append.1 hz with hz | hz
    · exact h z hz
    · rw [List.mem_singleton] at hz
      exact ⟨_, by rw [hz]⟩
theorem st_len {kvs : List (Int × D)} {k : Int} {x : D} : (stD kvs k x).length ≤ kvs.length + 1 := by
  unfold stD
  split
  · rw [List.length_map]; omega
  · rw [List.length_append, List.length_singleton]; omega
theorem mg_dat : ∀ (ls : List (Int × PyData)) (acc : List (Int × D)), (∀ z ∈ acc, ∃ d, z.2 = .d d) → (∀ z ∈ mgD acc ls, ∃ d, z.2 = D.d d) ∧ (mgD acc ls).length ≤ acc.length + ls.length
  | [], acc, h => ⟨h, Nat.le_refl _⟩
  | l :: ls, acc, h => by
    obtain ⟨h1, h2⟩ := mg_dat ls (stD acc l.1 (.d l.2)) (st_dat h)
    refine ⟨h1, ?_⟩
    have := st_len (kvs := acc) (k := l.1) (x := .d l.2)
    show (mgD (stD acc l.1 (.d l.2)) ls).length ≤ _
    rw [List.length_cons]
    omega
theorem noRef_di {kvs : List (Int × D)} (h : ∀ z ∈ kvs, ∃ d, z.2 = .d d) (n : Nat) : noRef n [.di kvs] = true := by
  unfold noRef
  rw [List.all_cons, List.all_nil, Bool.and_true]
  show kvs.all _ = true
  rw [List.all_eq_true]
  intro z hz
  obtain ⟨d, e⟩ := h z hz
  rw [e]
  rfl
theorem KN.mg {ps : List Int} (hl : ps.length ≤ 7) (u : Int → Rat) : KN ps (mgD [] (ps.map fun q => (q, fr (u q)))) u := by
  obtain ⟨h1, h2⟩ := mg_dat (ps.map fun q => (q, fr (u q))) [] fun z hz => (nomatch hz)
  rw [List.length_map] at h2
  exact ⟨fun q hq => by rw [lk_mg, if_pos hq], h1, by simp at h2; omega⟩
theorem KN.put {ps : List Int} {kvs : List (Int × D)} {u : Int → Rat} (k : KN ps kvs u) {p : Int} (hp : p ∈ ps) (v : Rat) : KN ps (stD kvs p (.d (fr v))) fun q => if q = p then v else u q := by
  refine ⟨fun q hq => ?_, st_dat k.dat, ?_⟩
  · rw [lk_st]
    by_cases c : p = q
    · rw [if_pos c, if_pos c.symm]
    · rw [if_neg c, if_neg fun e => c e.symm]
      exact k.at' q hq
  · unfold stD
    rw [lk_any, k.at' p hp]
    show (if true = true then _ else _ : List (Int × D)).length ≤ 20
    rw [if_pos rfl, List.length_map]
    exact k.len
open NT
theorem Fra.trans {h0 h1 h2 : Ho} (a : Fra h0 h1) (b : Fra h1 h2) : Fra h0 h2 := by
  obtain ⟨T, rfl, k1⟩ := a
  obtain ⟨T', rfl, k2⟩ := b
  refine ⟨T ++ T', by rw [List.append_assoc], fun n hn => ?_⟩
  have h1 := k1 n (by rw [List.length_append] at hn; omega)
  have h2 := k2 n hn
  unfold noRef at *
  rw [List.all_append, h1, h2]
  rfl
theorem deal_unsnoc {R h : Ho} {o : O} (d : Deal (R ++ [o]) h) : ∃ hh, h = hh ++ [o] ∧ Deal R hh := by
  obtain ⟨cs, mix, rfl, h1, h2, h3, h4⟩ := d.is
  exact ⟨.lst (cs.map cell) :: .lst [.loc 0, cell mix] :: R, rfl, cs, mix, rfl, h1, h2, h3, h4⟩
def pureInt : PyData → Bool
  | .int _ => true
  | _ => false
theorem pureInt_eq (p : PyData) : (isInt p && !isBool p) = pureInt p := by cases p <;> rfl
def frOK : PyData → Bool
  | .tuple [.int a, .int b] => decide (0 < b) && decide (Nat.gcd a.natAbs b.natAbs = 1)
  | _ => false
def tup2 : PyData → Bool
  | .tuple [_, _] => true
  | _ => false
def two : PyData → Bool
  | .tuple [x, y] => pureInt x && pureInt y
  | _ => false
def fault : PyData → PyData
  | .tuple [.int a, .int b] => if b ≤ 0 then .int 1 else if Nat.gcd a.natAbs b.natAbs = 1 then .none else .int 0
  | _ => .int (-1)
section
variable {p : PyData} {h : Ho} {Q : KD} {E : XD}
theorem wp_is_int (k : Q (.d (.bool (pureInt p))) h) : M_is_int [.d p] h Q E := by
  rw [← pureInt_eq] at k
  refine i_mir rfl (by repeat constructor) (by repeat constructor) ?_
  unfold B_is_int
  repeat' array_get_dec
  refine i_isiD (by repeat constructor) (kit_int p) ?_
  repeat' array_get_dec
  refine i_ite (fun c => ?_) (fun c => ?_)
  · rw [c, Bool.true_and] at k
    exact ⟨isBool p, kit_bool p, k⟩
  · rw [c] at k
    exact k
theorem wp_is_tuple (k : Q (.d (.bool (tup2 p))) h) : M_is_tuple_of [.d p, .d (.int 2)] h Q E := by
  refine i_mir rfl (by repeat constructor) (by repeat constructor) ?_
  unfold B_is_tuple_of
  repeat' array_get_dec
  refine i_isiD (by repeat constructor) (kit_tup p) ?_
  repeat' array_get_dec
  cases p with
  | tuple xs =>
    refine i_ifT rfl ?_
    repeat' array_get_dec
    match xs, k with
    | [], k => exact k
    | [_], k => exact k
    | [_, _], k => exact k
    | x1 :: x2 :: x3 :: l, k =>
      have e : decide ((((List.map D.d (x1 :: x2 :: x3 :: l)).length : Nat) : Int) = 2) = false := decide_eq_false (by simp only [List.length_map, List.length_cons]; omega)
      rw [e]
      exact k
  | none => exact i_ifF rfl k
  | bool _ => exact i_ifF rfl k
  | int _ => exact i_ifF rfl k
  | str _ => exact i_ifF rfl k
  | list _ => exact i_ifF rfl k
  | dict _ => exact i_ifF rfl k
theorem tup2_of (c : tup2 p = true) : ∃ x y, p = .tuple [x, y] := by
  match p, c with
  | .tuple [x, y], _ => exact ⟨x, y, rfl⟩
theorem two_of (c : two p = true) : ∃ a b, p = .tuple [.int a, .int b] := by
  unfold two at c
  split at c
  · rename_i x y
    rw [Bool.and_eq_true_iff] at c
    cases x with
    | int a =>
      cases y with
      | int b => exact ⟨a, b, rfl⟩
      | _ => cases c.2
    | _ => cases c.1
  · cases c
theorem two_f (c : tup2 p = false) : two p = false := by
  cases e : two p with
  | false => rfl
  | true =>
    obtain ⟨a, b, rfl⟩ := two_of e
    cases c
theorem wp_are_ints (k : Q (.d (.bool (two p))) h) : M_are_ints [.d p, .d (.int 2)] h Q E := by
  refine i_mir rfl (by repeat constructor) (by repeat constructor) ?_
  unfold B_are_ints
  repeat' array_get_dec
  refine wp_is_tuple ?_
  repeat' array_get_dec
  refine i_ite (fun c => ?_) (fun c => ?_)
  · obtain ⟨x, y, rfl⟩ := tup2_of c
    repeat' array_get_dec
    refine i_lcv ?_
    refine i_iseq (by repeat constructor) rfl ?_
    refine lcv_ind (hb := h) (fun k acc => acc = (([x, y].take k).map fun z => PyData.bool (pureInt z)).map D.d) stay_d ?_ ?_ rfl
    · rintro i z acc ez rfl
      rw [List.getElem?_map, Option.map_eq_some_iff] at ez
      obtain ⟨z, e1, rfl⟩ := ez
      have hi : i < 2 := (List.getElem?_eq_some_iff.1 e1).1
      refine ⟨_, true, rfl, fun P q => q, fun _ => ⟨.d (.bool (pureInt z)), fun P q => ?_, ?_, ?_⟩, fun e => by cases e⟩
      · show fFn _ _ [_, _, some (.d z)] _ _ _
        repeat' array_get_dec
        exact wp_is_int q
      · have : sizeLine = 2 ^ 24 := rfl
        simp only [List.length_map, List.length_take]
        omega
      · rw [List.take_succ, e1]
        simp
    · rintro acc rfl
      refine ⟨[.bool (pureInt x), .bool (pureInt y)], .cons (.cons .nil), ?_⟩
      repeat' array_get_dec
      refine i_allB (bs := [pureInt x, pureInt y]) rfl ?_
      have e : [pureInt x, pureInt y].all id = two (.tuple [x, y]) := by simp [two]
      rw [e]
      exact k
  · rw [two_f c] at k
    exact k
theorem fault_f (c : two p = false) : fault p = .int (-1) := by
  unfold fault
  split
  · cases c
  · rfl
theorem wp_fault (k : Q (.d (fault p)) h) : M__fault_of [.d p] h Q E := by
  refine i_mir rfl (by repeat constructor) (by repeat constructor) ?_
  unfold B__fault_of
  repeat' array_get_dec
  refine wp_are_ints ?_
  repeat' array_get_dec
  by_cases c : two p = true
  · obtain ⟨a, b, rfl⟩ := two_of c
    refine i_ifF (by rw [c]; rfl) ?_
    repeat' array_get_dec
    unfold fault at k
    simp only at k
    refine i_ite (fun c1 => ?_) (fun c1 => ?_)
    · have c1 : b ≤ 0 := of_decide_eq_true c1
      rw [if_pos c1] at k
      repeat' array_get_dec
      exact k
    · have c1 : ¬ b ≤ 0 := of_decide_eq_false c1
      rw [if_neg c1] at k
      repeat' array_get_dec
      by_cases c2 : Nat.gcd a.natAbs b.natAbs = 1
      · rw [if_pos c2] at k
        refine i_ifF (by rw [c2]; rfl) ?_
        repeat' array_get_dec
        exact k
      · rw [if_neg c2] at k
        refine i_ifT (by rw [decide_eq_false (by omega)]; rfl) ?_
        repeat' array_get_dec
        exact k
  · have c : two p = false := by simpa using c
    rw [fault_f c] at k
    refine i_ifT (by rw [c]; rfl) ?_
    repeat' array_get_dec
    exact k
theorem fault_ok (p : PyData) : isNon (.d (fault p)) = frOK p := by
  unfold fault frOK
  split
  · rename_i a b
    by_cases c : b ≤ 0
    · rw [if_pos c, decide_eq_false (by omega)]; rfl
    · rw [if_neg c, decide_eq_true (by omega), Bool.true_and]
      by_cases c2 : Nat.gcd a.natAbs b.natAbs = 1
      · rw [if_pos c2, decide_eq_true c2]; rfl
      · rw [if_neg c2, decide_eq_false c2]; rfl
  · rfl
theorem wp_is_fraction (k : Q (.d (.bool (frOK p))) h) : M_is_fraction [.d p] h Q E := by
  rw [← fault_ok] at k
  refine i_mir rfl (by repeat constructor) (by repeat constructor) ?_
  unfold B_is_fraction
  repeat' array_get_dec
  refine wp_fault ?_
  exact k
end
/-! what is a network, plainly -/
def numsB : Int → List PyData → Bool
  | _, [] => true
  | least, .int i :: ps => decide (least ≤ i) && numsB (i + 1) ps
  | _, _ => false
def intsL : List PyData → List Int
  | [] => []
  | .int i :: ps => i :: intsL ps
  | _ :: ps => intsL ps
def wtB : PyData → Bool
  | .tuple [.int x, .int y] => decide (0 < y) && (decide (x ≠ 0) && decide (Nat.gcd x.natAbs y.natAbs = 1))
  | _ => false
def okT (is : List Int) (a b : Int) (w : PyData) : Bool := decide (a < b) && (decide (a ∈ is) && (decide (b ∈ is) && wtB w))
def tiesB (is : List Int) : Int → Int → List PyData → Bool
  | _, _, [] => true
  | x, y, .tuple [.int a, .int b, w] :: ts => okT is a b w && (!decide (a < x ∨ (a = x ∧ b ≤ y)) && tiesB is a b ts)
  | _, _, _ => false
def netB : PyData → Bool
  | .tuple [.tuple ps, .tuple ts] => numsB 0 ps && tiesB (intsL ps) (-1) (-1) ts
  | _ => false
theorem numsB_ints : ∀ {ps : List PyData} {l : Int}, 0 ≤ l → numsB l ps = true → ps = (intsL ps).map PyData.int ∧ ∀ i ∈ intsL ps, l ≤ i
  | [], l, _, _ => ⟨rfl, fun i hi => (nomatch hi)⟩
  | .int j :: ps, l, h0, h => by
    unfold numsB at h
    rw [Bool.and_eq_true, decide_eq_true_iff] at h
    obtain ⟨e, ih⟩ := numsB_ints (by omega) h.2
    refine ⟨by unfold intsL; rw [List.map_cons, ← e], fun i hi => ?_⟩
    unfold intsL at hi
    rcases List.mem_cons.1 hi with rfl | hi
    · exact h.1
    · have := ih i hi
      omega
  | .none :: _, _, _, h => by cases h
  | .bool _ :: _, _, _, h => by cases h
  | .str _ :: _, _, _, h => by cases h
  | .list _ :: _, _, _, h => by cases h
  | .tuple _ :: _, _, _, h => by cases h
  | .dict _ :: _, _, _, h => by cases h
def numP : PyData → Bool
  | .int i => decide (0 ≤ i)
  | _ => false
def tupN (n : Nat) : PyData → Bool
  | .tuple xs => decide (xs.length = n)
  | _ => false
theorem inV_ints (a : Int) : ∀ is : List Int, inV (V.int a) (((is.map PyData.int).map D.d).map valD) = decide (a ∈ is)
  | [] => by simp [inV]
  | i :: is => by
    have ih := inV_ints a is
    unfold inV at *
    rw [List.map_cons, List.map_cons, List.map_cons, List.any_cons, ih]
    have e : eqV (valD (D.d (.int i))) (V.int a) = decide (i = a) := rfl
    rw [e]
    by_cases c : i = a
    · simp [c]
    · have : ¬ a = i := fun e => c e.symm
      simp [c, this]
theorem flat_ints : ∀ is : List Int, ((is.map PyData.int).map D.d).all flatD = true := fun is => by
  rw [List.all_map, List.all_map, List.all_eq_true]
  intro x _
  rfl
theorem i_inI {a : Int} {is : List Int} {h : Ho} {Q : KD} (k : Q (.d (.bool (decide (a ∈ is)))) h) : rInD false (.d (.int a)) (.d (.tuple (is.map PyData.int))) h Q := by
  show flatD _ = true ∧ _ ∧ _
  refine ⟨rfl, flat_ints is, ?_⟩
  show Q (.d (.bool (inV (V.int a) _))) h
  rw [inV_ints]
  exact k
theorem i_ninI {a : Int} {is : List Int} {h : Ho} {Q : KD} (k : Q (.d (.bool (!decide (a ∈ is)))) h) : rInD true (.d (.int a)) (.d (.tuple (is.map PyData.int))) h Q := by
  show flatD _ = true ∧ _ ∧ _
  refine ⟨rfl, flat_ints is, ?_⟩
  show Q (.d (.bool (!inV (V.int a) _))) h
  rw [inV_ints]
  exact k
theorem frOK_fr {w : PyData} (h : frOK w = true) : ∃ q : Rat, w = fr q := by
  unfold frOK at h
  split at h
  · rename_i a b
    rw [Bool.and_eq_true, decide_eq_true_iff, decide_eq_true_iff] at h
    have e : b.toNat = b.natAbs := by omega
    refine ⟨⟨a, b.toNat, by omega, by unfold Nat.Coprime; rw [e]; exact h.2⟩, ?_⟩
    show PyData.tuple [.int a, .int b] = .tuple [.int a, .int ((b.toNat : Nat) : Int)]
    rw [Int.toNat_of_nonneg (by omega)]
  · cases h
theorem wtB_fr (q : Rat) : wtB (fr q) = !decide (q = 0) := by
  show (decide (0 < ((q.den : Nat) : Int)) && (decide (q.num ≠ 0) && decide (Nat.gcd q.num.natAbs ((q.den : Nat) : Int).natAbs = 1))) = _
  have h1 : 0 < ((q.den : Nat) : Int) := by have := q.den_nz; omega
  have h2 : Nat.gcd q.num.natAbs ((q.den : Nat) : Int).natAbs = 1 := q.reduced
  rw [decide_eq_true h1, decide_eq_true h2, Bool.true_and, Bool.and_true]
  by_cases c : q = 0
  · rw [c]; rfl
  · have : q.num ≠ 0 := fun e => c (Rat.num_eq_zero.1 e)
    rw [decide_eq_true this, decide_eq_false c]
    rfl
theorem wtB_no {w : PyData} (h : frOK w = false) : wtB w = false := by
  unfold wtB
  split
  · rename_i x y
    have h : (decide (0 < y) && decide (Nat.gcd x.natAbs y.natAbs = 1)) = false := h
    cases c : decide (0 < y) with
    | false => rfl
    | true =>
      rw [c, Bool.true_and] at h
      rw [h, Bool.and_false]
      rfl
  · rfl
section
variable {p : PyData} {h : Ho} {Q : KD} {E : XD}
theorem wp_tupN {n : Nat} (k : Q (.d (.bool (tupN n p))) h) : M_is_tuple_of [.d p, .d (.int (n : Nat))] h Q E := by
  refine i_mir rfl (by repeat constructor) (by repeat constructor) ?_
  unfold B_is_tuple_of
  repeat' array_get_dec
  refine i_isiD (by repeat constructor) (kit_tup p) ?_
  repeat' array_get_dec
  cases p with
  | tuple xs =>
    refine i_ifT rfl ?_
    repeat' array_get_dec
    have e : decide ((((List.map D.d xs).length : Nat) : Int) = (n : Nat)) = decide (xs.length = n) := by
      rw [List.length_map]
      exact decide_eq_decide.2 ⟨fun h => by omega, fun h => by omega⟩
    rw [e]
    exact k
  | none => exact i_ifF rfl k
  | bool _ => exact i_ifF rfl k
  | int _ => exact i_ifF rfl k
  | str _ => exact i_ifF rfl k
  | list _ => exact i_ifF rfl k
  | dict _ => exact i_ifF rfl k
theorem wp_numbers (k : Q (.d (.bool (match p with | .tuple ps => numsB 0 ps | _ => false))) h) : M_are_numbers [.d p] h Q E := by
  refine i_mir rfl (by repeat constructor) (by repeat constructor) ?_
  unfold B_are_numbers
  repeat' array_get_dec
  refine i_isiD (by repeat constructor) (kit_tup p) ?_
  repeat' array_get_dec
  cases p with
  | tuple ps =>
    refine i_ifF rfl ?_
    repeat' array_get_dec
    refine i_iseqG ?_
    repeat' array_get_dec
    refine ⟨_, rfl, ?_⟩
    refine for_ind (fun i ρ' h' => h' = h ∧ ∃ l z, ρ' = [some (.d (.tuple ps)), some (.d (.int l)), z] ∧ numsB 0 ps = numsB l (ps.drop i)) ?_ ?_ ⟨rfl, _, _, rfl, by rw [List.drop_zero]⟩
    · rintro i x ρ' h' G ex ⟨rfl, l, z, rfl, en⟩ hG
      rw [List.getElem?_map, Option.map_eq_some_iff] at ex
      obtain ⟨q, eq, rfl⟩ := ex
      have hd : ps.drop i = q :: ps.drop (i + 1) := by
        obtain ⟨hi, rfl⟩ := List.getElem?_eq_some_iff.1 eq
        exact List.drop_eq_getElem_cons hi
      rw [hd] at en
      refine ⟨_, rfl, ?_⟩
      show (sSeq _ _) [_, some (.d (.int l)), some (.d q)] _ _
      repeat' array_get_dec
      refine wp_is_int ?_
      repeat' array_get_dec
      have bad : pureInt q = false → sRet (fC (.bool false)) [some (.d (.tuple ps)), some (.d (.int l)), some (.d q)] h' ⟨fun ρ2 h2 => stay (.d (.tuple ps)) (ps.map D.d) h2 ∧ G ρ2 h2, Q, fun _ _ => False, fun ρ2 h2 => stay (.d (.tuple ps)) (ps.map D.d) h2 ∧ G ρ2 h2, fun x _ h => E x h⟩ := fun c => by
        have e : numsB 0 ps = false := by rw [en]; cases q <;> first | rfl | cases c
        repeat' array_get_dec
        rw [← e]
        exact k
      cases q with
      | int j =>
        refine i_ifF rfl ?_
        repeat' array_get_dec
        refine i_ite (fun c => ?_) (fun c => ?_)
        · have c := of_decide_eq_true c
          have e : numsB 0 ps = false := by
            rw [en]
            unfold numsB
            rw [decide_eq_false (by omega)]
            rfl
          repeat' array_get_dec
          rw [← e]
          exact k
        · have c := of_decide_eq_false c
          repeat' array_get_dec
          refine ⟨trivial, hG _ _ ⟨rfl, _, _, rfl, ?_⟩⟩
          rw [en]
          show (decide (l ≤ j) && numsB (j + 1) (ps.drop (i + 1))) = _
          rw [decide_eq_true (by omega), Bool.true_and]
      | none => exact i_ifT rfl (i_ifT rfl (bad rfl))
      | bool _ => exact i_ifT rfl (i_ifT rfl (bad rfl))
      | str _ => exact i_ifT rfl (i_ifT rfl (bad rfl))
      | list _ => exact i_ifT rfl (i_ifT rfl (bad rfl))
      | tuple _ => exact i_ifT rfl (i_ifT rfl (bad rfl))
      | dict _ => exact i_ifT rfl (i_ifT rfl (bad rfl))
    · rintro ρ' h' ⟨rfl, l, z, rfl, en⟩
      rw [List.length_map, List.drop_length] at en
      repeat' array_get_dec
      have e : numsB 0 ps = true := en
      rw [← e]
      exact k
  | none => refine i_ifT rfl ?_; repeat' array_get_dec
            exact k
  | bool _ => refine i_ifT rfl ?_; repeat' array_get_dec
              exact k
  | int _ => refine i_ifT rfl ?_; repeat' array_get_dec
             exact k
  | str _ => refine i_ifT rfl ?_; repeat' array_get_dec
             exact k
  | list _ => refine i_ifT rfl ?_; repeat' array_get_dec
              exact k
  | dict _ => refine i_ifT rfl ?_; repeat' array_get_dec
              exact k
end
section
variable {p : PyData} {h : Ho} {Q : KD} {E : XD}
/-- a tie of these points, as the program looks -/
def tieB (is : List Int) : PyData → Bool
  | .tuple [.int a, .int b, w] => okT is a b w
  | _ => false
theorem wp_is_tie {is : List Int} (k : Q (.d (.bool (tieB is p))) h) : M__is_tie [.d (.tuple (is.map PyData.int)), .d p] h Q E := by
  refine i_mir rfl (by repeat constructor) (by repeat constructor) ?_
  unfold B__is_tie
  repeat' array_get_dec
  refine wp_tupN (n := 3) ?_
  repeat' array_get_dec
  by_cases c : tupN 3 p = true
  · obtain ⟨x, y, w, rfl⟩ : ∃ x y w, p = .tuple [x, y, w] := by
      cases p with
      | tuple xs =>
        match xs, of_decide_eq_true c with
        | [x, y, w], _ => exact ⟨x, y, w, rfl⟩
      | _ => cases c
    refine i_ifF rfl ?_
    array_get_dec
    array_get_dec
    refine i_asgG ?_
    repeat' array_get_dec
    refine ⟨[some (.d (.tuple (is.map PyData.int))), some (.d (.tuple [x, y, w])), some (.d x), some (.d y), some (.d w)], rfl, ?_⟩
    repeat' array_get_dec
    refine wp_is_int ?_
    repeat' array_get_dec
    have bad : ∀ {nx : En → Ho → Prop}, tieB is (.tuple [x, y, w]) = false → sRet (fC (.bool false)) [some (.d (.tuple (is.map PyData.int))), some (.d (.tuple [x, y, w])), some (.d x), some (.d y), some (.d w)] h ⟨nx, Q, fun _ _ => False, fun _ _ => False, fun x _ h => E x h⟩ := fun {nx} e => by
      repeat' array_get_dec
      rw [← e]
      exact k
    cases x with
    | int a =>
      refine i_ifT rfl ?_
      repeat' array_get_dec
      refine wp_is_int ?_
      repeat' array_get_dec
      cases y with
      | int b =>
        refine i_ifT rfl ?_
        repeat' array_get_dec
        refine wp_is_fraction ?_
        repeat' array_get_dec
        by_cases cf : frOK w = true
        · obtain ⟨q, rfl⟩ := frOK_fr cf
          refine i_ifF (by rw [cf]; rfl) ?_
          have ek : tieB is (.tuple [.int a, .int b, fr q]) = (decide (a < b) && (decide (a ∈ is) && (decide (b ∈ is) && !decide (q = 0)))) := by
            show okT is a b (fr q) = _
            unfold okT
            rw [wtB_fr]
          rw [ek] at k
          repeat' array_get_dec
          refine i_ite (fun c1 => ?_) (fun c1 => ?_)
          · have c1 : decide (a < b) = true := c1
            rw [c1, Bool.true_and] at k
            repeat' array_get_dec
            refine i_inI ?_
            repeat' array_get_dec
            refine i_ite (fun c2 => ?_) (fun c2 => ?_)
            · rw [c2, Bool.true_and] at k
              repeat' array_get_dec
              refine i_inI ?_
              repeat' array_get_dec
              refine i_ite (fun c3 => ?_) (fun c3 => ?_)
              · rw [c3, Bool.true_and] at k
                repeat' array_get_dec
                have z0 : PyData.tuple [.int 0, .int 1] = fr 0 := rfl
                rw [z0]
                refine i_ned (p := fr q) (q := fr 0) rfl rfl rfl rfl ni_tup ?_
                rw [fr_eqv]
                exact k
              · rw [c3] at k
                exact k
            · rw [c2] at k
              exact k
          · have c1 : decide (a < b) = false := c1
            rw [c1] at k
            exact k
        · have cf : frOK w = false := by simpa using cf
          refine i_ifT (by rw [cf]; rfl) ?_
          refine bad ?_
          show okT is a b w = false
          unfold okT
          rw [wtB_no cf]
          simp
      | _ => exact i_ifF rfl (i_ifT rfl (bad rfl))
    | _ => exact i_ifF rfl (i_ifT rfl (bad rfl))
  · have c : tupN 3 p = false := by simpa using c
    have e : tieB is p = false := by
      unfold tieB
      split
      · cases c
      · rfl
    refine i_ifT (by rw [c]; rfl) ?_
    repeat' array_get_dec
    rw [← e]
    exact k
theorem wp_is_network (k : Q (.d (.bool (netB p))) h) : M_is_network [.d p] h Q E := by
  refine i_mir rfl (by repeat constructor) (by repeat constructor) ?_
  unfold B_is_network
  repeat' array_get_dec
  refine wp_tupN (n := 2) ?_
  repeat' array_get_dec
  have bad : ∀ {nx : En → Ho → Prop}, netB p = false → sRet (fC (.bool false)) [some (.d p), none, none, none, none] h ⟨nx, Q, fun _ _ => False, fun _ _ => False, fun x _ h => E x h⟩ := fun {nx} e => by
    repeat' array_get_dec
    rw [← e]
    exact k
  by_cases c : tupN 2 p = true
  · obtain ⟨x, y, rfl⟩ : ∃ x y, p = .tuple [x, y] := by
      cases p with
      | tuple xs =>
        match xs, of_decide_eq_true c with
        | [x, y], _ => exact ⟨x, y, rfl⟩
      | _ => cases c
    refine i_ifT rfl ?_
    repeat' array_get_dec
    refine wp_numbers ?_
    repeat' array_get_dec
    cases x with
    | tuple ps =>
      by_cases cn : numsB 0 ps = true
      · refine i_ifT cn ?_
        repeat' array_get_dec
        refine ⟨_, kit_tup y, ?_⟩
        repeat' array_get_dec
        cases y with
        | tuple ts =>
          refine i_ifF rfl ?_
          have ek : netB (.tuple [.tuple ps, .tuple ts]) = tiesB (intsL ps) (-1) (-1) ts := by
            show (numsB 0 ps && _) = _
            rw [cn, Bool.true_and]
          rw [ek] at k
          have eps := (numsB_ints (Int.le_refl 0) cn).1
          repeat' array_get_dec
          refine i_iseqG ?_
          repeat' array_get_dec
          refine ⟨_, rfl, ?_⟩
          refine for_ind (fun i ρ' h' => h' = h ∧ ∃ u v z, ρ' = [some (.d (.tuple [.tuple ps, .tuple ts])), some (.d (.tuple ps)), some (.d (.tuple ts)), some (.d (.tuple [.int u, .int v])), z] ∧ tiesB (intsL ps) (-1) (-1) ts = tiesB (intsL ps) u v (ts.drop i)) ?_ ?_ ⟨rfl, _, _, _, rfl, by rw [List.drop_zero]⟩
          · rintro i x ρ' h' G ex ⟨rfl, u, v, z, rfl, en⟩ hG
            rw [List.getElem?_map, Option.map_eq_some_iff] at ex
            obtain ⟨t, et, rfl⟩ := ex
            have hd : ts.drop i = t :: ts.drop (i + 1) := by
              obtain ⟨hi, rfl⟩ := List.getElem?_eq_some_iff.1 et
              exact List.drop_eq_getElem_cons hi
            rw [hd] at en
            refine ⟨_, rfl, ?_⟩
            show (sSeq _ _) [some (.d (.tuple [.tuple ps, .tuple ts])), some (.d (.tuple ps)), some (.d (.tuple ts)), some (.d (.tuple [.int u, .int v])), some (.d t)] _ _
            repeat' array_get_dec
            rw [eps]
            refine wp_is_tie ?_
            rw [← eps]
            repeat' array_get_dec
            by_cases ct : tieB (intsL ps) t = true
            · obtain ⟨a, b, w, rfl⟩ : ∃ a b w, t = .tuple [.int a, .int b, w] := by
                unfold tieB at ct
                split at ct
                · exact ⟨_, _, _, rfl⟩
                · cases ct
              have en2 : tiesB (intsL ps) (-1) (-1) ts = (!decide (a < u ∨ (a = u ∧ b ≤ v)) && tiesB (intsL ps) a b (ts.drop (i + 1))) := by
                rw [en]
                show (okT (intsL ps) a b w && _) = _
                have ct : okT (intsL ps) a b w = true := ct
                rw [ct, Bool.true_and]
              refine i_ifF (by rw [ct]; rfl) ?_
              repeat' array_get_dec
              rw [show cut [PyData.int a, .int b, w] none (some 2) = [.int a, .int b] from cut_0n _ 2]
              refine ⟨a, b, u, v, rfl, rfl, ?_⟩
              repeat' array_get_dec
              refine i_ite (fun c1 => ?_) (fun c1 => ?_)
              · rw [c1] at en2
                have e : tiesB (intsL ps) (-1) (-1) ts = false := en2
                repeat' array_get_dec
                rw [← e]
                exact k
              · rw [c1, Bool.not_false, Bool.true_and] at en2
                repeat' array_get_dec
                rw [show cut [PyData.int a, .int b, w] none (some 2) = [.int a, .int b] from cut_0n _ 2]
                repeat' array_get_dec
                exact ⟨trivial, hG _ _ ⟨rfl, _, _, _, rfl, en2⟩⟩
            · have ct : tieB (intsL ps) t = false := by simpa using ct
              have e : tiesB (intsL ps) (-1) (-1) ts = false := by
                rw [en]
                unfold tiesB
                split
                · rename_i h1
                  cases h1
                · rename_i h1
                  cases h1
                  have ct : okT (intsL ps) _ _ _ = false := ct
                  rw [ct]
                  rfl
                · rfl
              refine i_ifT (by rw [ct]; rfl) ?_
              refine i_ifT rfl ?_
              repeat' array_get_dec
              rw [← e]
              exact k
          · rintro ρ' h' ⟨rfl, u, v, z, rfl, en⟩
            rw [List.length_map, List.drop_length] at en
            have e : tiesB (intsL ps) (-1) (-1) ts = true := en
            repeat' array_get_dec
            rw [← e]
            exact k
        | _ =>
          refine i_ifT rfl (bad ?_)
          rfl
      · have cn : numsB 0 ps = false := by simpa using cn
        refine i_ifF cn (i_ifT rfl (bad ?_))
        unfold netB
        split
        · rename_i h1
          cases h1
          rw [cn]
          rfl
        · rfl
    | _ => exact i_ifF rfl (i_ifT rfl (bad rfl))
  · have c : tupN 2 p = false := by simpa using c
    have e : netB p = false := by
      unfold netB
      split
      · cases c
      · rfl
    refine i_ifF (by rw [c]) (i_ifT rfl (bad e))
end
theorem wtB_len {xs : List PyData} (h : xs.length ≠ 2) : wtB (.tuple xs) = false := by
  unfold wtB
  split
  · rename_i x y e
    injection e with e
    rw [e] at h
    exact absurd rfl h
  · rfl
section
variable {p : PyData} {h : Ho} {Q : KD} {E : XD}
theorem wp_lnum (k : Q (.d (.bool (numP p))) h) : M__law_is_number [.d p] h Q E := by
  refine i_mir rfl (by repeat constructor) (by repeat constructor) ?_
  unfold B__law_is_number
  repeat' array_get_dec
  refine i_isiD (by repeat constructor) (kit_int p) ?_
  repeat' array_get_dec
  cases p with
  | int i =>
    refine i_ifT rfl ?_
    refine i_fand ?_
    repeat' array_get_dec
    refine i_isiD (by repeat constructor) (kit_bool _) ?_
    repeat' array_get_dec
    refine i_ifT rfl ?_
    repeat' array_get_dec
    exact k
  | bool b =>
    refine i_ifT rfl ?_
    refine i_fand ?_
    repeat' array_get_dec
    refine i_isiD (by repeat constructor) (kit_bool _) ?_
    repeat' array_get_dec
    exact i_ifF rfl k
  | _ => exact i_ifF rfl k
theorem wp_lweight (hb : ∀ x y, p = .tuple [.int x, .int y] → y.natAbs < 2 ^ 1000) (k : Q (.d (.bool (wtB p))) h) : M__law_is_weight [.d p] h Q E := by
  refine i_mir rfl (by repeat constructor) (by repeat constructor) ?_
  unfold B__law_is_weight
  repeat' array_get_dec
  refine i_isiD (by repeat constructor) (kit_tup p) ?_
  repeat' array_get_dec
  have bad : ∀ nx : En → Ho → Prop, wtB p = false → sRet (fC (.bool false)) [some (.d p), none] h ⟨nx, Q, fun _ _ => False, fun _ _ => False, fun x _ h => E x h⟩ := fun nx e => by
    repeat' array_get_dec
    rw [← e]
    exact k
  cases p with
  | tuple xs =>
    refine i_ifF rfl ?_
    repeat' array_get_dec
    match xs, k, bad, hb with
    | [x, y], k, bad, hb =>
      refine i_ifF rfl ?_
      repeat' array_get_dec
      refine i_iseqG ?_
      repeat' array_get_dec
      refine ⟨_, rfl, ?_⟩
      refine for_ind (fun i ρ' h' => h' = h ∧ ∃ z, ρ' = [some (.d (.tuple [x, y])), z] ∧ ∀ j : Nat, j < i → ∀ t, [x, y][j]? = some t → pureInt t = true) ?_ ?_ ⟨rfl, _, rfl, fun j hj => by omega⟩
      · rintro i t ρ' h' G et ⟨rfl, z, rfl, all⟩ hG
        rw [List.getElem?_map, Option.map_eq_some_iff] at et
        obtain ⟨t, et, rfl⟩ := et
        have wrong : pureInt t = false → wtB (.tuple [x, y]) = false := fun c => by
          have : t = x ∨ t = y := by
            have := List.mem_of_getElem? et
            simpa using this
          unfold wtB
          split
          · rename_i h1
            injection h1 with h1
            injection h1 with h1 h2
            injection h2 with h2 _
            subst h1
            subst h2
            rcases this with rfl | rfl <;> cases c
          · rfl
        refine ⟨_, rfl, ?_⟩
        show (sIf _ _ _) [some (.d (.tuple [x, y])), some (.d t)] _ _
        repeat' array_get_dec
        refine i_isiD (by repeat constructor) (kit_int t) ?_
        repeat' array_get_dec
        have wr : pureInt t = false → sRet (fC (.bool false)) [some (.d (.tuple [x, y])), some (.d t)] h' ⟨fun ρ2 h2 => stay (.d (.tuple [x, y])) ([x, y].map D.d) h2 ∧ G ρ2 h2, Q, fun _ _ => False, fun ρ2 h2 => stay (.d (.tuple [x, y])) ([x, y].map D.d) h2 ∧ G ρ2 h2, fun x _ h => E x h⟩ := fun c => by
          repeat' array_get_dec
          rw [← wrong c]
          exact k
        cases t with
        | int n =>
          refine i_ifF rfl ?_
          repeat' array_get_dec
          refine i_isiD (by repeat constructor) (kit_bool _) ?_
          refine i_isb ?_
          refine i_ifF rfl ?_
          repeat' array_get_dec
          refine ⟨trivial, hG _ _ ⟨rfl, _, rfl, fun j hj t ht => ?_⟩⟩
          by_cases c : j < i
          · exact all j c t ht
          · have : j = i := by omega
            subst this
            rw [et] at ht
            cases ht
            rfl
        | bool b =>
          refine i_ifF rfl ?_
          repeat' array_get_dec
          refine i_isiD (by repeat constructor) (kit_bool _) ?_
          refine i_isb ?_
          exact i_ifT rfl (wr rfl)
        | _ => exact i_ifT rfl (i_ifT rfl (wr rfl))
      · rintro ρ' h' ⟨rfl, z, rfl, all⟩
        have h1 := all 0 (by show 0 < 2; decide) x rfl
        have h2 := all 1 (by show 1 < 2; decide) y rfl
        obtain ⟨n, rfl⟩ : ∃ n, x = .int n := by cases x <;> first | exact ⟨_, rfl⟩ | cases h1
        obtain ⟨m, rfl⟩ : ∃ n, y = .int n := by cases y <;> first | exact ⟨_, rfl⟩ | cases h2
        have hm := hb n m rfl
        have ek : wtB (.tuple [.int n, .int m]) = (decide (0 < m) && (decide (n ≠ 0) && decide (Nat.gcd n.natAbs m.natAbs = 1))) := rfl
        rw [ek] at k
        repeat' array_get_dec
        refine i_ite (fun c => ?_) (fun c => ?_)
        · have c : decide (0 < m) = true := c
          rw [c, Bool.true_and] at k
          have c := of_decide_eq_true c
          repeat' array_get_dec
          refine i_ite (fun c2 => ?_) (fun c2 => ?_)
          · have c2 : n ≠ 0 := by simpa using c2
            rw [decide_eq_true c2, Bool.true_and] at k
            repeat' array_get_dec
            have em : m = ((m.toNat : Nat) : Int) := by omega
            have m0 : m.toNat ≠ 0 := by omega
            have mb : m.toNat < 2 ^ 1000 := by omega
            rw [em]
            refine wp_frac m0 (Nat.lt_of_lt_of_le mb (Nat.pow_le_pow_right (by decide) (by decide))) ?_
            repeat' array_get_dec
            refine i_eqd (p := fr (mkRat n m.toNat)) (q := .tuple [.int n, .int (m.toNat : Nat)]) rfl rfl rfl rfl ni_tup ?_
            have e : PyData.eqv (fr (mkRat n m.toNat)) (.tuple [.int n, .int (m.toNat : Nat)]) = decide (Nat.gcd n.natAbs m.natAbs = 1) := by
              have g1 : Nat.gcd m.toNat n.natAbs = Nat.gcd n.natAbs m.natAbs := by rw [Nat.gcd_comm, show m.toNat = m.natAbs by omega]
              by_cases g : Nat.gcd n.natAbs m.natAbs = 1
              · rw [decide_eq_true g]
                have : fr (mkRat n m.toNat) = .tuple [.int n, .int (m.toNat : Nat)] := by
                  show PyData.tuple [.int (mkRat n m.toNat).num, .int ((mkRat n m.toNat).den : Nat)] = _
                  rw [Rat.num_mkRat, Rat.den_mkRat, if_neg m0, if_neg m0, g1, g]
                  simp
                rw [this]
                simp [PyData.eqv, PyData.eqvAll]
              · rw [decide_eq_false g]
                have hd : (mkRat n m.toNat).den ≠ m.toNat := fun e => by
                  rw [Rat.den_mkRat, if_neg m0, g1] at e
                  have gp : Nat.gcd n.natAbs m.natAbs ≠ 0 := fun z => m0 (by have := Nat.eq_zero_of_gcd_eq_zero_right z; omega)
                  have := Nat.div_lt_self (n := m.toNat) (Nat.pos_of_ne_zero m0) (show 1 < Nat.gcd n.natAbs m.natAbs by omega)
                  omega
                have he : ¬ (((mkRat n m.toNat).den : Int) = (m.toNat : Nat)) := fun e => hd (by omega)
                show PyData.eqv (.tuple [.int _, .int _]) (.tuple [.int _, .int _]) = false
                rw [PyData.eqv, PyData.eqvAll, PyData.eqvAll, eqv_i, eqv_i, decide_eq_false he]
                simp
            rw [e]
            exact k
          · have c2 : n = 0 := by simpa using c2
            rw [decide_eq_false (by simp [c2])] at k
            exact k
        · have c : decide (0 < m) = false := c
          rw [c] at k
          exact k
    | [], k, bad, hb => exact i_ifT rfl (bad _ rfl)
    | [_], k, bad, hb => exact i_ifT rfl (bad _ (wtB_len (by simp)))
    | x1 :: x2 :: x3 :: l, k, bad, hb =>
      refine i_ifT ?_ (bad _ (wtB_len (by simp only [List.length_cons]; omega)))
      rw [decide_eq_false (by simp only [List.length_map, List.length_cons]; omega)]
      rfl
  | _ => exact i_ifT rfl (i_ifT rfl (bad _ rfl))
end
section
variable {p : PyData} {h : Ho} {Q : KD} {E : XD}
/-- the bottoms in ties are not too great -/
def BW (p : PyData) : Prop := ∀ ps ts, p = .tuple [.tuple ps, .tuple ts] → ps.length < 2 ^ 60 ∧ ∀ t ∈ ts, ∀ a b x y, t = .tuple [a, b, .tuple [.int x, .int y]] → y.natAbs < 2 ^ 1000
theorem netB_len {xs : List PyData} (h : xs.length ≠ 2) : netB (.tuple xs) = false := by
  unfold netB
  split
  · rename_i e
    injection e with e
    rw [e] at h
    exact absurd rfl h
  · rfl
theorem netB_fst {x y : PyData} (h : isTup x = false) : netB (.tuple [x, y]) = false := by
  cases x <;> first | rfl | cases h
theorem netB_snd {x y : PyData} (h : isTup y = false) : netB (.tuple [x, y]) = false := by
  cases y <;> first | (cases h; done) | (cases x <;> rfl)
theorem numP_int {p : PyData} (h : numP p = true) : ∃ i, p = .int i ∧ 0 ≤ i := by
  cases p <;> first | exact ⟨_, rfl, of_decide_eq_true h⟩ | cases h
theorem tiesB_no {is : List Int} {x y : Int} {t : PyData} {ts : List PyData} (h : tieB is t = false) : tiesB is x y (t :: ts) = false := by
  unfold tiesB
  split
  · rename_i h1
    cases h1
  · rename_i h1
    cases h1
    have ct : okT is _ _ _ = false := h
    rw [ct]
    rfl
  · rfl
theorem wp_lnet (bw : BW p) (k : Q (.d (.bool (netB p))) h) : M__law_is_net [.d p] h Q E := by
  refine i_mir rfl (by repeat constructor) (by repeat constructor) ?_
  unfold B__law_is_net
  repeat' array_get_dec
  have bad : ∀ nx : En → Ho → Prop, netB p = false → sRet (fC (.bool false)) [some (.d p), none, none, none] h ⟨nx, Q, fun _ _ => False, fun _ _ => False, fun x _ h => E x h⟩ := fun nx e => by
    repeat' array_get_dec
    rw [← e]
    exact k
  refine i_isiD (by repeat constructor) (kit_tup p) ?_
  repeat' array_get_dec
  cases p with
  | tuple xs =>
    refine i_ifF rfl ?_
    repeat' array_get_dec
    match xs, k, bad, bw with
    | [], k, bad, bw => exact i_ifT rfl (i_ifT rfl (bad _ (netB_len (by simp))))
    | [_], k, bad, bw => exact i_ifT rfl (i_ifT rfl (bad _ (netB_len (by simp))))
    | x1 :: x2 :: x3 :: l, k, bad, bw =>
      refine i_ifT ?_ (i_ifT rfl (bad _ (netB_len (by simp only [List.length_cons]; omega))))
      rw [decide_eq_false (by simp only [List.length_map, List.length_cons]; omega)]
      rfl
    | [x, y], k, bad, bw =>
      refine i_ifF rfl ?_
      repeat' array_get_dec
      refine ⟨_, kit_tup x, ?_⟩
      repeat' array_get_dec
      cases x with
      | tuple ps =>
        refine i_ifF rfl ?_
        repeat' array_get_dec
        refine ⟨_, kit_tup y, ?_⟩
        repeat' array_get_dec
        cases y with
        | tuple ts =>
          refine i_ifF rfl ?_
          repeat' array_get_dec
          obtain ⟨big, bww⟩ := bw ps ts rfl
          refine ⟨by omega, by rw [List.length_map]; omega, ?_⟩
          rw [List.length_map, Int.toNat_natCast]
          refine for_ind (fun i ρ' h' => h' = h ∧ ∃ z l, ρ' = [some (.d (.tuple [.tuple ps, .tuple ts])), z, none, none] ∧ 0 ≤ l ∧ (i = 0 → l = 0) ∧ (∀ j : Nat, i = j + 1 → ps[j]? = some (.int (l - 1))) ∧ numsB 0 ps = numsB l (ps.drop i)) ?_ ?_ ⟨rfl, _, 0, rfl, Int.le_refl 0, fun _ => rfl, fun j hj => by omega, by rw [List.drop_zero]⟩
          · rintro i x ρ' h' G ex ⟨rfl, z, l, rfl, l0, li, lj, en⟩ hG
            obtain ⟨hi, rfl⟩ := range_get ex
            obtain ⟨q, eq⟩ : ∃ q, ps[i]? = some q := ⟨_, List.getElem?_eq_getElem hi⟩
            have hd : ps.drop i = q :: ps.drop (i + 1) := by
              obtain ⟨hi, rfl⟩ := List.getElem?_eq_some_iff.1 eq
              exact List.drop_eq_getElem_cons hi
            rw [hd] at en
            have no : numsB 0 ps = false → netB (.tuple [.tuple ps, .tuple ts]) = false := fun e => by
              show (numsB 0 ps && _) = false
              rw [e]
              rfl
            refine ⟨_, rfl, ?_⟩
            show (sIf _ _ _) [some (.d (.tuple [.tuple ps, .tuple ts])), some (.d (.int (i : Nat))), none, none] _ _
            have bad2 : ∀ nx : En → Ho → Prop, ∀ ct : En → Ho → Prop, ∀ bk : En → Ho → Prop, numsB 0 ps = false → sRet (fC (.bool false)) [some (.d (.tuple [.tuple ps, .tuple ts])), some (.d (.int (i : Nat))), none, none] h' ⟨nx, Q, bk, ct, fun x _ h => E x h⟩ := fun nx ct bk e => by
              repeat' array_get_dec
              rw [← no e]
              exact k
            have ixq : L2.atI (ps.map D.d) (i : Nat) = some (.d q) := atI_nat (by rw [List.getElem?_map, eq]; rfl)
            repeat' array_get_dec
            refine i_ix rfl ixq ?_
            repeat' array_get_dec
            refine wp_lnum ?_
            repeat' array_get_dec
            by_cases cq : numP q = true
            · obtain ⟨m, rfl, m0⟩ := numP_int cq
              have en2 : numsB 0 ps = (decide (l ≤ m) && numsB (m + 1) (ps.drop (i + 1))) := en
              refine i_ifF (by rw [cq]; rfl) ?_
              repeat' array_get_dec
              refine i_ite (fun c1 => ?_) (fun c1 => ?_)
              · have c1 : 0 < i := by have := of_decide_eq_true c1; omega
                obtain ⟨j, rfl⟩ : ∃ j, i = j + 1 := ⟨i - 1, by omega⟩
                have ej := lj j rfl
                repeat' array_get_dec
                refine i_ix rfl ixq ?_
                repeat' array_get_dec
                rw [show (((j + 1 : Nat) : Int) - 1) = ((j : Nat) : Int) by omega]
                refine i_ix rfl (atI_nat (by rw [List.getElem?_map, ej]; rfl) : L2.atI (ps.map D.d) (j : Nat) = some (.d (.int (l - 1)))) ?_
                repeat' array_get_dec
                refine i_ite (fun c2 => ?_) (fun c2 => ?_)
                · have c2 := of_decide_eq_true c2
                  refine bad2 _ _ _ ?_
                  rw [en2, decide_eq_false (by omega)]
                  rfl
                · have c2 := of_decide_eq_false c2
                  repeat' array_get_dec
                  refine ⟨trivial, hG _ _ ⟨rfl, _, m + 1, rfl, by omega, fun z => by omega, fun j' hj' => ?_, ?_⟩⟩
                  · have : j' = j + 1 := by omega
                    rw [this, show m + 1 - 1 = m by omega]
                    exact eq
                  · rw [en2, decide_eq_true (by omega), Bool.true_and]
              · have c1 : i = 0 := by have := of_decide_eq_false c1; omega
                refine i_ifF rfl ?_
                repeat' array_get_dec
                refine ⟨trivial, hG _ _ ⟨rfl, _, m + 1, rfl, by omega, fun z => by omega, fun j' hj' => ?_, ?_⟩⟩
                · have : j' = i := by omega
                  rw [this, show m + 1 - 1 = m by omega]
                  exact eq
                · rw [en2, decide_eq_true (by have := li c1; omega), Bool.true_and]
            · have cq : numP q = false := by simpa using cq
              refine i_ifT (by rw [cq]; rfl) ?_
              refine i_ifT rfl ?_
              refine bad2 _ _ _ ?_
              rw [en]
              cases q with
              | int m =>
                have c : ¬ 0 ≤ m := of_decide_eq_false cq
                show (decide (l ≤ m) && _) = false
                rw [decide_eq_false (by omega)]
                rfl
              | _ => rfl
          · rintro ρ' h' ⟨rfl, z, l, rfl, l0, li, lj, en⟩
            rw [range_len, List.drop_length] at en
            have cn : numsB 0 ps = true := en
            have ek : netB (.tuple [.tuple ps, .tuple ts]) = tiesB (intsL ps) (-1) (-1) ts := by
              show (numsB 0 ps && _) = _
              rw [cn, Bool.true_and]
            rw [ek] at k
            obtain ⟨eps, epos⟩ := numsB_ints (Int.le_refl 0) cn
            repeat' array_get_dec
            refine i_iseqG ?_
            repeat' array_get_dec
            refine ⟨_, rfl, ?_⟩
            refine for_ind (fun i ρ' h2 => h2 = h' ∧ ∃ u v z1 z, ρ' = [some (.d (.tuple [.tuple ps, .tuple ts])), z1, some (.d (.tuple [.int u, .int v])), z] ∧ tiesB (intsL ps) (-1) (-1) ts = tiesB (intsL ps) u v (ts.drop i)) ?_ ?_ ⟨rfl, _, _, _, _, rfl, by rw [List.drop_zero]⟩
            · rintro i x ρ' h2 G ex ⟨rfl, u, v, z1, z, rfl, en⟩ hG
              rw [List.getElem?_map, Option.map_eq_some_iff] at ex
              obtain ⟨t, et, rfl⟩ := ex
              have tm' := List.mem_of_getElem? et
              have hd : ts.drop i = t :: ts.drop (i + 1) := by
                obtain ⟨hi, rfl⟩ := List.getElem?_eq_some_iff.1 et
                exact List.drop_eq_getElem_cons hi
              rw [hd] at en
              refine ⟨_, rfl, ?_⟩
              show (sSeq _ _) [some (.d (.tuple [.tuple ps, .tuple ts])), z1, some (.d (.tuple [.int u, .int v])), some (.d t)] _ _
              have bad3 : ∀ nx : En → Ho → Prop, ∀ ct : En → Ho → Prop, ∀ bk : En → Ho → Prop, tieB (intsL ps) t = false → sRet (fC (.bool false)) [some (.d (.tuple [.tuple ps, .tuple ts])), z1, some (.d (.tuple [.int u, .int v])), some (.d t)] h2 ⟨nx, Q, bk, ct, fun x _ h => E x h⟩ := fun nx ct bk e => by
                have e2 : tiesB (intsL ps) (-1) (-1) ts = false := en.trans (tiesB_no e)
                repeat' array_get_dec
                rw [← e2]
                exact k
              repeat' array_get_dec
              refine i_isiD (by repeat constructor) (kit_tup t) ?_
              repeat' array_get_dec
              cases t with
              | tuple xs =>
                refine i_ifF rfl ?_
                repeat' array_get_dec
                match xs, en, bad3, tm' with
                | [], en, bad3, tm' => exact i_ifT rfl (i_ifT rfl (bad3 _ _ _ rfl))
                | [_], en, bad3, tm' => exact i_ifT rfl (i_ifT rfl (bad3 _ _ _ (by unfold tieB; split <;> first | rfl | (rename_i h1; cases h1))))
                | [_, _], en, bad3, tm' => exact i_ifT rfl (i_ifT rfl (bad3 _ _ _ (by unfold tieB; split <;> first | rfl | (rename_i h1; cases h1))))
                | x1 :: x2 :: x3 :: x4 :: l, en, bad3, tm' =>
                  refine i_ifT ?_ (i_ifT rfl (bad3 _ _ _ (by unfold tieB; split <;> first | rfl | (rename_i h1; cases h1))))
                  rw [decide_eq_false (by simp only [List.length_map, List.length_cons]; omega)]
                  rfl
                | [x, y, wt], en, bad3, tm' =>
                  refine i_ifF rfl ?_
                  repeat' array_get_dec
                  refine wp_lnum ?_
                  repeat' array_get_dec
                  by_cases cx : numP x = true
                  · obtain ⟨a, rfl, a0⟩ := numP_int cx
                    refine i_ifF (by rw [cx]; rfl) ?_
                    repeat' array_get_dec
                    refine wp_lnum ?_
                    repeat' array_get_dec
                    by_cases cy : numP y = true
                    · obtain ⟨b, rfl, b0⟩ := numP_int cy
                      refine i_ifF (by rw [cy]; rfl) ?_
                      have etie : tieB (intsL ps) (.tuple [.int a, .int b, wt]) = (decide (a < b) && (decide (a ∈ intsL ps) && (decide (b ∈ intsL ps) && wtB wt))) := rfl
                      repeat' array_get_dec
                      refine i_ite (fun c1 => ?_) (fun c1 => ?_)
                      · refine i_ifT rfl (bad3 _ _ _ ?_)
                        rw [etie, decide_eq_false (by have := of_decide_eq_true c1; omega)]
                        rfl
                      have c1 : a < b := by have := of_decide_eq_false c1; omega
                      repeat' array_get_dec
                      rw [eps]
                      refine i_ninI ?_
                      rw [← eps]
                      repeat' array_get_dec
                      by_cases c2 : a ∈ intsL ps
                      · refine i_ifF (by rw [decide_eq_true c2]; rfl) ?_
                        repeat' array_get_dec
                        rw [eps]
                        refine i_ninI ?_
                        rw [← eps]
                        repeat' array_get_dec
                        by_cases c3 : b ∈ intsL ps
                        · refine i_ifF (by rw [decide_eq_true c3]; rfl) ?_
                          repeat' array_get_dec
                          refine wp_lweight (fun x y e => (bww _ tm' _ _ x y (by rw [e]))) ?_
                          repeat' array_get_dec
                          by_cases c4 : wtB wt = true
                          · refine i_ifF (by rw [c4]; rfl) ?_
                            have en2 : tiesB (intsL ps) (-1) (-1) ts = (!decide (a < u ∨ (a = u ∧ b ≤ v)) && tiesB (intsL ps) a b (ts.drop (i + 1))) := by
                              rw [en]
                              show (okT (intsL ps) a b wt && _) = _
                              unfold okT
                              rw [decide_eq_true c1, decide_eq_true c2, decide_eq_true c3, c4]
                              rfl
                            repeat' array_get_dec
                            refine ⟨a, b, u, v, rfl, rfl, ?_⟩
                            repeat' array_get_dec
                            refine i_ite (fun c5 => ?_) (fun c5 => ?_)
                            · rw [c5] at en2
                              have e : tiesB (intsL ps) (-1) (-1) ts = false := en2
                              repeat' array_get_dec
                              rw [← e]
                              exact k
                            · rw [c5, Bool.not_false, Bool.true_and] at en2
                              repeat' array_get_dec
                              exact ⟨trivial, hG _ _ ⟨rfl, _, _, _, _, rfl, en2⟩⟩
                          · have c4 : wtB wt = false := by simpa using c4
                            refine i_ifT (by rw [c4]; rfl) (bad3 _ _ _ ?_)
                            rw [etie, c4]
                            simp
                        · refine i_ifT (by rw [decide_eq_false c3]; rfl) (i_ifT rfl (bad3 _ _ _ ?_))
                          rw [etie, decide_eq_false c3]
                          simp
                      · refine i_ifT (by rw [decide_eq_false c2]; rfl) (i_ifT rfl (bad3 _ _ _ ?_))
                        rw [etie, decide_eq_false c2]
                        simp
                    · have cy : numP y = false := by simpa using cy
                      refine i_ifT (by rw [cy]; rfl) (bad3 _ _ _ ?_)
                      cases y with
                      | int b =>
                        have nb' : ¬ b ∈ intsL ps := fun hb => by
                          have := epos b hb
                          have := of_decide_eq_false cy
                          omega
                        show okT (intsL ps) a b wt = false
                        unfold okT
                        rw [decide_eq_false nb']
                        simp
                      | _ => rfl
                  · have cx : numP x = false := by simpa using cx
                    refine i_ifT (by rw [cx]; rfl) (i_ifT rfl (bad3 _ _ _ ?_))
                    cases x with
                    | int a =>
                      have nb' : ¬ a ∈ intsL ps := fun hb => by
                        have := epos a hb
                        have := of_decide_eq_false cx
                        omega
                      cases y with
                      | int b =>
                        show okT (intsL ps) a b wt = false
                        unfold okT
                        rw [decide_eq_false nb']
                        simp
                      | _ => rfl
                    | _ => rfl
              | _ => exact i_ifT rfl (i_ifT rfl (bad3 _ _ _ rfl))
            · rintro ρ' h2 ⟨rfl, u, v, z1, z, rfl, en⟩
              rw [List.length_map, List.drop_length] at en
              have e : tiesB (intsL ps) (-1) (-1) ts = true := en
              repeat' array_get_dec
              rw [← e]
              exact k
        | _ => exact i_ifT rfl (bad _ (netB_snd rfl))
      | _ => exact i_ifT rfl (i_ifT rfl (bad _ (netB_fst rfl)))
  | _ => exact i_ifT rfl (i_ifT rfl (bad _ rfl))
end
open NT
theorem pick_take {α : Type} (ys : List α) : ∀ n, n ≤ ys.length → (List.range n).filterMap (fun k => ys[k]?) = ys.take n
  | 0, _ => by simp
  | n + 1, h => by
    rw [List.range_succ, List.filterMap_append, pick_take ys n (by omega), List.take_add_one, List.getElem?_eq_getElem (by omega)]
    simp [List.getElem?_eq_getElem (show n < ys.length by omega)]
theorem fm_congr {α β : Type} {f g : α → Option β} : ∀ l : List α, (∀ x ∈ l, f x = g x) → l.filterMap f = l.filterMap g
  | [], _ => rfl
  | x :: l, h => by
    rw [List.filterMap_cons, List.filterMap_cons, h x (by simp), fm_congr l fun y hy => h y (by simp [hy])]
theorem stepL_rev {α : Type} (xs : List α) : stepL xs none none (-1) = xs.reverse := by
  have e1 : (Builtin.Slice.sliceAdjust none none (-1) xs.length) = ((xs.length : Int) - 1, -1) := rfl
  have e2 : Builtin.Slice.slicePlaces ((xs.length : Int) - 1) (-1) (-1) = xs.length := by
    unfold Builtin.Slice.slicePlaces
    rw [if_neg (by decide)]
    by_cases c : (xs.length : Int) - 1 > -1
    · rw [if_pos c]
      have : ((xs.length : Int) - 1 - -1 - 1) / - -1 + 1 = xs.length := by
        rw [show (- -1 : Int) = 1 by decide, Int.ediv_one]
        omega
      rw [this]
      omega
    · rw [if_neg c]
      omega
  unfold stepL
  rw [e1]
  dsimp only
  rw [e2]
  have e3 : (List.range xs.length).filterMap (fun (k : Nat) => xs[((xs.length : Int) - 1 + (k : Int) * -1).toNat]?) = (List.range xs.reverse.length).filterMap (fun k => xs.reverse[k]?) := by
    rw [List.length_reverse]
    refine fm_congr _ fun k hk => ?_
    rw [List.mem_range] at hk
    rw [List.getElem?_reverse hk]
    congr 1
    omega
  rw [e3, pick_take _ _ (Nat.le_refl _), List.take_length]
theorem stepL_mem {α : Type} {xs : List α} {lo hi : Option Int} {c : Int} {x : α} (h : x ∈ stepL xs lo hi c) : x ∈ xs := by
  unfold stepL at h
  obtain ⟨i, _, e⟩ := List.mem_filterMap.1 h
  exact List.mem_of_getElem? e
/-- a tie's bottom is not too great -/
def WK (t : PyData) : Prop := ∀ a b x y, t = .tuple [a, b, .tuple [.int x, .int y]] → y.natAbs < 2 ^ 1000
theorem wk_small {q : Rat} (w : W2 q) : ((q.den : Nat) : Int).natAbs < 2 ^ 1000 := Nat.lt_of_lt_of_le w.2 (Nat.pow_le_pow_right (by decide) (by decide))
theorem wk_tie {z : Int × Int × Rat} (w : W2 z.2.2) : WK (tieD z) := by
  intro a b x y e
  injection e with e
  injection e with _ e
  injection e with _ e
  injection e with e _
  injection e with e
  injection e with _ e
  injection e with e _
  injection e with e
  rw [← e]
  exact wk_small w
theorem bw_of {ps ts : List PyData} (hl : ps.length < 2 ^ 60) (h : ∀ t ∈ ts, WK t) : BW (.tuple [.tuple ps, .tuple ts]) := by
  intro ps' ts' e
  injection e with e
  injection e with e1 e
  injection e with e2 _
  injection e1 with e1
  injection e2 with e2
  subst e1
  subst e2
  exact ⟨hl, h⟩
theorem eqv_nil (T : List (Int × Int × Rat)) : PyData.eqv (.tuple (T.map tieD)) (.tuple []) = T.isEmpty := by
  cases T <;> simp [PyData.eqv, PyData.eqvAll]
theorem shaped_ties (T : List (Int × Int × Rat)) : SeqAt.shaped (.tuple (T.map tieD)) = true := shapedT fun p hp => by
  obtain ⟨q, _, rfl⟩ := List.mem_map.1 hp
  exact ⟨rfl, by show 2 ≤ 3; decide⟩
theorem wk_no {t : PyData} (h : ∀ a b x y, t ≠ .tuple [a, b, .tuple [.int x, .int y]]) : WK t := fun a b x y e => absurd e (h a b x y)
theorem wk_w {a b : PyData} {x y : Int} (h : y.natAbs < 2 ^ 1000) : WK (.tuple [a, b, .tuple [.int x, .int y]]) := by
  intro a' b' x' y' e
  injection e with e
  injection e with _ e
  injection e with _ e
  injection e with e _
  injection e with e
  injection e with _ e
  injection e with e _
  injection e with e
  rw [← e]
  exact h
section
variable {ps : List Int} {T : List (Int × Int × Rat)} {R h : Ho} {Q : KD} {E : XD}
theorem wp_turned (pn : ps ≠ []) (pl : ps.length ≤ 7) (tl21 : T.length ≤ 32) (wT : ∀ z ∈ T, W2 z.2.2) (dh : Deal R h) (k : ∀ v h', Deal R h' → BW v → Q (.d v) h') : M__law_turned [.loc 1, .d (netD ps T)] h Q E := by
  have sz : sizeLine = 2 ^ 24 := rfl
  have wts : ∀ t ∈ T.map tieD, WK t := fun t ht => by
    obtain ⟨z, hz, rfl⟩ := List.mem_map.1 ht
    exact wk_tie (wT z hz)
  rcases nil_or_snoc ps with rfl | ⟨pi, pz, rfl⟩
  · exact absurd rfl pn
  obtain ⟨p0, pr, e0⟩ : ∃ p0 pr, pi ++ [pz] = p0 :: pr := by
    cases pi with
    | nil => exact ⟨_, _, rfl⟩
    | cons a l => exact ⟨_, _, rfl⟩
  have at0 : L2.atI (((pi ++ [pz]).map PyData.int).map D.d) 0 = some (.d (.int p0)) := by rw [e0]; exact atI_nat (i := 0) rfl
  have atz : L2.atI (((pi ++ [pz]).map PyData.int).map D.d) (-1) = some (.d (.int pz)) := by
    rw [List.map_append, List.map_append]
    exact atI_last
  have ll : (pi ++ [pz]).length ≤ 7 := pl
  generalize pi ++ [pz] = ps at *
  refine i_mir rfl (by repeat constructor) (by repeat constructor) ?_
  unfold B__law_turned
  repeat' array_get_dec
  refine wp_any (by decide) (by decide) dh fun kd h1 k0 k1 dh => ?_
  repeat' array_get_dec
  refine i_ite (fun c => ?_) (fun c => ?_)
  · repeat' array_get_dec
    refine wp_of (xs := [.none, .bool true, .int 3, .str (Str.ofString "net"), .tuple [], .list [], .tuple [.tuple (ps.map PyData.int)], .list [.tuple (ps.map PyData.int), .tuple (T.map tieD)], .tuple [.tuple (ps.map PyData.int), .tuple (T.map tieD), .tuple []], .tuple [.list (ps.map PyData.int), .tuple (T.map tieD)]]) (by simp) (by show 10 < 2 ^ 140; decide) dh fun v h2 hv dh => ?_
    refine k _ _ dh fun ps' ts' e => ?_
    subst e
    simp at hv
  repeat' array_get_dec
  refine i_ite (fun c => ?_) (fun c => ?_)
  · repeat' array_get_dec
    refine i_ix rfl atz ?_
    repeat' array_get_dec
    refine i_ix rfl at0 ?_
    repeat' array_get_dec
    refine i_ix rfl atz ?_
    repeat' array_get_dec
    refine wp_of (xs := [.int pz, .int (p0 - 1), .int (pz + 1), .bool true, .int (-1), .none, .str (Str.ofString "1")]) (by simp) (by show 7 < 2 ^ 140; decide) dh fun v h2 hv dh => ?_
    repeat' array_get_dec
    refine i_addTT (by rw [List.length_map]; simp; omega) ?_
    repeat' array_get_dec
    refine k _ _ dh (bw_of ?_ wts)
    rw [List.length_append, List.length_map]
    simp
    omega
  repeat' array_get_dec
  refine i_eqd (p := .tuple (T.map tieD)) (q := .tuple []) rfl rfl (shaped_ties T) rfl ni_tup ?_
  rw [eqv_nil]
  repeat' array_get_dec
  refine i_ite (fun c => ?_) (fun c => ?_)
  · repeat' array_get_dec
    refine i_ix rfl at0 ?_
    repeat' array_get_dec
    refine i_ix rfl at0 ?_
    repeat' array_get_dec
    refine k _ _ dh (bw_of (by rw [List.length_map]; omega) fun t ht => ?_)
    rw [List.mem_singleton] at ht
    subst ht
    exact wk_w (Nat.one_lt_two_pow (by decide))
  have tne : T ≠ [] := fun e => by rw [e] at c; cases c
  have tp : 0 < T.length := List.length_pos_iff.2 tne
  repeat' array_get_dec
  rw [List.length_map, List.length_map]
  refine wp_any (by omega) (by omega) dh fun at' h2 a0 a1 dh => ?_
  repeat' array_get_dec
  obtain ⟨j, rfl⟩ : ∃ j : Nat, at' = (j : Nat) := ⟨at'.toNat, by omega⟩
  obtain ⟨⟨lo, hi, q⟩, ej⟩ : ∃ z, T[j]? = some z := ⟨_, List.getElem?_eq_getElem (by omega)⟩
  have wq : W2 q := wT _ (List.mem_of_getElem? ej)
  have eT : (T.map tieD)[j]? = some (tieD (lo, hi, q)) := by rw [List.getElem?_map, ej]; rfl
  have ixj : L2.atI ((T.map tieD).map D.d) (j : Nat) = some (.d (tieD (lo, hi, q))) := atI_nat (by rw [List.getElem?_map, eT]; rfl)
  refine i_asgG ?_
  repeat' array_get_dec
  refine i_ix rfl ixj ?_
  refine ⟨[some (.loc 1), some (.d (netD ps T)), some (.d (.tuple (ps.map PyData.int))), some (.d (.tuple (T.map tieD))), some (.d (.int kd)), some (.d (.int (j : Nat))), some (.d (.int lo)), some (.d (.int hi)), some (.d (fr q)), none], rfl, ?_⟩
  have bn : Bd 133 q.num := wq.1
  have bd : Bd 100 ((q.den : Nat) : Int) := wq.2
  have b2 : Bd 2 2 := by show (2 : Int).natAbs < 4; decide
  repeat' array_get_dec
  · exact ⟨by decide, by decide, by decide⟩
  refine i_addLL (show 10 ≤ sizeLine by omega) ?_
  repeat' array_get_dec
  · exact cmB b2 bn (by decide)
  · exact cmB b2 bd (by decide)
  refine i_addLL (show 13 ≤ sizeLine by omega) ?_
  repeat' array_get_dec
  refine i_ite (fun c9 => ?_) (fun c9 => ?_)
  · repeat' array_get_dec
    refine wp_of (by simp) (by show 13 < 2 ^ 140; decide) dh fun v h3 hv dh => ?_
    have wv : WK v := by
      simp only [List.cons_append, List.nil_append, List.mem_cons, List.not_mem_nil, or_false] at hv
      rcases hv with rfl | rfl | rfl | rfl | rfl | rfl | rfl | rfl | rfl | rfl | rfl | rfl | rfl
      · exact wk_w (wk_small wq)
      · exact wk_no fun a b x y e => by injection e with e; injection e with _ e; injection e with _ e; cases e
      · exact wk_no fun a b x y e => by injection e with e; injection e with _ e; injection e with _ e; injection e with _ e; cases e
      · exact wk_w (wk_small wq)
      · exact wk_no fun a b x y e => by cases e
      · exact wk_w (wk_small wq)
      · exact wk_w (Nat.one_lt_two_pow (by decide))
      · exact wk_no fun a b x y e => by injection e with e; injection e with _ e; injection e with _ e; injection e with e _; cases e
      · exact wk_w (wk_small wq)
      · exact wk_no fun a b x y e => by injection e with e; injection e with _ e; injection e with _ e; injection e with e _; cases e
      · exact wk_w ((b2.mul bd).mono (by decide))
      · exact wk_w (by rw [Int.natAbs_neg]; exact wk_small wq)
      · exact wk_no fun a b x y e => by injection e with e; injection e with _ e; injection e with _ e; injection e with e _; injection e with e; injection e with e _; cases e
    repeat' array_get_dec
    refine i_addTT (by unfold cut; rw [List.length_take, List.length_drop, List.length_map]; simp; omega) ?_
    repeat' array_get_dec
    refine i_addTT (by unfold cut; simp only [List.length_append, List.length_take, List.length_drop, List.length_map]; simp; omega) ?_
    repeat' array_get_dec
    refine k _ _ dh (bw_of (by rw [List.length_map]; omega) fun t ht => ?_)
    rcases List.mem_append.1 ht with ht | ht
    · rcases List.mem_append.1 ht with ht | ht
      · exact wts t (List.mem_of_mem_drop (List.mem_of_mem_take ht))
      · rw [List.mem_singleton] at ht
        rw [ht]
        exact wv
    · exact wts t (List.mem_of_mem_drop (List.mem_of_mem_take ht))
  repeat' array_get_dec
  refine i_ite (fun c9 => ?_) (fun c9 => ?_)
  · repeat' array_get_dec
    refine i_ix rfl ixj ?_
    repeat' array_get_dec
    refine i_addTT (by rw [List.length_map]; simp; omega) ?_
    repeat' array_get_dec
    refine k _ _ dh (bw_of (by rw [List.length_map]; omega) fun t ht => ?_)
    rcases List.mem_append.1 ht with ht | ht
    · exact wts t ht
    · rw [List.mem_singleton] at ht
      rw [ht]
      exact wk_tie wq
  · repeat' array_get_dec
    have ml : ∀ t ∈ stepL (T.map tieD) none none (-1), t ∈ T.map tieD := fun t ht => stepL_mem ht
    refine i_slT (by repeat constructor) ?_ ?_
    · rw [stepL_rev, List.length_reverse, List.length_map]
      omega
    repeat' array_get_dec
    exact k _ _ dh (bw_of (by rw [List.length_map]; omega) fun t ht => wts t (ml t ht))
end
open NT
/-- a sum of few fractions of no great size -/
theorem wp_totalS {xs : List Rat} {v : PyData} {s : Nat} (hv : v = .list (xs.map fr) ∨ v = .tuple (xs.map fr)) (hl : xs.length ≤ 7) (hs : s ≤ 1000) (sz : ∀ x ∈ xs, Sz s x) {h : Ho} {Q : KD} {E : XD} (k : Q (.d (fr xs.sum)) h) : M_total_of [.d v] h Q E := by
  have hN : prd (xs.map (·.den)) ≠ 0 := prd_pos fun x hx => by
    obtain ⟨y, _, rfl⟩ := List.mem_map.1 hx
    exact y.den_nz
  have hb : prd (xs.map (·.den)) ≤ 2 ^ (1000 * 7) := prd_le (k := 1000) (n := 7) (fun x hx => by
    obtain ⟨y, hy, rfl⟩ := List.mem_map.1 hx
    exact Nat.le_of_lt (Nat.lt_of_lt_of_le (sz y hy).2 (Nat.pow_le_pow_right (by decide) hs))) (by rw [List.length_map]; exact hl)
  have ez : xs = (xs.map fun x : Rat => x.num * ((prd (xs.map (·.den)) / x.den : Nat) : Int)).map (ov (prd (xs.map (·.den)))) := by
    rw [List.map_map]
    conv => lhs; rw [← List.map_id xs]
    exact List.map_congr_left fun x hx => ov_of hN (dvd_prd (List.mem_map.2 ⟨x, hx, rfl⟩))
  have es : ((xs.map fun x : Rat => x.num * ((prd (xs.map (·.den)) / x.den : Nat) : Int)).map (ov (prd (xs.map (·.den))))).sum = xs.sum := by rw [← ez]
  rw [← es, ov_sum hN] at k
  refine wp_totalW (zs := xs.map fun x : Rat => x.num * ((prd (xs.map (·.den)) / x.den : Nat) : Int)) (N := prd (xs.map (·.den))) (B := 2 ^ 5 * (2 ^ 1000 * 2 ^ 7000)) (by rw [← ez]; exact hv) (by rw [List.length_map]; omega) hN (Nat.lt_of_le_of_lt hb (Nat.pow_lt_pow_right (by decide) (by decide))) ?_ ?_ k
  · refine Nat.le_trans (absum_le (c := 2 ^ 1000 * 2 ^ 7000) fun z hz => ?_) (Nat.mul_le_mul_right _ (by rw [List.length_map]; have : (2 : Nat) ^ 5 = 32 := rfl; omega))
    obtain ⟨x, hx, rfl⟩ := List.mem_map.1 hz
    rw [Int.natAbs_mul, Int.natAbs_natCast]
    exact Nat.mul_le_mul (Nat.le_of_lt (Nat.lt_of_lt_of_le (sz x hx).1 (Nat.pow_le_pow_right (by decide) hs))) (Nat.le_trans (Nat.div_le_self _ _) hb)
  · rw [← Nat.pow_add, ← Nat.pow_add]
    exact Nat.pow_lt_pow_right (by decide) (by decide)
section
variable {f : Int → Int → Rat} {ps : List Int} {p : Int} {h : Ho} {Q : KD} {E : XD}
theorem wp_pairs (w : NW f ps) (hp : p ∈ ps) (k : ∀ h', Fra h h' → Q (.d (.tuple ((nb (f p) ps).map fun o => ndD (o, f p o)))) h') : M_pairs_of [.d (netD ps (tl f ps)), .d (.int p)] h Q E := by
  have sl : sizeLine = 2 ^ 24 := rfl
  have nlen : (nb (f p) ps).length ≤ 7 := Nat.le_trans (List.length_filter_le _ _) w.len
  refine i_mir rfl (by repeat constructor) (by repeat constructor) ?_
  unfold B_pairs_of
  repeat' array_get_dec
  refine wp_tbp w fun h1 fr1 hm1 T => ?_
  obtain ⟨kvs, l, es, r1, r2, r3, r4, r5, r6, r7⟩ := T.row hp
  repeat' array_get_dec
  refine ⟨h.length, kvs, p, _, rfl, r1, rfl, r2, ?_⟩
  repeat' array_get_dec
  refine i_lcv ?_
  refine i_iseqG ?_
  repeat' array_get_dec
  refine i_sortDi w.lt w.len r5 r6 ?_
  refine ⟨_, rfl, ?_⟩
  refine lcv_indS (hb := h1) (fun k acc => acc = (((nb (f p) ps).take k).map fun o => D.d (ndD (o, f p o)))) (fun _ => trivial) ?_ ?_ rfl
  · rintro i z acc ez rfl
    rw [List.getElem?_map, List.getElem?_map, Option.map_map, Option.map_eq_some_iff] at ez
    obtain ⟨o, eo, rfl⟩ := ez
    obtain ⟨o1, o2⟩ := mem_nb.1 (List.mem_of_getElem? eo)
    refine ⟨_, .d (ndD (o, f p o)), rfl, fun P' qq => ?_, ?_, ?_⟩
    · show fTup _ [_, _, some (.loc l), some (.d (.int o))] _ _ _
      repeat' array_get_dec
      refine ⟨l, es, o, _, rfl, ?_, rfl, by rw [r6.lk]; exact en_some o2, ?_⟩
      · rw [List.getElem?_append_left (List.getElem?_eq_some_iff.1 r5).1]
        exact r5
      repeat' array_get_dec
      exact qq
    · rw [List.length_map, List.length_take]
      omega
    · rw [List.take_add_one, eo]
      simp
  rintro acc rfl
  rw [List.length_map, List.length_map, List.take_length]
  refine ⟨_, allD_fn _ _, ?_⟩
  repeat' array_get_dec
  exact k _ fr1
theorem wp_pullof (w : NW f ps) (sz : ∀ a b, W2 (f a b)) (hp : p ∈ ps) (k : ∀ h', Fra h h' → Q (.d (fr ((nb (f p) ps).map (f p)).sum)) h') : M_pull_of [.d (netD ps (tl f ps)), .d (.int p)] h Q E := by
  have sl : sizeLine = 2 ^ 24 := rfl
  have nlen : (nb (f p) ps).length ≤ 7 := Nat.le_trans (List.length_filter_le _ _) w.len
  refine i_mir rfl (by repeat constructor) (by repeat constructor) ?_
  unfold B_pull_of
  repeat' array_get_dec
  refine i_lcv ?_
  refine i_iseqG ?_
  repeat' array_get_dec
  refine wp_pairs w hp fun h1 fr1 => ?_
  refine ⟨_, rfl, ?_⟩
  refine lcv_indS (hb := h1) (fun k acc => acc = (((nb (f p) ps).take k).map fun o => D.d (fr (f p o)))) (fun _ => trivial) ?_ ?_ rfl
  · rintro i z acc ez rfl
    rw [List.getElem?_map, List.getElem?_map, Option.map_map, Option.map_eq_some_iff] at ez
    obtain ⟨o, eo, rfl⟩ := ez
    refine ⟨_, .d (fr (f p o)), rfl, fun P' qq => ?_, ?_, ?_⟩
    · show fVar 3 [_, _, some (.d (.int o)), some (.d (fr (f p o)))] _ _ _
      repeat' array_get_dec
      exact qq
    · rw [List.length_map, List.length_take]
      omega
    · rw [List.take_add_one, eo]
      simp
  rintro acc rfl
  rw [List.length_map, List.length_map, List.take_length]
  refine ⟨((nb (f p) ps).map (f p)).map fr, by rw [List.map_map]; exact allD_fn _ _, ?_⟩
  repeat' array_get_dec
  refine wp_totalS (s := 133) (.inl rfl) (by rw [List.length_map]; omega) (by decide) (fun x hx => by
    obtain ⟨o, _, rfl⟩ := List.mem_map.1 hx
    exact (sz _ _).sz) ?_
  exact k _ fr1
/-- what flows out -/
def outR (f : Int → Int → Rat) (u : Int → Rat) (p : Int) (ps : List Int) : Rat := ((oth p ps).map fun b => f p b * (u p - u b)).sum
theorem out_nb {u : Int → Rat} (w : NW f ps) (hp : p ∈ ps) : ((nb (f p) ps).map fun b => f p b * (u p - u b)).sum = outR f u p ps := by
  rw [nb_sum (w := f p) (fun b q => q * (u p - u b)) (fun _ => Rat.zero_mul _), sum_perm ((oth_perm w.lt hp).map fun b => f p b * (u p - u b)), List.map_cons, List.sum_cons, w.diag, Rat.zero_mul, Rat.zero_add]
  rfl
def cO (p : Int) (u : Int → Rat) (z : Int × Int × Rat) : Rat := if p = z.1 ∨ p = z.2.1 then z.2.2 * (u p - u (z.1 + z.2.1 - p)) else 0
theorem out_law {u : Int → Rat} (w : NW f ps) (hp : p ∈ ps) : ((tl f ps).map (cO p u)).sum = outR f u p ps := by
  have e := tl_sum (fun a b q => if p = a ∨ p = b then q * (u p - u (a + b - p)) else 0) (fun a b => by split <;> simp) f ps
  refine e.trans ?_
  rw [pr_perm (fun a b => ?_) (oth_perm w.lt hp)]
  · unfold pr
    rw [pr_zero (l := oth p ps) fun a ha b hb => if_neg fun z => z.elim (fun e => (mem_oth.1 ha).2 e.symm) fun e => (mem_oth.1 hb).2 e.symm, Rat.add_zero]
    refine sum_map_congr fun b hb => ?_
    rw [if_pos (.inl rfl), show p + b - p = b by omega]
  · rw [w.sy a b, show a + b - p = b + a - p by omega]
    by_cases c : p = a ∨ p = b
    · rw [if_pos c, if_pos c.symm]
    · rw [if_neg c, if_neg fun z => c z.symm]
theorem wp_outflow {u : Int → Rat} (w : NW f ps) (sz : ∀ a b, W2 (f a b)) (su : ∀ q, W2 (u q)) (hp : p ∈ ps) (nf : NF h) (k : ∀ h', Fra h h' → Q (.d (fr (outR f u p ps))) h') : M_outflow [.d (netD ps (tl f ps)), .tp (wD u ps), .d (.int p)] h Q E := by
  have sl : sizeLine = 2 ^ 24 := rfl
  have len := w.len
  have nlen : (nb (f p) ps).length ≤ 7 := Nat.le_trans (List.length_filter_le _ _) w.len
  refine i_mir rfl (by repeat constructor) (by repeat constructor) ?_
  unfold B_outflow
  repeat' array_get_dec
  refine ⟨_, ps.map fun q => (q, fr (u q)), rfl, .inl rfl, by rw [List.length_map]; omega, ?_⟩
  have kn := KN.mg (ps := ps) w.len u
  have fr0 : Fra h (h ++ [.di (mgD [] (ps.map fun q => (q, fr (u q))))]) := (Fra.refl h).push fun n _ => noRef_di kn.dat n
  have at0 : (h ++ [O.di (mgD [] (ps.map fun q => (q, fr (u q))))])[h.length]? = some (.di (mgD [] (ps.map fun q => (q, fr (u q))))) := concat_at' _ _
  generalize mgD [] (ps.map fun q => (q, fr (u q))) = kvs at kn fr0 at0 ⊢
  generalize h ++ [O.di kvs] = h1 at fr0 at0 ⊢
  repeat' array_get_dec
  refine i_lcv ?_
  refine i_iseqG ?_
  repeat' array_get_dec
  refine wp_pairs w hp fun h2 fr1 => ?_
  have at2 : h2[h.length]? = some (.di kvs) := by rw [fr1.at (List.getElem?_eq_some_iff.1 at0).1]; exact at0
  have s400 : ∀ o, Sz 400 (f p o * (u p - u o)) := fun o => (sz p o).sz.mul ((su p).sz.sub (su o).sz)
  have known : ∀ {acc : O} {q : Int} {Q : KD}, q ∈ ps → Q (.d (fr (u q))) (h2 ++ [acc]) → dgI Q (.loc h.length) (.d (.int q)) (h2 ++ [acc]) := fun {acc q Q} hq hQ =>
    ⟨_, kvs, q, _, rfl, by rw [List.getElem?_append_left (List.getElem?_eq_some_iff.1 at2).1]; exact at2, rfl, kn.at' q hq, hQ⟩
  refine ⟨_, rfl, ?_⟩
  refine lcv_indS (hb := h2) (fun k acc => acc = (((nb (f p) ps).take k).map fun o => D.d (fr (f p o * (u p - u o))))) (fun _ => trivial) ?_ ?_ rfl
  · rintro i z acc ez rfl
    rw [List.getElem?_map, List.getElem?_map, Option.map_map, Option.map_eq_some_iff] at ez
    obtain ⟨o, eo, rfl⟩ := ez
    obtain ⟨o1, o2⟩ := mem_nb.1 (List.mem_of_getElem? eo)
    refine ⟨_, .d (fr (f p o * (u p - u o))), rfl, fun P' qq => ?_, ?_, ?_⟩
    · show fFn _ _ [_, _, some (.d (.int p)), some (.loc h.length), some (.d (.int o)), some (.d (fr (f p o)))] _ _ _
      repeat' array_get_dec
      refine known hp ?_
      repeat' array_get_dec
      refine known o1 ?_
      repeat' array_get_dec
      refine wp_minus (su _).sz (su _).sz (by decide) ?_
      repeat' array_get_dec
      refine wp_times (sz _ _).sz ((su _).sz.sub (su _).sz) (by decide) ?_
      exact qq
    · rw [List.length_map, List.length_take]
      omega
    · rw [List.take_add_one, eo]
      simp
  rintro acc rfl
  rw [List.length_map, List.length_map, List.take_length]
  refine ⟨((nb (f p) ps).map fun o => f p o * (u p - u o)).map fr, by rw [List.map_map]; exact allD_fn _ _, ?_⟩
  repeat' array_get_dec
  refine wp_totalS (s := 400) (.inl rfl) (by rw [List.length_map]; omega) (by decide) (fun x hx => by
    obtain ⟨o, _, rfl⟩ := List.mem_map.1 hx
    exact s400 o) ?_
  rw [out_nb w hp]
  exact k _ (fr0.trans fr1)
theorem wp_lout {u : Int → Rat} {r : Nat} {kvs : List (Int × D)} (w : NW f ps) (sz : ∀ a b, W2 (f a b)) (su : ∀ q, W2 (u q)) (hp : p ∈ ps) (hr : h[r]? = some (.di kvs)) (kn : KN ps kvs u) (k : Sz 1706 (outR f u p ps) → Q (.d (fr (outR f u p ps))) h) : M__law_out [.d (.tuple ((tl f ps).map tieD)), .loc r, .d (.int p)] h Q E := by
  have hN : Bb f p ps * (Dd u p ps * (u p).den) ≠ 0 := Nat.mul_ne_zero (Bb_ne _ _ _) (Nat.mul_ne_zero (Dd_ne _ _ _) (u p).den_nz)
  have hb : Bb f p ps * (Dd u p ps * (u p).den) < 2 ^ 1301 := by
    refine Nat.lt_of_le_of_lt (Nat.mul_le_mul (Bb_le w hp sz) (Nat.mul_le_mul (Dd_le w hp su) (Nat.le_of_lt (su p).2))) ?_
    simp only [← Nat.pow_add]
    exact Nat.pow_lt_pow_right (by decide) (by decide)
  have hT : ∀ z ∈ tl f ps, z.1 ∈ ps ∧ z.2.1 ∈ ps := fun z hz => let m := (mem_tl w.lt).1 hz; ⟨m.1, m.2.1⟩
  have s3 : ∀ z ∈ tl f ps, W2 z.2.2 := fun z hz => by
    have m := (mem_tl w.lt).1 hz
    rw [← m.2.2.2.2]
    exact sz _ _
  have hl := tl_le (g := f) w.len
  have hc : ∀ t ∈ tl f ps, (cO p u t).den ∣ Bb f p ps * (Dd u p ps * (u p).den) ∧ Sz 400 (cO p u t) := fun t ht => by
    obtain ⟨m1, m2, m3, m4, m5⟩ := (mem_tl w.lt).1 ht
    have one : ∀ {o : Int}, o ∈ oth p ps → Ov (Bb f p ps * (Dd u p ps * (u p).den)) (f p o * (u p - u o)) := fun ho => (Ov.Bb ho).mul (((Ov.den _).up (Nat.dvd_mul_left _ _)).sub ((Ov.Dd ho).up (Nat.dvd_mul_right _ _)))
    unfold cO
    by_cases c : p = t.1 ∨ p = t.2.1
    · rw [if_pos c, ← m5]
      refine ⟨?_, (sz _ _).sz.mul ((su _).sz.sub (su _).sz)⟩
      rcases c with c | c
      · have ho : t.2.1 ∈ oth p ps := mem_oth.2 ⟨m2, by omega⟩
        rw [← c, show p + t.2.1 - p = t.2.1 by omega]
        exact Ov.dvd hN (one ho)
      · have ho : t.1 ∈ oth p ps := mem_oth.2 ⟨m1, by omega⟩
        rw [← c, w.sy, show t.1 + p - p = t.1 by omega]
        exact Ov.dvd hN (one ho)
    · rw [if_neg c]
      exact ⟨Nat.one_dvd _, by decide, by decide⟩
  refine i_mir rfl (by repeat constructor) (by repeat constructor) ?_
  unfold B__law_out
  repeat' array_get_dec
  refine i_iseqG ?_
  repeat' array_get_dec
  refine ⟨_, rfl, ?_⟩
  refine for_ind (fun i ρ' h' => h' = h ∧ ∃ v4 v5 v6, ρ' = [some (.d (.tuple ((tl f ps).map tieD))), some (.loc r), some (.d (.int p)), some (.d (fr (((tl f ps).take i).map (cO p u)).sum)), v4, v5, v6]) ?_ ?_ ⟨rfl, _, _, _, rfl⟩
  · rintro i x ρ' h' G ex ⟨rfl, v4, v5, v6, rfl⟩ hG
    rw [List.getElem?_map, List.getElem?_map, Option.map_map, Option.map_eq_some_iff] at ex
    obtain ⟨⟨lo, hi, q⟩, et, rfl⟩ := ex
    have ht := List.mem_of_getElem? et
    have st := sum_take1 (c := cO p u) et
    obtain ⟨ha, hb'⟩ := psum_take hN hb hc (by omega) (i + 1)
    obtain ⟨ha0, hb0⟩ := psum_take hN hb hc (by omega) i
    rw [st] at ha hb'
    refine ⟨_, rfl, ?_⟩
    show (sIf _ _ _) [some (.d (.tuple ((tl f ps).map tieD))), some (.loc r), some (.d (.int p)), some (.d (fr (((tl f ps).take i).map (cO p u)).sum)), some (.d (.int lo)), some (.d (.int hi)), some (.d (fr q))] _ _
    have yes : (p = lo ∨ p = hi) → sAsg (fFn M__law_plus (aCons (fVar 3) (aCons (fFn M__law_times (aCons (fVar 6) (aCons (fFn M__law_less (aCons (fDgI (fVar 1) (fVar 2)) (aCons (fDgI (fVar 1) (fBin rSub2 (fBin rAdd2 (fVar 4) (fVar 5)) (fVar 2))) aNil))) aNil))) aNil))) (gNm 3) [some (.d (.tuple ((tl f ps).map tieD))), some (.loc r), some (.d (.int p)), some (.d (fr (((tl f ps).take i).map (cO p u)).sum)), some (.d (.int lo)), some (.d (.int hi)), some (.d (fr q))] h' ⟨fun ρ2 h2 => stay (.d (.tuple ((tl f ps).map tieD))) (((tl f ps).map tieD).map D.d) h2 ∧ G ρ2 h2, fun x h => Q x h, fun _ _ => False, fun ρ2 h2 => stay (.d (.tuple ((tl f ps).map tieD))) (((tl f ps).map tieD).map D.d) h2 ∧ G ρ2 h2, fun x _ h => E x h⟩ := by
      intro c
      have ec : cO p u (lo, hi, q) = q * (u p - u (lo + hi - p)) := if_pos c
      have hq := (hc _ ht).2
      have m : lo + hi - p ∈ ps := by
        obtain ⟨m1, m2⟩ := hT _ ht
        rcases c with e | e
        · rw [show lo + hi - p = hi by omega]; exact m2
        · rw [show lo + hi - p = lo by omega]; exact m1
      rw [ec] at st ha hb' hq
      repeat' array_get_dec
      refine ⟨r, kvs, _, _, rfl, hr, rfl, kn.at' _ hp, ?_⟩
      repeat' array_get_dec
      refine ⟨r, kvs, _, _, rfl, hr, rfl, kn.at' _ m, ?_⟩
      repeat' array_get_dec
      refine wp_lless (su _).sz (su _).sz (by decide) (sz_den ((su _).sz.sub (su _).sz) (by decide)) ?_
      repeat' array_get_dec
      refine wp_ltimes (s3 _ ht).sz ((su _).sz.sub (su _).sz) (by decide) (sz_den hq (by omega)) ?_
      repeat' array_get_dec
      refine wp_lplus hb0 hq (by omega) (den_lt hN hb ha (by omega)) ?_
      repeat' array_get_dec
      rw [← st]
      exact ⟨trivial, hG _ _ ⟨rfl, _, _, _, rfl⟩⟩
    repeat' array_get_dec
    refine i_ite (fun c => ?_) (fun c => ?_)
    · refine i_ifT rfl ?_
      exact yes (.inl (of_decide_eq_true c))
    · repeat' array_get_dec
      refine i_ite (fun c2 => ?_) (fun c2 => ?_)
      · exact yes (.inr (of_decide_eq_true c2))
      · repeat' array_get_dec
        have ec : cO p u (lo, hi, q) = 0 := if_neg fun z => z.elim (of_decide_eq_false c) (of_decide_eq_false c2)
        rw [ec, Rat.add_zero] at st
        refine ⟨trivial, hG _ _ ⟨rfl, _, _, _, by rw [st]⟩⟩
  · rintro ρ' h' ⟨rfl, v4, v5, v6, rfl⟩
    rw [List.length_map, List.length_map, List.take_length, out_law w hp]
    obtain ⟨_, hX⟩ := psum_take hN hb hc (by omega) (tl f ps).length
    rw [List.take_length, out_law w hp] at hX
    repeat' array_get_dec
    exact k hX
end
open NT
def upd2 (f : Int → Int → Rat) (a b : Int) (v : Rat) (c d : Int) : Rat := if (c = a ∧ d = b) ∨ (c = b ∧ d = a) then v else f c d
theorem upd_nw {f : Int → Int → Rat} {ps : List Int} (w : NW f ps) {a b : Int} (ha : a ∈ ps) (hb : b ∈ ps) (ne : a ≠ b) (v : Rat) : NW (upd2 f a b v) ps := by
  refine ⟨w.lt, w.len, fun c d => ?_, fun c d h => ?_⟩
  · unfold upd2
    have e : ((c = a ∧ d = b) ∨ (c = b ∧ d = a)) ↔ ((d = a ∧ c = b) ∨ (d = b ∧ c = a)) := ⟨fun h => h.elim (fun h => .inr ⟨h.2, h.1⟩) fun h => .inl ⟨h.2, h.1⟩, fun h => h.elim (fun h => .inr ⟨h.2, h.1⟩) fun h => .inl ⟨h.2, h.1⟩⟩
    rw [w.sy c d]
    by_cases x : (c = a ∧ d = b) ∨ (c = b ∧ d = a)
    · rw [if_pos x, if_pos (e.1 x)]
    · rw [if_neg x, if_neg fun y => x (e.2 y)]
  · unfold upd2 at h
    by_cases x : (c = a ∧ d = b) ∨ (c = b ∧ d = a)
    · rcases x with ⟨rfl, rfl⟩ | ⟨rfl, rfl⟩
      · exact ⟨ha, hb, ne⟩
      · exact ⟨hb, ha, fun e => ne e.symm⟩
    · rw [if_neg x] at h
      exact w.on c d h
theorem eqv_pair (a b c d : Int) : PyData.eqv (.tuple [.int a, .int b]) (.tuple [.int c, .int d]) = (decide (a = c) && decide (b = d)) := by
  rw [PyData.eqv, PyData.eqvAll, PyData.eqvAll, PyData.eqvAll, eqv_i, eqv_i, Bool.and_true]
section
variable {f : Int → Int → Rat} {ps : List Int} {R h : Ho} {Q : KD} {E : XD}
theorem wp_tied (w : NW f ps) (sz : ∀ a b, W2 (f a b)) {a b : Int} (ha : a ∈ ps) (hb : b ∈ ps) (ne : a ≠ b) {x : Rat} (sx : Wd x) (nf : NF h) (k : ∀ h', Fra h h' → Q (.d (netD ps (tl (upd2 f a b (f a b + x)) ps))) h') : M_tied_more [.d (netD ps (tl f ps)), .d (.int a), .d (.int b), .d (fr x)] h Q E := by
  refine i_mir rfl (by repeat constructor) (by repeat constructor) ?_
  unfold B_tied_more
  repeat' array_get_dec
  refine wp_tbp w fun h1 fr1 hm1 T => ?_
  repeat' array_get_dec
  refine wp_more (h0 := h) (lt_nodup w.lt) w.len (Nat.le_refl _) T ha hb ha hb ne (w.sy b a) (Wd.of (sz a b).sz (by decide)) sx fun h2 kp T2 => ?_
  repeat' array_get_dec
  have fr2 := kp.fra fr1
  have hm2 : h.length + ps.length < h2.length := by rw [kp.len]; exact hm1
  refine wp_netin w.lt w.len (upd_nw w ha hb ne _) (T2.congr fun c _ d => rfl) hm2 (fr2.nf nf) ?_
  exact k _ fr2
/-- the ties with a key -/
def keyB (a b : Int) (z : Int × Int × Rat) : Bool := decide (z.1 = a) && decide (z.2.1 = b)
theorem head_key (w : NW f ps) {a b : Int} (ha : a ∈ ps) (hb : b ∈ ps) (lt : a < b) : ((((tl f ps).filter (keyB a b)).map fun z => fr z.2.2) ++ [fr 0])[0]? = some (fr (f a b)) := by
  cases e : (tl f ps).filter (keyB a b) with
  | nil =>
    have z : f a b = 0 := by
      by_cases z : f a b = 0
      · exact z
      · have m : (a, b, f a b) ∈ (tl f ps).filter (keyB a b) := List.mem_filter.2 ⟨(mem_tl w.lt).2 ⟨ha, hb, lt, z, rfl⟩, by simp [keyB]⟩
        rw [e] at m
        exact (nomatch m)
    rw [z]
    rfl
  | cons z l =>
    have m : z ∈ (tl f ps).filter (keyB a b) := by rw [e]; exact List.mem_cons_self ..
    obtain ⟨m1, m2⟩ := List.mem_filter.1 m
    unfold keyB at m2
    rw [Bool.and_eq_true, decide_eq_true_iff, decide_eq_true_iff] at m2
    have := ((mem_tl w.lt).1 m1).2.2.2.2
    rw [m2.1, m2.2] at this
    rw [this]
    rfl
theorem rest_perm (w : NW f ps) {a b : Int} (ha : a ∈ ps) (hb : b ∈ ps) (lt : a < b) (v : Rat) : ((tl f ps).filter (fun z => !keyB a b z) ++ (if v = 0 then [] else [(a, b, v)])).Perm (tl (upd2 f a b v) ps) := by
  have wu := upd_nw w ha hb (by omega) v
  have ndT : ∀ {g : Int → Int → Rat}, (tl g ps).Nodup := (tl_ord w.lt).imp fun {a b} q e => by subst e; unfold Lx at q; omega
  have keyN : ∀ {z : Int × Int × Rat}, (!keyB a b z) = true ↔ ¬ (z.1 = a ∧ z.2.1 = b) := fun {z} => by
    unfold keyB
    rw [Bool.not_eq_true', Bool.and_eq_false_iff, decide_eq_false_iff_not, decide_eq_false_iff_not]
    constructor
    · rintro (h | h) ⟨h1, h2⟩
      · exact h h1
      · exact h h2
    · intro h
      by_cases c : z.1 = a
      · exact .inr fun d => h ⟨c, d⟩
      · exact .inl c
  refine perm_of_mem ?_ ndT fun z => ?_
  · rw [List.nodup_append]
    refine ⟨ndT.sublist List.filter_sublist, by split <;> simp, fun x hx y hy e => ?_⟩
    subst e
    have := keyN.1 (List.mem_filter.1 hx).2
    split at hy
    · exact (nomatch hy)
    · rw [List.mem_singleton] at hy
      rw [hy] at this
      exact this ⟨rfl, rfl⟩
  · rw [List.mem_append, List.mem_filter, keyN, mem_tl w.lt, mem_tl w.lt]
    unfold upd2
    constructor
    · rintro (⟨⟨h1, h2, h3, h4, h5⟩, h6⟩ | hz)
      · refine ⟨h1, h2, h3, h4, ?_⟩
        rw [if_neg fun y => y.elim h6 fun y => by omega]
        exact h5
      · split at hz
        · exact (nomatch hz)
        · rename_i v0
          rw [List.mem_singleton] at hz
          subst hz
          exact ⟨ha, hb, lt, v0, if_pos (.inl ⟨rfl, rfl⟩)⟩
    · rintro ⟨h1, h2, h3, h4, h5⟩
      by_cases c : z.1 = a ∧ z.2.1 = b
      · rw [if_pos (.inl c)] at h5
        right
        rw [if_neg (by rw [h5]; exact h4), List.mem_singleton]
        exact Prod.ext c.1 (Prod.ext c.2 h5.symm)
      · rw [if_neg fun y => y.elim c fun y => by omega] at h5
        exact .inl ⟨⟨h1, h2, h3, h4, h5⟩, c⟩
theorem wp_lmore (w : NW f ps) (sz : ∀ a b, W2 (f a b)) (pb : ∀ q ∈ ps, q.natAbs < 2 ^ 60) (dh : Deal R h) (nr : NFR R) (k : ∀ R' h', Deal R' h' → NFR R' → Q (.d (.bool true)) h') : M__law_more [.loc 1, .d (netD ps (tl f ps))] h Q E := by
  have sl : sizeLine = 2 ^ 24 := rfl
  have len := w.len
  have tl21 := tl_le (g := f) w.len
  refine i_mir rfl (by repeat constructor) (by repeat constructor) ?_
  unfold B__law_more
  repeat' array_get_dec
  rw [List.length_map, List.length_map]
  refine i_ite (fun c => ?_) (fun c => ?_)
  · repeat' array_get_dec
    exact k _ _ dh nr
  have c2 : 2 ≤ ps.length := by have := of_decide_eq_false c; omega
  repeat' array_get_dec
  rw [List.length_map, List.length_map]
  refine wp_any (by omega) (by omega) dh fun v h1 v0 v1 dh => ?_
  obtain ⟨i, rfl⟩ : ∃ i : Nat, v = (i : Nat) := ⟨v.toNat, by omega⟩
  obtain ⟨lo, elo⟩ : ∃ z, ps[i]? = some z := ⟨_, List.getElem?_eq_getElem (by omega)⟩
  have ix : ∀ {j : Nat} {q : Int}, ps[j]? = some q → L2.atI ((ps.map PyData.int).map D.d) (j : Nat) = some (.d (.int q)) := fun {j q} e => atI_nat (by rw [List.getElem?_map, List.getElem?_map, e]; rfl)
  repeat' array_get_dec
  refine i_asgG ?_
  repeat' array_get_dec
  refine i_ix rfl (ix elo) ?_
  repeat' array_get_dec
  rw [List.length_map, List.length_map]
  refine wp_any (by omega) (by omega) dh fun v h2 v0 v1 dh => ?_
  obtain ⟨j, rfl⟩ : ∃ j : Nat, v = (j : Nat) := ⟨v.toNat, by omega⟩
  obtain ⟨hi, ehi⟩ : ∃ z, ps[i + 1 + j]? = some z := ⟨_, List.getElem?_eq_getElem (by omega)⟩
  repeat' array_get_dec
  rw [show ((i : Nat) : Int) + 1 + (j : Nat) = ((i + 1 + j : Nat) : Int) by omega]
  refine i_ix rfl (ix ehi) ?_
  repeat' array_get_dec
  have mlo := List.mem_of_getElem? elo
  have mhi := List.mem_of_getElem? ehi
  have lt := get_lt w.lt elo ehi (by omega)
  refine ⟨[some (.loc 1), some (.d (netD ps (tl f ps))), some (.d (.tuple (ps.map PyData.int))), some (.d (.tuple ((tl f ps).map tieD))), some (.d (.int (i : Nat))), some (.d (.int lo)), some (.d (.int hi)), none, none, none, none, none, none], rfl, ?_⟩
  repeat' array_get_dec
  refine i_lcv ?_
  refine i_iseqG ?_
  repeat' array_get_dec
  refine ⟨_, rfl, ?_⟩
  have c2' : ∀ (a b : Int) (q : PyData), cut [PyData.int a, .int b, q] none (some 2) = [.int a, .int b] := fun a b q => cut_0n _ 2
  refine lcv_ind (hb := h2) (fun i acc => acc = ((((tl f ps).take i).filter (keyB lo hi)).map fun z => D.d (fr z.2.2))) (fun _ => trivial) ?_ ?_ rfl
  · rintro i z acc ez rfl
    rw [List.getElem?_map, List.getElem?_map, Option.map_map, Option.map_eq_some_iff] at ez
    obtain ⟨⟨a, b, q⟩, et, rfl⟩ := ez
    have il := (List.getElem?_eq_some_iff.1 et).1
    have tk : (tl f ps).take (i + 1) = (tl f ps).take i ++ [(a, b, q)] := by rw [List.take_add_one, et]; rfl
    refine ⟨_, keyB lo hi (a, b, q), rfl, fun P' qq => ?_, fun c => ⟨.d (fr q), fun P' qq => ?_, ?_, ?_⟩, fun c => ?_⟩
    · show tVal _ [_, _, _, _, _, some (.d (.int lo)), some (.d (.int hi)), _, some (.d (tieD (a, b, q))), _, _, _, _] _ _ _
      repeat' array_get_dec
      rw [c2']
      refine i_eqd (p := .tuple [.int a, .int b]) (q := .tuple [.int lo, .int hi]) rfl rfl rfl rfl ni_tup ?_
      rw [eqv_pair]
      refine i_isb ?_
      exact qq
    · show fBin _ _ _ [_, _, _, _, _, some (.d (.int lo)), some (.d (.int hi)), _, some (.d (tieD (a, b, q))), _, _, _, _] _ _ _
      repeat' array_get_dec
      exact qq
    · rw [List.length_map]
      have h1 := List.length_filter_le (keyB lo hi) ((tl f ps).take i)
      rw [List.length_take] at h1
      omega
    · rw [tk, List.filter_append, List.filter_cons, if_pos c]
      simp
    · rw [tk, List.filter_append, List.filter_cons, if_neg (by rw [c]; decide)]
      simp
  rintro acc rfl
  rw [List.length_map, List.length_map, List.take_length]
  refine ⟨_, allD_fn _ _, ?_⟩
  repeat' array_get_dec
  have fl : ((tl f ps).filter (keyB lo hi)).length ≤ 21 := Nat.le_trans (List.length_filter_le _ _) tl21
  refine i_addLL (by rw [List.length_map]; simp; omega) ?_
  have hk := head_key w mlo mhi lt
  have z0 : PyData.tuple [.int 0, .int 1] = fr 0 := rfl
  rw [z0]
  generalize ((tl f ps).filter (keyB lo hi)).map (fun z => fr z.2.2) ++ [fr 0] = H at hk ⊢
  have ixH : L2.atI (H.map D.d) 0 = some (.d (fr (f lo hi))) := atI_nat (i := 0) (by rw [List.getElem?_map, hk]; rfl)
  repeat' array_get_dec
  refine wp_someR (by decide) (by decide) dh fun a b h3 a1 b0 b1 dh => ?_
  have ws := W2.mk' a1 b0 b1
  generalize mkRat a b = s at ws
  repeat' array_get_dec
  refine i_ix rfl ixH ?_
  repeat' array_get_dec
  refine wp_lless (x := 0) (n := 1) ⟨by decide, by decide⟩ (sz lo hi).sz (by decide) (sz_den (Sz.sub (n := 1) (m := 133) ⟨by decide, by decide⟩ (sz lo hi).sz) (by decide)) ?_
  repeat' array_get_dec
  refine wp_of (xs := [fr s, fr (0 - f lo hi)]) (by simp) (by show 2 < 2 ^ 140; decide) dh fun y h4 hy dh => ?_
  obtain ⟨x, rfl, sx⟩ : ∃ x, y = fr x ∧ Sz 140 x := by
    simp only [List.mem_cons, List.not_mem_nil, or_false] at hy
    rcases hy with rfl | rfl
    · exact ⟨_, rfl, ws.sz.mono (by decide)⟩
    · exact ⟨_, rfl, (Sz.sub (n := 1) (m := 133) ⟨by decide, by decide⟩ (sz lo hi).sz).mono (by decide)⟩
  repeat' array_get_dec
  refine i_lcv ?_
  refine i_iseqG ?_
  repeat' array_get_dec
  refine ⟨_, rfl, ?_⟩
  refine lcv_ind (hb := h4) (fun i acc => acc = ((((tl f ps).take i).filter (fun z => !keyB lo hi z)).map fun z => D.d (tieD z))) (fun _ => trivial) ?_ ?_ rfl
  · rintro i z acc ez rfl
    rw [List.getElem?_map, List.getElem?_map, Option.map_map, Option.map_eq_some_iff] at ez
    obtain ⟨⟨a, b, q⟩, et, rfl⟩ := ez
    have il := (List.getElem?_eq_some_iff.1 et).1
    have tk : (tl f ps).take (i + 1) = (tl f ps).take i ++ [(a, b, q)] := by rw [List.take_add_one, et]; rfl
    refine ⟨_, !keyB lo hi (a, b, q), rfl, fun P' qq => ?_, fun c => ⟨.d (tieD (a, b, q)), fun P' qq => ?_, ?_, ?_⟩, fun c => ?_⟩
    · show tVal _ [_, _, _, _, _, some (.d (.int lo)), some (.d (.int hi)), _, some (.d (tieD (a, b, q))), _, _, _, _] _ _ _
      repeat' array_get_dec
      rw [c2']
      refine i_ned (p := .tuple [.int a, .int b]) (q := .tuple [.int lo, .int hi]) rfl rfl rfl rfl ni_tup ?_
      rw [eqv_pair]
      refine i_isb ?_
      exact qq
    · show fVar 8 [_, _, _, _, _, some (.d (.int lo)), some (.d (.int hi)), _, some (.d (tieD (a, b, q))), _, _, _, _] _ _ _
      repeat' array_get_dec
      exact qq
    · rw [List.length_map]
      have h1 := List.length_filter_le (fun z => !keyB lo hi z) ((tl f ps).take i)
      rw [List.length_take] at h1
      omega
    · rw [tk, List.filter_append, List.filter_cons, if_pos c]
      simp
    · rw [tk, List.filter_append, List.filter_cons, if_neg (by rw [c]; decide)]
      simp
  rintro acc rfl
  rw [List.length_map, List.length_map, List.take_length]
  refine ⟨_, allD_fn _ _, ?_⟩
  repeat' array_get_dec
  refine i_ix rfl ixH ?_
  repeat' array_get_dec
  have snew : Sz 280 (f lo hi + x) := ((sz lo hi).sz.add sx).mono (by decide)
  refine wp_lplus (sz lo hi).sz sx (by decide) (sz_den snew (by decide)) ?_
  repeat' array_get_dec
  have rp := rest_perm w mlo mhi lt (f lo hi + x)
  have wu := upd_nw w mlo mhi (show lo ≠ hi by omega) (f lo hi + x)
  have ushow : wideAll [.tuple (ps.map PyData.int), .tuple ((tl (upd2 f lo hi (f lo hi + x)) ps).map tieD)] = true ∧ (netD ps (tl (upd2 f lo hi (f lo hi + x)) ps)).depth < 60 ∧ (netD ps (tl (upd2 f lo hi (f lo hi + x)) ps)).shown.length ≤ sizeLine :=
    net_show pb (fun y hy => by
      obtain ⟨m1, m2, m3, m4, m5⟩ := (mem_tl w.lt).1 hy
      refine ⟨pb _ m1, pb _ m2, ?_⟩
      rw [← m5]
      unfold upd2
      split
      · exact snew.mono (by decide)
      · exact (sz _ _).sz.mono (by decide)) len (by have := tl_le (g := upd2 f lo hi (f lo hi + x)) w.len; omega)
  have rl : ((tl f ps).filter (fun z => !keyB lo hi z)).length ≤ 21 := Nat.le_trans (List.length_filter_le _ _) tl21
  have nfh := nr.nf dh
  by_cases v0 : f lo hi + x = 0
  · refine i_ifF (by rw [v0]; rfl) ?_
    repeat' array_get_dec
    refine i_addLL (by rw [List.length_map]; simp; omega) ?_
    rw [if_pos v0, List.append_nil] at rp
    rw [List.append_nil]
    repeat' array_get_dec
    refine i_sortTies (L := (tl f ps).filter (fun z => !keyB lo hi z)) rfl rp (tl_ord w.lt) ?_
    repeat' array_get_dec
    refine ⟨rfl, _, rfl, ?_⟩
    refine wp_tied w sz mlo mhi (by omega) (Wd.of sx (by decide)) nfh fun h5 fr5 => ?_
    repeat' array_get_dec
    refine i_reprW ushow.1 ushow.2.1 ushow.2.2 ?_
    repeat' array_get_dec
    refine i_reprW ushow.1 ushow.2.1 ushow.2.2 ?_
    refine i_eqsr ?_
    obtain ⟨⟨T, eT, _⟩, nf2⟩ : (∃ T, h5 = h4 ++ T ∧ ∀ n, h5.length ≤ n → noRef n T = true) ∧ NF h5 := ⟨fr5, fr5.nf nfh⟩
    have dh5 : Deal (R ++ T) h5 := by rw [eT]; exact deal_app' dh
    exact k _ _ dh5 (NFR.of dh5 nf2)
  · have vn : ¬ (f lo hi + x).num = 0 := fun e => v0 (Rat.num_eq_zero.1 e)
    refine i_ifT (by rw [decide_eq_false vn]; rfl) ?_
    repeat' array_get_dec
    refine i_addLL (by rw [List.length_map]; simp; omega) ?_
    rw [if_neg v0] at rp
    have el : ((tl f ps).filter (fun z => !keyB lo hi z)).map tieD ++ [.tuple [.int lo, .int hi, fr (f lo hi + x)]] = ((tl f ps).filter (fun z => !keyB lo hi z) ++ [(lo, hi, f lo hi + x)]).map tieD := by rw [List.map_append]; rfl
    rw [el]
    repeat' array_get_dec
    refine i_sortTies (L := (tl f ps).filter (fun z => !keyB lo hi z) ++ [(lo, hi, f lo hi + x)]) rfl rp (tl_ord w.lt) ?_
    repeat' array_get_dec
    refine ⟨rfl, _, rfl, ?_⟩
    refine wp_tied w sz mlo mhi (by omega) (Wd.of sx (by decide)) nfh fun h5 fr5 => ?_
    repeat' array_get_dec
    refine i_reprW ushow.1 ushow.2.1 ushow.2.2 ?_
    repeat' array_get_dec
    refine i_reprW ushow.1 ushow.2.1 ushow.2.2 ?_
    refine i_eqsr ?_
    obtain ⟨⟨T, eT, _⟩, nf2⟩ : (∃ T, h5 = h4 ++ T ∧ ∀ n, h5.length ≤ n → noRef n T = true) ∧ NF h5 := ⟨fr5, fr5.nf nfh⟩
    have dh5 : Deal (R ++ T) h5 := by rw [eT]; exact deal_app' dh
    exact k _ _ dh5 (NFR.of dh5 nf2)
end
open NT
theorem show_int {i : Int} {n : Nat} (h0 : 0 < n) (h : i.natAbs < 2 ^ n) (hn : n ≤ 1920) : (PyData.int i).showable = true := by
  have h1 := log2_lt h0 h
  simp only [PyData.showable, decide_eq_true_eq]
  omega
theorem show_map {α : Type} {g : α → PyData} : ∀ {l : List α}, (∀ a ∈ l, (g a).showable = true) → PyData.showableAll (l.map g) = true
  | [], _ => rfl
  | a :: l, h => by
    rw [List.map_cons]
    simp only [PyData.showableAll, h a (List.mem_cons_self ..), show_map fun b hb => h b (List.mem_cons_of_mem _ hb), Bool.and_self]
theorem list_show {L : List (Int × Rat)} {P : Rat} (hL : ∀ z ∈ L, z.1.natAbs < 2 ^ 60 ∧ Sz 133 z.2) (hl : L.length ≤ 7) (sP : Sz 800 P) : (PyData.list [.tuple (L.map ndD), fr P]).showable = true ∧ (PyData.list [.tuple (L.map ndD), fr P]).depth < 60 ∧ (PyData.list [.tuple (L.map ndD), fr P]).shown.length ≤ sizeLine := by
  have a1 : PyData.showableAll (L.map ndD) = true := show_map fun z hz => by
    obtain ⟨h1, h2⟩ := hL z hz
    have e1 := show_int (by decide) h1 (by decide)
    have e2 := fr_showable (by decide) (by decide) h2
    simp only [PyData.showable, PyData.showableAll] at e1 e2 ⊢
    simp only [e1, e2, Bool.and_self]
  have a2 := fr_showable (n := 800) (by decide) (by decide) sP
  refine ⟨?_, ?_, ?_⟩
  · simp only [PyData.showable, PyData.showableAll] at a2 ⊢
    simp only [a1, a2, Bool.and_self]
  · have b : PyData.depthAll (L.map ndD) ≤ 3 := depth_map fun q hq => by simp [PyData.depth, PyData.depthAll]
    simp only [PyData.depth, PyData.depthAll]
    omega
  · have c1 : PyData.leavesShortAll 1201 (L.map ndD) = true := leaves_map fun z hz => by
      obtain ⟨h1, h2⟩ := hL z hz
      have e3 := fr_leaves (q := z.2) (n := 1200) (by decide) (h2.mono (by decide))
      have e1 : PyData.leavesShort 1201 (.int z.1) = true := by
        simp only [PyData.leavesShort, decide_eq_true_eq]
        have := shown_int_len (n := 60) (by decide) h1
        omega
      simp only [PyData.leavesShort, PyData.leavesShortAll] at e1 e3 ⊢
      simp only [e1, e3, Bool.and_self]
    have c2 := fr_leaves (q := P) (n := 1200) (by decide) (sP.mono (by decide))
    have b := PyData.shown_le_bulk 1201 (by decide) (.list [.tuple (L.map ndD), fr P]) (by
      simp only [PyData.leavesShort, PyData.leavesShortAll] at c2 ⊢
      simp only [c1, c2, Bool.and_self])
    have b1 := bulk_map (g := ndD) (c := 40) (l := L) fun q hq => by simp only [PyData.bulk, PyData.bulkAll]; decide
    have e : (PyData.list [.tuple (L.map ndD), fr P]).bulk ≤ 2000 := by
      have q1 := Nat.mul_le_mul_right 41 hl
      simp only [PyData.bulk, PyData.bulkAll]
      omega
    have sz : sizeLine = 2 ^ 24 := rfl
    have := Nat.mul_le_mul_left (1201 + 2) e
    omega
theorem W2.zero : W2 0 := ⟨by decide, by decide⟩
section
variable {f : Int → Int → Rat} {ps : List Int} {R h : Ho} {Q : KD} {E : XD}
theorem full_u (u : Int → Rat) (p : Int) : (fun q => if q = p then u p else u q) = u := by
  funext q
  split
  · rename_i e; rw [e]
  · rfl
theorem wp_lsums (w : NW f ps) (sz : ∀ a b, W2 (f a b)) (pn : ps ≠ []) (pb : ∀ q ∈ ps, q.natAbs < 2 ^ 60) (dh : Deal R h) (nr : NFR R) (k : ∀ R' h', Deal R' h' → NFR R' → Q (.d (.bool true)) h') : M__law_sums [.loc 1, .d (netD ps (tl f ps))] h Q E := by
  have sl : sizeLine = 2 ^ 24 := rfl
  have len := w.len
  have tl21 := tl_le (g := f) w.len
  obtain ⟨p0, hp0⟩ := List.exists_mem_of_ne_nil ps pn
  refine i_mir rfl (by repeat constructor) (by repeat constructor) ?_
  unfold B__law_sums
  repeat' array_get_dec
  refine i_lcv ?_
  refine i_iseqG ?_
  repeat' array_get_dec
  refine ⟨_, rfl, trivial, ?_⟩
  refine lcg_ind (fun i h' => ∃ u : Int → Rat, (∀ q, W2 (u q)) ∧ Deal (R ++ [.lst ((ps.take i).map fun q => D.d (ndD (q, u q)))]) h') ?_ ?_ ⟨fun _ => 0, fun q => W2.zero, dh.snoc _⟩
  · rintro i x h' G ex ⟨u, su, dh'⟩ hG
    rw [List.getElem?_map, List.getElem?_map, Option.map_map, Option.map_eq_some_iff] at ex
    obtain ⟨q, eq, rfl⟩ := ex
    have il := (List.getElem?_eq_some_iff.1 eq).1
    refine ⟨_, rfl, ?_⟩
    refine i_tTrue ?_
    rw [if_pos rfl]
    show fTup _ [some (.loc 1), _, _, _, _, some (.d (.int q)), _, _, _, _, _, _] _ _ _
    repeat' array_get_dec
    refine wp_someR (by decide) (by decide) dh' fun a b h3 a1 b0 b1 dh' => ?_
    have wv := W2.mk' a1 b0 b1
    generalize mkRat a b = v at wv
    repeat' array_get_dec
    have e3 : h3[h.length]? = some (.lst ((ps.take i).map fun q => D.d (ndD (q, u q)))) := by
      rw [dh.len]
      exact dh'.at' (concat_at' _ _)
    refine accK_of e3 (by rw [List.length_map, List.length_take]; omega) trivial (hG _ ⟨fun x => if x = q then v else u x, fun x => ?_, ?_⟩)
    · dsimp only
      split
      · exact wv
      · exact su x
    · rw [dh.len]
      have := dh'.put R.length (.lst ((ps.take i).map (fun q => D.d (ndD (q, u q))) ++ [.d (ndD (q, v))]))
      rw [concat_set'] at this
      have e : ((ps.take (i + 1)).map fun y => D.d (ndD (y, if y = q then v else u y))) = (ps.take i).map (fun q => D.d (ndD (q, u q))) ++ [.d (ndD (q, v))] := by
        rw [List.take_add_one, eq, Option.toList_some, List.map_append, List.map_cons, List.map_nil, if_pos rfl]
        congr 1
        refine List.map_congr_left fun y hy => ?_
        rw [if_neg]
        intro e
        rw [e] at hy
        exact take_ne w.lt eq hy
      rw [e]
      exact this
  rintro h3 ⟨u, su, dh3⟩
  rw [List.length_map, List.length_map, List.take_length] at dh3
  obtain ⟨hh, rfl, dh3'⟩ := deal_unsnoc dh3
  replace dh3 := dh3'
  have nf3 := nr.nf dh3
  refine ⟨hh, _, ps.map fun q => ndD (q, u q), rfl, by rw [dh3.len, dh.len], .inr (nf3 _ (by rw [dh3.len, dh.len]; exact Nat.le_refl _)), (allD_fn _ _).eq, ?_⟩
  repeat' array_get_dec
  have ewD : wD u ps = ps.map fun q => ndD (q, u q) := by unfold wD; rw [List.map_map]; rfl
  refine i_tup1K (ps := wD u ps) (by rw [ewD]; rfl) ?_
  repeat' array_get_dec
  refine ⟨_, ps.map fun q => (q, fr (u q)), rfl, .inl rfl, by rw [List.length_map]; omega, ?_⟩
  have kn := KN.mg (ps := ps) w.len u
  have fr4 : Fra hh (hh ++ [.di (mgD [] (ps.map fun q => (q, fr (u q))))]) := (Fra.refl hh).push fun n _ => noRef_di kn.dat n
  have at4 : (hh ++ [O.di (mgD [] (ps.map fun q => (q, fr (u q))))])[hh.length]? = some (.di (mgD [] (ps.map fun q => (q, fr (u q))))) := concat_at' _ _
  generalize mgD [] (ps.map fun q => (q, fr (u q))) = kvs at kn fr4 at4 ⊢
  generalize hh ++ [O.di kvs] = h4 at fr4 at4 ⊢
  generalize hr : hh.length = r at at4 ⊢
  have hfull := full_dvd (u := u) w (u p0) (p := p0)
  rw [full_u] at hfull
  have dv : Dd u p0 ps * (u p0).den ≤ 2 ^ 600 * 2 ^ 100 := Nat.mul_le_mul (Dd_le w hp0 su) (Nat.le_of_lt (su p0).2)
  have hN : Ww f p0 ps * ((Dd u p0 ps * (u p0).den) * (Dd u p0 ps * (u p0).den)) ≠ 0 := Nat.mul_ne_zero (Ww_ne _ _ _) (Nat.mul_ne_zero (Nat.mul_ne_zero (Dd_ne _ _ _) (u p0).den_nz) (Nat.mul_ne_zero (Dd_ne _ _ _) (u p0).den_nz))
  have hNb : Ww f p0 ps * ((Dd u p0 ps * (u p0).den) * (Dd u p0 ps * (u p0).den)) < 2 ^ 3501 := by
    refine Nat.lt_of_le_of_lt (Nat.mul_le_mul (Ww_le w hp0 sz) (Nat.mul_le_mul dv dv)) ?_
    simp only [← Nat.pow_add]
    exact Nat.pow_lt_pow_right (by decide) (by decide)
  generalize Ww f p0 ps * ((Dd u p0 ps * (u p0).den) * (Dd u p0 ps * (u p0).den)) = N at hfull hN hNb
  have hd : ∀ z ∈ tl f ps, (tm u z).den ∣ N := fun z hz => Ov.dvd hN (hfull z hz)
  have hT : ∀ z ∈ tl f ps, z.1 ∈ ps ∧ z.2.1 ∈ ps := fun z hz => let m := (mem_tl w.lt).1 hz; ⟨m.1, m.2.1⟩
  have s3 : ∀ z ∈ tl f ps, W2 z.2.2 := fun z hz => by
    have m := (mem_tl w.lt).1 hz
    rw [← m.2.2.2.2]
    exact sz _ _
  have g267 : ∀ a b, Sz 267 (u a - u b) := fun a b => (su a).sz.sub (su b).sz
  have stm : ∀ z ∈ tl f ps, Sz 667 (tm u z) := fun z hz => ((s3 z hz).sz.mul ((g267 _ _).mul (g267 _ _))).mono (by decide)
  have sE : Sz 4174 (((tl f ps).map (tm u)).sum / 2) := ((psum hN hNb (s := 667) (b := 3501) (fun x hx => by
    obtain ⟨z, hz, rfl⟩ := List.mem_map.1 hx
    exact ⟨hd z hz, stm z hz⟩) (by rw [List.length_map]; omega)).2).half
  have eshow := fr_show (by decide) (by decide) sE
  repeat' array_get_dec
  refine ⟨rfl, _, rfl, ?_⟩
  refine wp_netE (su := 0) (st := 0) (ps := ps) (N := N) (sg := 267) hT len (by omega) hN (Nat.lt_of_lt_of_le hNb (Nat.pow_le_pow_right (by decide) (by decide))) hd (fun q _ => (su q).sz.mono (by decide)) (fun a _ b _ => g267 a b) (by decide) (fun z hz => (s3 z hz).sz.mono (by decide)) (fun z hz => (stm z hz).mono (by decide)) ?_
  have fr5 : Fra hh (h4 ++ [.di (mgD [] (ps.map fun q => (q, fr (u q))))]) := fr4.push fun n _ => noRef_di (mg_dat (ps.map fun q => (q, fr (u q))) [] fun z hz => (nomatch hz)).1 n
  have at5 : (h4 ++ [O.di (mgD [] (ps.map fun q => (q, fr (u q))))])[r]? = some (.di kvs) := by rw [List.getElem?_append_left (List.getElem?_eq_some_iff.1 at4).1]; exact at4
  generalize h4 ++ [O.di (mgD [] (ps.map fun q => (q, fr (u q))))] = h5 at fr5 at5 ⊢
  repeat' array_get_dec
  refine i_reprW eshow.1 eshow.2.1 eshow.2.2 ?_
  repeat' array_get_dec
  refine wp_lenergy (ps := ps) (sw := 133) (b := 3501) at5 kn.at' hT (by omega) hN hNb (by decide) hd (fun q _ => (su q).sz) (fun z hz => (s3 z hz).sz) (by decide) ?_
  repeat' array_get_dec
  refine i_reprW eshow.1 eshow.2.1 eshow.2.2 ?_
  repeat' array_get_dec
  refine i_ifF rfl ?_
  repeat' array_get_dec
  refine i_iseqG ?_
  repeat' array_get_dec
  refine ⟨_, rfl, ?_⟩
  refine for_ind (fun i ρ' h' => ∃ v5 v7 v8 v9 v10 v11, ρ' = [some (.loc 1), some (.d (netD ps (tl f ps))), some (.d (.tuple (ps.map PyData.int))), some (.d (.tuple ((tl f ps).map tieD))), some (.tp (wD u ps)), v5, some (.loc r), v7, v8, v9, v10, v11] ∧ Fra hh h' ∧ h'[r]? = some (.di kvs)) ?_ ?_ ⟨_, _, _, _, _, _, rfl, fr5, at5⟩
  · rintro i x ρ' h6 G ex ⟨v5, v7, v8, v9, v10, v11, rfl, fr6, at6⟩ hG
    rw [List.getElem?_map, List.getElem?_map, Option.map_map, Option.map_eq_some_iff] at ex
    obtain ⟨p, ep, rfl⟩ := ex
    have hp := List.mem_of_getElem? ep
    have np := near_perm w p
    have nlt := nb_lt (w := f p) w.lt
    have nlen : (nb (f p) ps).length ≤ 7 := Nat.le_trans (List.length_filter_le _ _) w.len
    refine ⟨_, rfl, ?_⟩
    show (sSeq _ _) [some (.loc 1), some (.d (netD ps (tl f ps))), some (.d (.tuple (ps.map PyData.int))), some (.d (.tuple ((tl f ps).map tieD))), some (.tp (wD u ps)), some (.d (.int p)), some (.loc r), v7, v8, v9, v10, v11] _ _
    repeat' array_get_dec
    refine i_lcv ?_
    refine i_iseqG ?_
    repeat' array_get_dec
    refine ⟨_, rfl, ?_⟩
    refine lcv_ind (hb := h6) (fun i acc => acc = ((nearL p ((tl f ps).take i)).map ndD).map D.d) (fun _ => trivial) ?_ ?_ rfl
    · rintro i z acc ez rfl
      rw [List.getElem?_map, List.getElem?_map, Option.map_map, Option.map_eq_some_iff] at ez
      obtain ⟨⟨lo, hi, q⟩, et, rfl⟩ := ez
      have il := (List.getElem?_eq_some_iff.1 et).1
      have tk : (tl f ps).take (i + 1) = (tl f ps).take i ++ [(lo, hi, q)] := by rw [List.take_add_one, et]; rfl
      refine ⟨_, decide (lo = p) || decide (hi = p), rfl, fun P' qq => ?_, fun c => ⟨.d (ndD (lo + hi - p, q)), fun P' qq => ?_, ?_, ?_⟩, fun c => ?_⟩
      · show tVal _ [_, _, _, _, _, some (.d (.int p)), _, _, some (.d (tieD (lo, hi, q))), _, _, _] _ _ _
        repeat' array_get_dec
        rw [show cut [PyData.int lo, .int hi, fr q] none (some 2) = [.int lo, .int hi] from cut_0n _ 2]
        refine i_inT rfl (Nat.zero_le _) rfl ?_
        rw [List.any_cons, List.any_cons, List.any_nil, Bool.or_false, eqv_i, eqv_i]
        repeat' array_get_dec
        exact qq
      · show fTup _ [_, _, _, _, _, some (.d (.int p)), _, _, some (.d (tieD (lo, hi, q))), _, _, _] _ _ _
        repeat' array_get_dec
        exact qq
      · rw [List.length_map, List.length_map]
        unfold nearL
        rw [List.length_map]
        have h1 := List.length_filter_le (fun z : Int × Int × Rat => decide (z.1 = p) || decide (z.2.1 = p)) ((tl f ps).take i)
        rw [List.length_take] at h1
        omega
      · rw [tk]
        unfold nearL
        rw [List.filter_append, List.filter_cons, if_pos c]
        simp
      · rw [tk]
        unfold nearL
        rw [List.filter_append, List.filter_cons, if_neg (by rw [c]; decide)]
        simp
    rintro acc rfl
    rw [List.length_map, List.length_map, List.take_length]
    refine ⟨_, allD_iff (allD_map _), ?_⟩
    repeat' array_get_dec
    refine i_sortNds rfl np (by rw [List.pairwise_map]; exact nlt) ?_
    repeat' array_get_dec
    refine i_iseqG ?_
    repeat' array_get_dec
    refine ⟨_, rfl, ?_⟩
    have hc : ∀ o ∈ nb (f p) ps, (f p o).den ∣ Bb f p ps ∧ Sz 133 (f p o) := fun o ho => by
      obtain ⟨o1, o2⟩ := mem_nb.1 ho
      exact ⟨Ov.dvd (Bb_ne _ _ _) (Ov.Bb (mem_oth.2 ⟨o1, fun e => (w.on _ _ o2).2.2 e.symm⟩)), (sz _ _).sz⟩
    refine for_ind (fun i ρ' h' => h' = h6 ∧ ∃ v8 v10 v11, ρ' = [some (.loc 1), some (.d (netD ps (tl f ps))), some (.d (.tuple (ps.map PyData.int))), some (.d (.tuple ((tl f ps).map tieD))), some (.tp (wD u ps)), some (.d (.int p)), some (.loc r), some (.d (.list (((nb (f p) ps).map fun o => (o, f p o)).map ndD))), v8, some (.d (fr (((nb (f p) ps).take i).map (f p)).sum)), v10, v11]) ?_ ?_ ⟨rfl, _, _, _, rfl⟩
    · rintro i x ρ' h' G2 ex ⟨rfl, v8, v10, v11, rfl⟩ hG2
      rw [List.getElem?_map, List.getElem?_map, List.getElem?_map, Option.map_map, Option.map_map, Option.map_eq_some_iff] at ex
      obtain ⟨o, eo, rfl⟩ := ex
      have st := sum_take1 (c := f p) eo
      obtain ⟨ha, hb'⟩ := psum_take (Bb_ne f p ps) (Bb_lt w hp sz) hc (by omega) (i + 1)
      obtain ⟨ha0, hb0⟩ := psum_take (Bb_ne f p ps) (Bb_lt w hp sz) hc (by omega) i
      rw [st] at ha hb'
      refine ⟨_, rfl, ?_⟩
      show (sAsg _ _) [some (.loc 1), some (.d (netD ps (tl f ps))), some (.d (.tuple (ps.map PyData.int))), some (.d (.tuple ((tl f ps).map tieD))), some (.tp (wD u ps)), some (.d (.int p)), some (.loc r), some (.d (.list (((nb (f p) ps).map fun o => (o, f p o)).map ndD))), v8, some (.d (fr (((nb (f p) ps).take i).map (f p)).sum)), some (.d (.int o)), some (.d (fr (f p o)))] _ _
      repeat' array_get_dec
      refine wp_lplus hb0 (sz _ _).sz (by decide) (sz_den hb' (by decide)) ?_
      repeat' array_get_dec
      rw [← st]
      exact ⟨trivial, hG2 _ _ ⟨rfl, _, _, _, rfl⟩⟩
    rintro ρ' h' ⟨rfl, v8, v10, v11, rfl⟩
    rw [List.length_map, List.length_map, List.length_map, List.take_length]
    obtain ⟨_, sPP⟩ := psum_take (Bb_ne f p ps) (Bb_lt w hp sz) hc (by omega) (nb (f p) ps).length
    rw [List.take_length] at sPP
    have lshow := list_show (L := (nb (f p) ps).map fun o => (o, f p o)) (fun z hz => by
      obtain ⟨o, ho, rfl⟩ := List.mem_map.1 hz
      exact ⟨pb _ (mem_nb.1 ho).1, (sz _ _).sz⟩) (by rw [List.length_map]; exact nlen) (sPP.mono (by decide))
    have el : ((nb (f p) ps).map fun o => ndD (o, f p o)) = ((nb (f p) ps).map fun o => (o, f p o)).map ndD := by rw [List.map_map]; rfl
    repeat' array_get_dec
    refine ⟨rfl, _, rfl, ?_⟩
    refine wp_pairs w hp fun h7 fr7 => ?_
    repeat' array_get_dec
    refine wp_pullof w sz hp fun h8 fr8 => ?_
    repeat' array_get_dec
    rw [el]
    refine i_repr lshow.1 lshow.2.1 lshow.2.2 ?_
    repeat' array_get_dec
    refine i_repr lshow.1 lshow.2.1 lshow.2.2 ?_
    repeat' array_get_dec
    refine i_ifF rfl ?_
    repeat' array_get_dec
    have fr8' : Fra hh h8 := (fr6.trans fr7).trans fr8
    have at8 : h8[r]? = some (.di kvs) := by
      have l6 := (List.getElem?_eq_some_iff.1 at6).1
      rw [fr8.at (by have := fr7.le; omega), fr7.at l6]
      exact at6
    refine ⟨rfl, _, rfl, ?_⟩
    refine wp_outflow w sz su hp (fr8'.nf nf3) fun h9 fr9 => ?_
    repeat' array_get_dec
    have at9 : h9[r]? = some (.di kvs) := by
      rw [fr9.at (List.getElem?_eq_some_iff.1 at8).1]
      exact at8
    have sO : Sz 1706 (outR f u p ps) := by
      have hN : Bb f p ps * (Dd u p ps * (u p).den) ≠ 0 := Nat.mul_ne_zero (Bb_ne _ _ _) (Nat.mul_ne_zero (Dd_ne _ _ _) (u p).den_nz)
      have hb : Bb f p ps * (Dd u p ps * (u p).den) < 2 ^ 1301 := by
        refine Nat.lt_of_le_of_lt (Nat.mul_le_mul (Bb_le w hp sz) (Nat.mul_le_mul (Dd_le w hp su) (Nat.le_of_lt (su p).2))) ?_
        simp only [← Nat.pow_add]
        exact Nat.pow_lt_pow_right (by decide) (by decide)
      exact (psum hN hb (s := 400) (b := 1301) (fun x hx => by
        obtain ⟨o, ho, rfl⟩ := List.mem_map.1 hx
        exact ⟨Ov.dvd hN ((Ov.Bb ho).mul (((Ov.den _).up (Nat.dvd_mul_left _ _)).sub ((Ov.Dd ho).up (Nat.dvd_mul_right _ _)))), (sz _ _).sz.mul (g267 _ _)⟩) (by rw [List.length_map]; have := oth_len w.lt hp w.len; omega)).2
    have oshow := fr_show (by decide) (by decide) sO
    refine i_reprW oshow.1 oshow.2.1 oshow.2.2 ?_
    repeat' array_get_dec
    refine wp_lout w sz su hp at9 kn fun _ => ?_
    repeat' array_get_dec
    refine i_reprW oshow.1 oshow.2.1 oshow.2.2 ?_
    repeat' array_get_dec
    refine i_ifF rfl ?_
    repeat' array_get_dec
    exact ⟨trivial, hG _ _ ⟨_, _, _, _, _, _, rfl, fr8'.trans fr9, at9⟩⟩
  · rintro ρ' h6 ⟨v5, v7, v8, v9, v10, v11, rfl, fr6, at6⟩
    repeat' array_get_dec
    obtain ⟨⟨T, eT, _⟩, nf2⟩ : (∃ T, h6 = hh ++ T ∧ ∀ n, h6.length ≤ n → noRef n T = true) ∧ NF h6 := ⟨fr6, fr6.nf nf3⟩
    have dh6 : Deal (R ++ T) h6 := by rw [eT]; exact deal_app' dh3
    exact k _ _ dh6 (NFR.of dh6 nf2)
end
open NT
theorem intsL_map : ∀ is : List Int, intsL (is.map PyData.int) = is
  | [] => rfl
  | i :: is => by
    rw [List.map_cons]
    show i :: intsL (is.map PyData.int) = _
    rw [intsL_map is]
theorem numsB_ok : ∀ {is : List Int} {l : Int}, is.Pairwise (· < ·) → (∀ i ∈ is, l ≤ i) → numsB l (is.map PyData.int) = true
  | [], _, _, _ => rfl
  | i :: is, l, h, hl => by
    obtain ⟨h1, h2⟩ := List.pairwise_cons.1 h
    rw [List.map_cons]
    show (decide (l ≤ i) && numsB (i + 1) (is.map PyData.int)) = true
    rw [decide_eq_true (hl i (List.mem_cons_self ..)), Bool.true_and]
    exact numsB_ok h2 fun j hj => by have := h1 j hj; omega
theorem tiesB_ok {is : List Int} : ∀ {T : List (Int × Int × Rat)} {x y : Int}, T.Pairwise Lx → (∀ t ∈ T, x < t.1 ∨ (x = t.1 ∧ y < t.2.1)) → (∀ t ∈ T, t.1 ∈ is ∧ t.2.1 ∈ is ∧ t.1 < t.2.1 ∧ t.2.2 ≠ 0) → tiesB is x y (T.map tieD) = true
  | [], _, _, _, _, _ => rfl
  | (a, b, q) :: T, x, y, h, hx, ht => by
    obtain ⟨h1, h2⟩ := List.pairwise_cons.1 h
    obtain ⟨m1, m2, m3, m4⟩ := ht _ (List.mem_cons_self ..)
    have hx0 := hx _ (List.mem_cons_self ..)
    dsimp only at m1 m2 m3 m4 hx0
    rw [List.map_cons]
    show (okT is a b (fr q) && (!decide (a < x ∨ (a = x ∧ b ≤ y)) && tiesB is a b (T.map tieD))) = true
    rw [decide_eq_false (by omega), tiesB_ok h2 (fun t ht => by have := h1 t ht; unfold Lx at this; exact this) (fun t h => ht t (List.mem_cons_of_mem _ h))]
    unfold okT
    rw [decide_eq_true m1, decide_eq_true m2, decide_eq_true m3, wtB_fr, decide_eq_false m4]
    rfl
theorem net_ok {f : Int → Int → Rat} {ps : List Int} (w : NW f ps) (h0 : ∀ p ∈ ps, 0 ≤ p) : netB (netD ps (tl f ps)) = true := by
  show (numsB 0 (ps.map PyData.int) && tiesB (intsL (ps.map PyData.int)) (-1) (-1) ((tl f ps).map tieD)) = true
  rw [numsB_ok w.lt h0, intsL_map, tiesB_ok (tl_ord w.lt) (fun t ht => by
    have := h0 _ ((mem_tl w.lt).1 ht).1
    omega) (fun t ht => by
    obtain ⟨m1, m2, m3, m4, _⟩ := (mem_tl w.lt).1 ht
    exact ⟨m1, m2, m3, m4⟩)]
  rfl
theorem bool_show (b : Bool) : (PyData.bool b).showable = true ∧ (PyData.bool b).depth < 60 ∧ (PyData.bool b).shown.length ≤ sizeLine := by
  cases b <;> exact ⟨rfl, by decide, Nat.le_of_ble_eq_true rfl⟩
theorem i_tupK {ga : WA} {ρ : En} {h : Ho} {Q : KD} {E : XD} (k : ga ρ h (fun xs h1 => ∃ ps, AllD xs ps ∧ ps.length ≤ sizeLine ∧ Q (.tp ps) h1) E) : fTupK ga ρ h Q E := k
/-- the lone network -/
def fL (a b : Int) : Rat := if (a = 3 ∧ b = 5) ∨ (a = 5 ∧ b = 3) then 2 else 0
theorem fL_w2 (a b : Int) : W2 (fL a b) := by
  unfold fL
  split
  · exact ⟨by decide, by decide⟩
  · exact ⟨by decide, by decide⟩
theorem fL_nw : NW fL [3, 5, 9] := by
  refine ⟨by decide, by decide, fun a b => ?_, fun a b h => ?_⟩
  · unfold fL
    have e : ((a = 3 ∧ b = 5) ∨ (a = 5 ∧ b = 3)) ↔ ((b = 3 ∧ a = 5) ∨ (b = 5 ∧ a = 3)) := by omega
    by_cases x : (a = 3 ∧ b = 5) ∨ (a = 5 ∧ b = 3)
    · rw [if_pos x, if_pos (e.1 x)]
    · rw [if_neg x, if_neg fun y => x (e.2 y)]
  · unfold fL at h
    by_cases x : (a = 3 ∧ b = 5) ∨ (a = 5 ∧ b = 3)
    · rcases x with ⟨rfl, rfl⟩ | ⟨rfl, rfl⟩
      · simp
      · simp
    · rw [if_neg x] at h
      exact absurd rfl h
theorem fL_tl : tl fL [3, 5, 9] = [(3, 5, 2)] := by decide +kernel
theorem fL_P : ((nb (fL 3) [3, 5, 9]).map (fL 3)).sum = 2 := by decide +kernel
theorem fL_star : tl (star fL 3 2) ([3, 5, 9].filter fun q => decide (q ≠ 3)) = [] := by decide +kernel
theorem says (ns : List Int) (hl : ns.length ≤ 63) {P : Prop} (hb : P) : V2.Says M_law ns := by
  have sz : sizeLine = 2 ^ 24 := rfl
  unfold Says scriptD
  refine i_mir rfl (by repeat constructor) (by repeat constructor) ?_
  unfold B_law
  repeat' array_get_dec
  refine wp_deal (by decide) (by decide) hl fun h0 d0 => ?_
  repeat' array_get_dec
  refine ⟨by decide, by decide, ?_⟩
  refine for_ind (fun i ρ' h' => ∃ R a2 a3 a4 a5, ρ' = [some (.d (.list (ns.map PyData.int))), some (.loc 1), a2, a3, a4, a5, none] ∧ Deal R h' ∧ NFR R) ?_ ?_ ⟨[], _, _, _, _, rfl, d0, fun n _ => rfl⟩
  · rintro i x ρ' h1 G ex ⟨R, a2, a3, a4, a5, rfl, dh, nr⟩ hG
    refine ⟨_, rfl, ?_⟩
    show (sSeq _ _) [some (.d (.list (ns.map PyData.int))), some (.loc 1), some x, a3, a4, a5, none] _ _
    repeat' array_get_dec
    refine wp_any (by decide) (by decide) dh fun v h2 v0 v1 dh => ?_
    repeat' array_get_dec
    obtain ⟨m, em⟩ : ∃ m : Nat, 1 + v = (m : Int) := ⟨(1 + v).toNat, by omega⟩
    rw [em]
    refine wp_net (by omega) (by omega) dh fun pts L h4 pl lt pb tiH dh => ?_
    have nr4 : NFR (R ++ [ptL pts, tiL L]) := by
      have := (nr.app (o := ptL pts) fun n => noRef_data n _).app (o := tiL L) fun n => noRef_data n _
      rw [List.append_assoc] at this
      exact this
    have w := tiH.nw lt (show pts.length ≤ 7 by omega)
    have pne : pts ≠ [] := fun e => by rw [e] at pl; simp at pl; omega
    have wz : ∀ a b, W2 (lf L a b) := fun a b => tiH.w2 a b
    generalize lf L = f at w wz ⊢
    generalize R ++ [ptL pts, tiL L] = R4 at dh nr4
    have wT : ∀ z ∈ tl f pts, W2 z.2.2 := fun z hz => by
      have m := (mem_tl w.lt).1 hz
      rw [← m.2.2.2.2]
      exact wz _ _
    have tl21 := tl_le (g := f) w.len
    repeat' array_get_dec
    refine wp_is_network ?_
    rw [net_ok w fun p hp => (pb p hp).1]
    repeat' array_get_dec
    refine i_ifF rfl ?_
    repeat' array_get_dec
    refine wp_lsums w wz pne (fun q hq => (pb q hq).2) dh nr4 fun R5 h5 dh nr5 => ?_
    repeat' array_get_dec
    refine i_ifF rfl ?_
    repeat' array_get_dec
    refine wp_lmore w wz (fun q hq => (pb q hq).2) dh nr5 fun R6 h6 dh nr6 => ?_
    repeat' array_get_dec
    refine i_ifF rfl ?_
    repeat' array_get_dec
    refine ⟨by decide, by decide, ?_⟩
    refine for_ind (fun i ρ' h' => ∃ R a4 a5, ρ' = [some (.d (.list (ns.map PyData.int))), some (.loc 1), some x, some (.d (netD pts (tl f pts))), a4, a5, none] ∧ Deal R h' ∧ NFR R) ?_ ?_ ⟨R6, _, _, rfl, dh, nr6⟩
    · rintro j y ρ' h7 G2 ey ⟨R, a4, a5, rfl, dh, nr⟩ hG2
      refine ⟨_, rfl, ?_⟩
      show (sSeq _ _) [some (.d (.list (ns.map PyData.int))), some (.loc 1), some x, some (.d (netD pts (tl f pts))), some y, a5, none] _ _
      repeat' array_get_dec
      refine wp_turned pne w.len (by omega) wT dh fun v h8 dh bw => ?_
      repeat' array_get_dec
      refine wp_is_network ?_
      have bs := bool_show (netB v)
      repeat' array_get_dec
      refine i_repr bs.1 bs.2.1 bs.2.2 ?_
      repeat' array_get_dec
      refine wp_lnet bw ?_
      repeat' array_get_dec
      refine i_repr bs.1 bs.2.1 bs.2.2 ?_
      repeat' array_get_dec
      refine i_ifF rfl ?_
      repeat' array_get_dec
      exact ⟨trivial, hG2 _ _ ⟨R, _, _, rfl, dh, nr⟩⟩
    · rintro ρ' h7 ⟨R, a4, a5, rfl, dh, nr⟩
      exact ⟨trivial, hG _ _ ⟨R, _, _, _, _, rfl, dh, nr⟩⟩
  · rintro ρ' h1 ⟨R, a2, a3, a4, a5, rfl, dh, nr⟩
    have nf := nr.nf dh
    repeat' array_get_dec
    have el : PyData.tuple [.tuple [.int 3, .int 5, .int 9], .tuple [.tuple [.int 3, .int 5, .tuple [.int 2, .int 1]]]] = netD [3, 5, 9] (tl fL [3, 5, 9]) := by rw [fL_tl]; rfl
    rw [el]
    refine wp_dropped (p := 3) (P := 2) fL_nw (fun a b => (fL_w2 a b).sz) (by decide) nf fL_P.symm ⟨by decide, Nat.one_lt_two_pow (by decide)⟩ (fun z => absurd z (by decide)) fun _ h2 fr2 => ?_
    rw [fL_star]
    have lone : netD ([3, 5, 9].filter fun q => decide (q ≠ 3)) [] = .tuple [.tuple [.int 5, .int 9], .tuple []] := rfl
    rw [lone]
    have sh1 : wideAll [.tuple [.int 5, .int 9], .tuple []] = true ∧ (PyData.tuple [.tuple [.int 5, .int 9], .tuple []]).depth < 60 ∧ (PyData.tuple [.tuple [.int 5, .int 9], .tuple []]).shown.length ≤ sizeLine :=
      net_show (rs := [5, 9]) (T := []) (fun q hq => by simp at hq; rcases hq with rfl | rfl <;> decide) (fun z hz => (nomatch hz)) (by decide) (by decide)
    repeat' array_get_dec
    refine i_reprW sh1.1 sh1.2.1 sh1.2.2 ?_
    repeat' array_get_dec
    refine i_reprW sh1.1 sh1.2.1 sh1.2.2 ?_
    repeat' array_get_dec
    refine i_ifT rfl ?_
    repeat' array_get_dec
    refine i_tupK ?_
    repeat' array_get_dec
    refine wp_netE (T := []) (qs := [4]) (u := fun _ => halfR) (su := 0) (st := 0) (ps := [4]) (N := 1) (sg := 4000) (fun z hz => (nomatch hz)) (by decide) (by decide) (by decide) (Nat.one_lt_two_pow (by decide)) (fun z hz => (nomatch hz)) (fun q _ => Sz.mono (n := 2) ⟨by decide, by decide⟩ (by decide)) (fun a _ b _ => by rw [Rat.sub_self]; exact Sz.mono (n := 2) ⟨by decide, by decide⟩ (by decide)) (by decide) (fun z hz => (nomatch hz)) (fun z hz => (nomatch hz)) ?_
    have e0 : ((([] : List (Int × Int × Rat)).map (tm fun _ => halfR)).sum / 2) = 0 := by
      show (0 : Rat) / 2 = 0
      rw [Rat.div_def, Rat.zero_mul]
    rw [e0]
    have sh0 := fr_show (q := 0) (n := 1) (by decide) (by decide) ⟨by decide, by decide⟩
    repeat' array_get_dec
    refine i_reprW sh0.1 sh0.2.1 sh0.2.2 ?_
    repeat' array_get_dec
    refine i_reprW sh0.1 sh0.2.1 sh0.2.2 ?_
    refine i_eqsr ?_
    rfl
end LW
set_option Elab.async false
set_option linter.all false
set_option maxRecDepth 100000
set_option maxHeartbeats 8000000
namespace LW
open PySem PySem.Spec PyProof.Rows L2 V2
open PySem.W (Frag)
theorem all_mk {l : PySem.W.OpenLaw} {w : World} {K : Frag} {h : Heap} {mg : Str → Option Value} {fa : Addr} (X : K.In h) (G : h.Ns mainGlobals mg) (hfa : mg "law" = some (.ref fa))
    {f0 : Addr} {od0 an0 : Option Addr} {sl0 : Array (Option Value)} {oc0 kV0 dc0 pm0 cd0 ct0 : Value}
    {f1 : Addr} {od1 an1 : Option Addr} {sl1 : Array (Option Value)} {oc1 kV1 dc1 pm1 cd1 ct1 : Value}
    {f2 : Addr} {od2 an2 : Option Addr} {sl2 : Array (Option Value)} {oc2 kV2 dc2 pm2 cd2 ct2 : Value}
    {f3 : Addr} {od3 an3 : Option Addr} {sl3 : Array (Option Value)} {oc3 kV3 dc3 pm3 cd3 ct3 : Value}
    {f4 : Addr} {od4 an4 : Option Addr} {sl4 : Array (Option Value)} {oc4 kV4 dc4 pm4 cd4 ct4 : Value}
    {f5 : Addr} {od5 an5 : Option Addr} {sl5 : Array (Option Value)} {oc5 kV5 dc5 pm5 cd5 ct5 : Value}
    {f6 : Addr} {od6 an6 : Option Addr} {sl6 : Array (Option Value)} {oc6 kV6 dc6 pm6 cd6 ct6 : Value}
    {f7 : Addr} {od7 an7 : Option Addr} {sl7 : Array (Option Value)} {oc7 kV7 dc7 pm7 cd7 ct7 : Value}
    {f8 : Addr} {od8 an8 : Option Addr} {sl8 : Array (Option Value)} {oc8 kV8 dc8 pm8 cd8 ct8 : Value}
    {f9 : Addr} {od9 an9 : Option Addr} {sl9 : Array (Option Value)} {oc9 kV9 dc9 pm9 cd9 ct9 : Value}
    {f10 : Addr} {od10 an10 : Option Addr} {sl10 : Array (Option Value)} {oc10 kV10 dc10 pm10 cd10 ct10 : Value}
    {f11 : Addr} {od11 an11 : Option Addr} {sl11 : Array (Option Value)} {oc11 kV11 dc11 pm11 cd11 ct11 : Value}
    {f12 : Addr} {od12 an12 : Option Addr} {sl12 : Array (Option Value)} {oc12 kV12 dc12 pm12 cd12 ct12 : Value}
    {f13 : Addr} {od13 an13 : Option Addr} {sl13 : Array (Option Value)} {oc13 kV13 dc13 pm13 cd13 ct13 : Value}
    {f14 : Addr} {od14 an14 : Option Addr} {sl14 : Array (Option Value)} {oc14 kV14 dc14 pm14 cd14 ct14 : Value}
    {f15 : Addr} {od15 an15 : Option Addr} {sl15 : Array (Option Value)} {oc15 kV15 dc15 pm15 cd15 ct15 : Value}
    {f16 : Addr} {od16 an16 : Option Addr} {sl16 : Array (Option Value)} {oc16 kV16 dc16 pm16 cd16 ct16 : Value}
    {f17 : Addr} {od17 an17 : Option Addr} {sl17 : Array (Option Value)} {oc17 kV17 dc17 pm17 cd17 ct17 : Value}
    {f18 : Addr} {od18 an18 : Option Addr} {sl18 : Array (Option Value)} {oc18 kV18 dc18 pm18 cd18 ct18 : Value}
    {f19 : Addr} {od19 an19 : Option Addr} {sl19 : Array (Option Value)} {oc19 kV19 dc19 pm19 cd19 ct19 : Value}
    {f20 : Addr} {od20 an20 : Option Addr} {sl20 : Array (Option Value)} {oc20 kV20 dc20 pm20 cd20 ct20 : Value}
    {f21 : Addr} {od21 an21 : Option Addr} {sl21 : Array (Option Value)} {oc21 kV21 dc21 pm21 cd21 ct21 : Value}
    {f22 : Addr} {od22 an22 : Option Addr} {sl22 : Array (Option Value)} {oc22 kV22 dc22 pm22 cd22 ct22 : Value}
    {f23 : Addr} {od23 an23 : Option Addr} {sl23 : Array (Option Value)} {oc23 kV23 dc23 pm23 cd23 ct23 : Value}
    {f24 : Addr} {od24 an24 : Option Addr} {sl24 : Array (Option Value)} {oc24 kV24 dc24 pm24 cd24 ct24 : Value}
    {f25 : Addr} {od25 an25 : Option Addr} {sl25 : Array (Option Value)} {oc25 kV25 dc25 pm25 cd25 ct25 : Value}
    {f26 : Addr} {od26 an26 : Option Addr} {sl26 : Array (Option Value)} {oc26 kV26 dc26 pm26 cd26 ct26 : Value}
    {f27 : Addr} {od27 an27 : Option Addr} {sl27 : Array (Option Value)} {oc27 kV27 dc27 pm27 cd27 ct27 : Value}
    {f28 : Addr} {od28 an28 : Option Addr} {sl28 : Array (Option Value)} {oc28 kV28 dc28 pm28 cd28 ct28 : Value}
    {f29 : Addr} {od29 an29 : Option Addr} {sl29 : Array (Option Value)} {oc29 kV29 dc29 pm29 cd29 ct29 : Value}
    {f30 : Addr} {od30 an30 : Option Addr} {sl30 : Array (Option Value)} {oc30 kV30 dc30 pm30 cd30 ct30 : Value}
    {f31 : Addr} {od31 an31 : Option Addr} {sl31 : Array (Option Value)} {oc31 kV31 dc31 pm31 cd31 ct31 : Value}
    {f32 : Addr} {od32 an32 : Option Addr} {sl32 : Array (Option Value)} {oc32 kV32 dc32 pm32 cd32 ct32 : Value}
    {f33 : Addr} {od33 an33 : Option Addr} {sl33 : Array (Option Value)} {oc33 kV33 dc33 pm33 cd33 ct33 : Value}
    {f34 : Addr} {od34 an34 : Option Addr} {sl34 : Array (Option Value)} {oc34 kV34 dc34 pm34 cd34 ct34 : Value}
    {f35 : Addr} {od35 an35 : Option Addr} {sl35 : Array (Option Value)} {oc35 kV35 dc35 pm35 cd35 ct35 : Value}
    {f36 : Addr} {od36 an36 : Option Addr} {sl36 : Array (Option Value)} {oc36 kV36 dc36 pm36 cd36 ct36 : Value}
    {f37 : Addr} {od37 an37 : Option Addr} {sl37 : Array (Option Value)} {oc37 kV37 dc37 pm37 cd37 ct37 : Value}
    {f38 : Addr} {od38 an38 : Option Addr} {sl38 : Array (Option Value)} {oc38 kV38 dc38 pm38 cd38 ct38 : Value}
    {f39 : Addr} {od39 an39 : Option Addr} {sl39 : Array (Option Value)} {oc39 kV39 dc39 pm39 cd39 ct39 : Value}
    {f40 : Addr} {od40 an40 : Option Addr} {sl40 : Array (Option Value)} {oc40 kV40 dc40 pm40 cd40 ct40 : Value}
    {f41 : Addr} {od41 an41 : Option Addr} {sl41 : Array (Option Value)} {oc41 kV41 dc41 pm41 cd41 ct41 : Value}
    {f42 : Addr} {od42 an42 : Option Addr} {sl42 : Array (Option Value)} {oc42 kV42 dc42 pm42 cd42 ct42 : Value}
    {f43 : Addr} {od43 an43 : Option Addr} {sl43 : Array (Option Value)} {oc43 kV43 dc43 pm43 cd43 ct43 : Value}
    {C_InvalidSize : Addr}
    {C_Refused : Addr}
    {I_InvalidSize N_InvalidSize : Addr} {nm_InvalidSize qn_InvalidSize : Str} {bs_InvalidSize bm_InvalidSize sub_InvalidSize : List Value} {sn_InvalidSize : List Str} {ab_InvalidSize : Bool} {co_InvalidSize : Option Bool} {dd_InvalidSize od_InvalidSize an_InvalidSize : Option Addr} {m0_InvalidSize m1_InvalidSize m2_InvalidSize m3_InvalidSize m5_InvalidSize : Option Value} {oc_InvalidSize dc_InvalidSize pm_InvalidSize cd_InvalidSize ct_InvalidSize : Value} {sl_InvalidSize : Array (Option Value)}
    {I_Refused N_Refused : Addr} {nm_Refused qn_Refused : Str} {bs_Refused bm_Refused sub_Refused : List Value} {sn_Refused : List Str} {ab_Refused : Bool} {co_Refused : Option Bool} {dd_Refused od_Refused an_Refused : Option Addr} {m0_Refused m1_Refused m2_Refused m3_Refused m5_Refused : Option Value} {oc_Refused dc_Refused pm_Refused cd_Refused ct_Refused : Value} {sl_Refused : Array (Option Value)}
    {Q_ZERO : Addr} {qd_ZERO : Option Addr} {qs_ZERO : Array (Option Value)} {qn_c_ZERO : Nat} {qt0_ZERO : Tok} {qt1_ZERO : Tok}
    (a0 : PySem.W.nsIn K mainGlobals "is_int" = some (some (.ref f0)))
    (l0 : K.lookup f0 = some ⟨oc0, od0, .func (PySem.W.fnOf "is_int" "is_int" (defArgs s_is_int) (defBody s_is_int) (defScope s_is_int) .none kV0 dc0 pm0 an0 cd0 ct0), sl0⟩)
    (c0 : PySem.W.codeIn K cd0 "is_int" = true)
    (k0 : PySem.W.keepIn K (.ref f0) = true)
    (a1 : PySem.W.nsIn K mainGlobals "is_tuple_of" = some (some (.ref f1)))
    (l1 : K.lookup f1 = some ⟨oc1, od1, .func (PySem.W.fnOf "is_tuple_of" "is_tuple_of" (defArgs s_is_tuple_of) (defBody s_is_tuple_of) (defScope s_is_tuple_of) .none kV1 dc1 pm1 an1 cd1 ct1), sl1⟩)
    (c1 : PySem.W.codeIn K cd1 "is_tuple_of" = true)
    (k1 : PySem.W.keepIn K (.ref f1) = true)
    (a2 : PySem.W.nsIn K mainGlobals "are_ints" = some (some (.ref f2)))
    (l2 : K.lookup f2 = some ⟨oc2, od2, .func (PySem.W.fnOf "are_ints" "are_ints" (defArgs s_are_ints) (defBody s_are_ints) (defScope s_are_ints) .none kV2 dc2 pm2 an2 cd2 ct2), sl2⟩)
    (c2 : PySem.W.codeIn K cd2 "are_ints" = true)
    (k2 : PySem.W.keepIn K (.ref f2) = true)
    (a3 : PySem.W.nsIn K mainGlobals "are_numbers" = some (some (.ref f3)))
    (l3 : K.lookup f3 = some ⟨oc3, od3, .func (PySem.W.fnOf "are_numbers" "are_numbers" (defArgs s_are_numbers) (defBody s_are_numbers) (defScope s_are_numbers) .none kV3 dc3 pm3 an3 cd3 ct3), sl3⟩)
    (c3 : PySem.W.codeIn K cd3 "are_numbers" = true)
    (k3 : PySem.W.keepIn K (.ref f3) = true)
    (a4 : PySem.W.nsIn K mainGlobals "_fault_of" = some (some (.ref f4)))
    (l4 : K.lookup f4 = some ⟨oc4, od4, .func (PySem.W.fnOf "_fault_of" "_fault_of" (defArgs s__fault_of) (defBody s__fault_of) (defScope s__fault_of) .none kV4 dc4 pm4 an4 cd4 ct4), sl4⟩)
    (c4 : PySem.W.codeIn K cd4 "_fault_of" = true)
    (k4 : PySem.W.keepIn K (.ref f4) = true)
    (a5 : PySem.W.nsIn K mainGlobals "is_fraction" = some (some (.ref f5)))
    (l5 : K.lookup f5 = some ⟨oc5, od5, .func (PySem.W.fnOf "is_fraction" "is_fraction" (defArgs s_is_fraction) (defBody s_is_fraction) (defScope s_is_fraction) .none kV5 dc5 pm5 an5 cd5 ct5), sl5⟩)
    (c5 : PySem.W.codeIn K cd5 "is_fraction" = true)
    (k5 : PySem.W.keepIn K (.ref f5) = true)
    (a6 : PySem.W.nsIn K mainGlobals "fraction" = some (some (.ref f6)))
    (l6 : K.lookup f6 = some ⟨oc6, od6, .func (PySem.W.fnOf "fraction" "fraction" (defArgs s_fraction) (defBody s_fraction) (defScope s_fraction) .none kV6 dc6 pm6 an6 cd6 ct6), sl6⟩)
    (c6 : PySem.W.codeIn K cd6 "fraction" = true)
    (k6 : PySem.W.keepIn K (.ref f6) = true)
    (a7 : PySem.W.nsIn K mainGlobals "plus" = some (some (.ref f7)))
    (l7 : K.lookup f7 = some ⟨oc7, od7, .func (PySem.W.fnOf "plus" "plus" (defArgs s_plus) (defBody s_plus) (defScope s_plus) .none kV7 dc7 pm7 an7 cd7 ct7), sl7⟩)
    (c7 : PySem.W.codeIn K cd7 "plus" = true)
    (k7 : PySem.W.keepIn K (.ref f7) = true)
    (a8 : PySem.W.nsIn K mainGlobals "minus" = some (some (.ref f8)))
    (l8 : K.lookup f8 = some ⟨oc8, od8, .func (PySem.W.fnOf "minus" "minus" (defArgs s_minus) (defBody s_minus) (defScope s_minus) .none kV8 dc8 pm8 an8 cd8 ct8), sl8⟩)
    (c8 : PySem.W.codeIn K cd8 "minus" = true)
    (k8 : PySem.W.keepIn K (.ref f8) = true)
    (a9 : PySem.W.nsIn K mainGlobals "times" = some (some (.ref f9)))
    (l9 : K.lookup f9 = some ⟨oc9, od9, .func (PySem.W.fnOf "times" "times" (defArgs s_times) (defBody s_times) (defScope s_times) .none kV9 dc9 pm9 an9 cd9 ct9), sl9⟩)
    (c9 : PySem.W.codeIn K cd9 "times" = true)
    (k9 : PySem.W.keepIn K (.ref f9) = true)
    (a10 : PySem.W.nsIn K mainGlobals "over" = some (some (.ref f10)))
    (l10 : K.lookup f10 = some ⟨oc10, od10, .func (PySem.W.fnOf "over" "over" (defArgs s_over) (defBody s_over) (defScope s_over) .none kV10 dc10 pm10 an10 cd10 ct10), sl10⟩)
    (c10 : PySem.W.codeIn K cd10 "over" = true)
    (k10 : PySem.W.keepIn K (.ref f10) = true)
    (a11 : PySem.W.nsIn K mainGlobals "negative" = some (some (.ref f11)))
    (l11 : K.lookup f11 = some ⟨oc11, od11, .func (PySem.W.fnOf "negative" "negative" (defArgs s_negative) (defBody s_negative) (defScope s_negative) .none kV11 dc11 pm11 an11 cd11 ct11), sl11⟩)
    (c11 : PySem.W.codeIn K cd11 "negative" = true)
    (k11 : PySem.W.keepIn K (.ref f11) = true)
    (a12 : PySem.W.nsIn K mainGlobals "half" = some (some (.ref f12)))
    (l12 : K.lookup f12 = some ⟨oc12, od12, .func (PySem.W.fnOf "half" "half" (defArgs s_half) (defBody s_half) (defScope s_half) .none kV12 dc12 pm12 an12 cd12 ct12), sl12⟩)
    (c12 : PySem.W.codeIn K cd12 "half" = true)
    (k12 : PySem.W.keepIn K (.ref f12) = true)
    (a13 : PySem.W.nsIn K mainGlobals "total_of" = some (some (.ref f13)))
    (l13 : K.lookup f13 = some ⟨oc13, od13, .func (PySem.W.fnOf "total_of" "total_of" (defArgs s_total_of) (defBody s_total_of) (defScope s_total_of) .none kV13 dc13 pm13 an13 cd13 ct13), sl13⟩)
    (c13 : PySem.W.codeIn K cd13 "total_of" = true)
    (k13 : PySem.W.keepIn K (.ref f13) = true)
    (a14 : PySem.W.nsIn K mainGlobals "ties_by_point" = some (some (.ref f14)))
    (l14 : K.lookup f14 = some ⟨oc14, od14, .func (PySem.W.fnOf "ties_by_point" "ties_by_point" (defArgs s_ties_by_point) (defBody s_ties_by_point) (defScope s_ties_by_point) .none kV14 dc14 pm14 an14 cd14 ct14), sl14⟩)
    (c14 : PySem.W.codeIn K cd14 "ties_by_point" = true)
    (k14 : PySem.W.keepIn K (.ref f14) = true)
    (a15 : PySem.W.nsIn K mainGlobals "network_in" = some (some (.ref f15)))
    (l15 : K.lookup f15 = some ⟨oc15, od15, .func (PySem.W.fnOf "network_in" "network_in" (defArgs s_network_in) (defBody s_network_in) (defScope s_network_in) .none kV15 dc15 pm15 an15 cd15 ct15), sl15⟩)
    (c15 : PySem.W.codeIn K cd15 "network_in" = true)
    (k15 : PySem.W.keepIn K (.ref f15) = true)
    (a16 : PySem.W.nsIn K mainGlobals "tie_more" = some (some (.ref f16)))
    (l16 : K.lookup f16 = some ⟨oc16, od16, .func (PySem.W.fnOf "tie_more" "tie_more" (defArgs s_tie_more) (defBody s_tie_more) (defScope s_tie_more) .none kV16 dc16 pm16 an16 cd16 ct16), sl16⟩)
    (c16 : PySem.W.codeIn K cd16 "tie_more" = true)
    (k16 : PySem.W.keepIn K (.ref f16) = true)
    (a17 : PySem.W.nsIn K mainGlobals "drop_point" = some (some (.ref f17)))
    (l17 : K.lookup f17 = some ⟨oc17, od17, .func (PySem.W.fnOf "drop_point" "drop_point" (defArgs s_drop_point) (defBody s_drop_point) (defScope s_drop_point) .none kV17 dc17 pm17 an17 cd17 ct17), sl17⟩)
    (c17 : PySem.W.codeIn K cd17 "drop_point" = true)
    (k17 : PySem.W.keepIn K (.ref f17) = true)
    (a18 : PySem.W.nsIn K mainGlobals "_is_tie" = some (some (.ref f18)))
    (l18 : K.lookup f18 = some ⟨oc18, od18, .func (PySem.W.fnOf "_is_tie" "_is_tie" (defArgs s__is_tie) (defBody s__is_tie) (defScope s__is_tie) .none kV18 dc18 pm18 an18 cd18 ct18), sl18⟩)
    (c18 : PySem.W.codeIn K cd18 "_is_tie" = true)
    (k18 : PySem.W.keepIn K (.ref f18) = true)
    (a19 : PySem.W.nsIn K mainGlobals "is_network" = some (some (.ref f19)))
    (l19 : K.lookup f19 = some ⟨oc19, od19, .func (PySem.W.fnOf "is_network" "is_network" (defArgs s_is_network) (defBody s_is_network) (defScope s_is_network) .none kV19 dc19 pm19 an19 cd19 ct19), sl19⟩)
    (c19 : PySem.W.codeIn K cd19 "is_network" = true)
    (k19 : PySem.W.keepIn K (.ref f19) = true)
    (a20 : PySem.W.nsIn K mainGlobals "pairs_of" = some (some (.ref f20)))
    (l20 : K.lookup f20 = some ⟨oc20, od20, .func (PySem.W.fnOf "pairs_of" "pairs_of" (defArgs s_pairs_of) (defBody s_pairs_of) (defScope s_pairs_of) .none kV20 dc20 pm20 an20 cd20 ct20), sl20⟩)
    (c20 : PySem.W.codeIn K cd20 "pairs_of" = true)
    (k20 : PySem.W.keepIn K (.ref f20) = true)
    (a21 : PySem.W.nsIn K mainGlobals "pull_of" = some (some (.ref f21)))
    (l21 : K.lookup f21 = some ⟨oc21, od21, .func (PySem.W.fnOf "pull_of" "pull_of" (defArgs s_pull_of) (defBody s_pull_of) (defScope s_pull_of) .none kV21 dc21 pm21 an21 cd21 ct21), sl21⟩)
    (c21 : PySem.W.codeIn K cd21 "pull_of" = true)
    (k21 : PySem.W.keepIn K (.ref f21) = true)
    (a22 : PySem.W.nsIn K mainGlobals "network_energy" = some (some (.ref f22)))
    (l22 : K.lookup f22 = some ⟨oc22, od22, .func (PySem.W.fnOf "network_energy" "network_energy" (defArgs s_network_energy) (defBody s_network_energy) (defScope s_network_energy) .none kV22 dc22 pm22 an22 cd22 ct22), sl22⟩)
    (c22 : PySem.W.codeIn K cd22 "network_energy" = true)
    (k22 : PySem.W.keepIn K (.ref f22) = true)
    (a23 : PySem.W.nsIn K mainGlobals "outflow" = some (some (.ref f23)))
    (l23 : K.lookup f23 = some ⟨oc23, od23, .func (PySem.W.fnOf "outflow" "outflow" (defArgs s_outflow) (defBody s_outflow) (defScope s_outflow) .none kV23 dc23 pm23 an23 cd23 ct23), sl23⟩)
    (c23 : PySem.W.codeIn K cd23 "outflow" = true)
    (k23 : PySem.W.keepIn K (.ref f23) = true)
    (a24 : PySem.W.nsIn K mainGlobals "tied_more" = some (some (.ref f24)))
    (l24 : K.lookup f24 = some ⟨oc24, od24, .func (PySem.W.fnOf "tied_more" "tied_more" (defArgs s_tied_more) (defBody s_tied_more) (defScope s_tied_more) .none kV24 dc24 pm24 an24 cd24 ct24), sl24⟩)
    (c24 : PySem.W.codeIn K cd24 "tied_more" = true)
    (k24 : PySem.W.keepIn K (.ref f24) = true)
    (a25 : PySem.W.nsIn K mainGlobals "dropped" = some (some (.ref f25)))
    (l25 : K.lookup f25 = some ⟨oc25, od25, .func (PySem.W.fnOf "dropped" "dropped" (defArgs s_dropped) (defBody s_dropped) (defScope s_dropped) .none kV25 dc25 pm25 an25 cd25 ct25), sl25⟩)
    (c25 : PySem.W.codeIn K cd25 "dropped" = true)
    (k25 : PySem.W.keepIn K (.ref f25) = true)
    (a26 : PySem.W.nsIn K mainGlobals "_law_deal" = some (some (.ref f26)))
    (l26 : K.lookup f26 = some ⟨oc26, od26, .func (PySem.W.fnOf "_law_deal" "_law_deal" (defArgs s__law_deal) (defBody s__law_deal) (defScope s__law_deal) .none kV26 dc26 pm26 an26 cd26 ct26), sl26⟩)
    (c26 : PySem.W.codeIn K cd26 "_law_deal" = true)
    (k26 : PySem.W.keepIn K (.ref f26) = true)
    (a27 : PySem.W.nsIn K mainGlobals "_law_any" = some (some (.ref f27)))
    (l27 : K.lookup f27 = some ⟨oc27, od27, .func (PySem.W.fnOf "_law_any" "_law_any" (defArgs s__law_any) (defBody s__law_any) (defScope s__law_any) .none kV27 dc27 pm27 an27 cd27 ct27), sl27⟩)
    (c27 : PySem.W.codeIn K cd27 "_law_any" = true)
    (k27 : PySem.W.keepIn K (.ref f27) = true)
    (a28 : PySem.W.nsIn K mainGlobals "_law_of" = some (some (.ref f28)))
    (l28 : K.lookup f28 = some ⟨oc28, od28, .func (PySem.W.fnOf "_law_of" "_law_of" (defArgs s__law_of) (defBody s__law_of) (defScope s__law_of) .none kV28 dc28 pm28 an28 cd28 ct28), sl28⟩)
    (c28 : PySem.W.codeIn K cd28 "_law_of" = true)
    (k28 : PySem.W.keepIn K (.ref f28) = true)
    (a29 : PySem.W.nsIn K mainGlobals "_law_frac" = some (some (.ref f29)))
    (l29 : K.lookup f29 = some ⟨oc29, od29, .func (PySem.W.fnOf "_law_frac" "_law_frac" (defArgs s__law_frac) (defBody s__law_frac) (defScope s__law_frac) .none kV29 dc29 pm29 an29 cd29 ct29), sl29⟩)
    (c29 : PySem.W.codeIn K cd29 "_law_frac" = true)
    (k29 : PySem.W.keepIn K (.ref f29) = true)
    (a30 : PySem.W.nsIn K mainGlobals "_law_plus" = some (some (.ref f30)))
    (l30 : K.lookup f30 = some ⟨oc30, od30, .func (PySem.W.fnOf "_law_plus" "_law_plus" (defArgs s__law_plus) (defBody s__law_plus) (defScope s__law_plus) .none kV30 dc30 pm30 an30 cd30 ct30), sl30⟩)
    (c30 : PySem.W.codeIn K cd30 "_law_plus" = true)
    (k30 : PySem.W.keepIn K (.ref f30) = true)
    (a31 : PySem.W.nsIn K mainGlobals "_law_less" = some (some (.ref f31)))
    (l31 : K.lookup f31 = some ⟨oc31, od31, .func (PySem.W.fnOf "_law_less" "_law_less" (defArgs s__law_less) (defBody s__law_less) (defScope s__law_less) .none kV31 dc31 pm31 an31 cd31 ct31), sl31⟩)
    (c31 : PySem.W.codeIn K cd31 "_law_less" = true)
    (k31 : PySem.W.keepIn K (.ref f31) = true)
    (a32 : PySem.W.nsIn K mainGlobals "_law_times" = some (some (.ref f32)))
    (l32 : K.lookup f32 = some ⟨oc32, od32, .func (PySem.W.fnOf "_law_times" "_law_times" (defArgs s__law_times) (defBody s__law_times) (defScope s__law_times) .none kV32 dc32 pm32 an32 cd32 ct32), sl32⟩)
    (c32 : PySem.W.codeIn K cd32 "_law_times" = true)
    (k32 : PySem.W.keepIn K (.ref f32) = true)
    (a33 : PySem.W.nsIn K mainGlobals "_law_some" = some (some (.ref f33)))
    (l33 : K.lookup f33 = some ⟨oc33, od33, .func (PySem.W.fnOf "_law_some" "_law_some" (defArgs s__law_some) (defBody s__law_some) (defScope s__law_some) .none kV33 dc33 pm33 an33 cd33 ct33), sl33⟩)
    (c33 : PySem.W.codeIn K cd33 "_law_some" = true)
    (k33 : PySem.W.keepIn K (.ref f33) = true)
    (a34 : PySem.W.nsIn K mainGlobals "_law_energy" = some (some (.ref f34)))
    (l34 : K.lookup f34 = some ⟨oc34, od34, .func (PySem.W.fnOf "_law_energy" "_law_energy" (defArgs s__law_energy) (defBody s__law_energy) (defScope s__law_energy) .none kV34 dc34 pm34 an34 cd34 ct34), sl34⟩)
    (c34 : PySem.W.codeIn K cd34 "_law_energy" = true)
    (k34 : PySem.W.keepIn K (.ref f34) = true)
    (a35 : PySem.W.nsIn K mainGlobals "_law_out" = some (some (.ref f35)))
    (l35 : K.lookup f35 = some ⟨oc35, od35, .func (PySem.W.fnOf "_law_out" "_law_out" (defArgs s__law_out) (defBody s__law_out) (defScope s__law_out) .none kV35 dc35 pm35 an35 cd35 ct35), sl35⟩)
    (c35 : PySem.W.codeIn K cd35 "_law_out" = true)
    (k35 : PySem.W.keepIn K (.ref f35) = true)
    (a36 : PySem.W.nsIn K mainGlobals "_law_net" = some (some (.ref f36)))
    (l36 : K.lookup f36 = some ⟨oc36, od36, .func (PySem.W.fnOf "_law_net" "_law_net" (defArgs s__law_net) (defBody s__law_net) (defScope s__law_net) .none kV36 dc36 pm36 an36 cd36 ct36), sl36⟩)
    (c36 : PySem.W.codeIn K cd36 "_law_net" = true)
    (k36 : PySem.W.keepIn K (.ref f36) = true)
    (a37 : PySem.W.nsIn K mainGlobals "_law_turned" = some (some (.ref f37)))
    (l37 : K.lookup f37 = some ⟨oc37, od37, .func (PySem.W.fnOf "_law_turned" "_law_turned" (defArgs s__law_turned) (defBody s__law_turned) (defScope s__law_turned) .none kV37 dc37 pm37 an37 cd37 ct37), sl37⟩)
    (c37 : PySem.W.codeIn K cd37 "_law_turned" = true)
    (k37 : PySem.W.keepIn K (.ref f37) = true)
    (a38 : PySem.W.nsIn K mainGlobals "_law_is_number" = some (some (.ref f38)))
    (l38 : K.lookup f38 = some ⟨oc38, od38, .func (PySem.W.fnOf "_law_is_number" "_law_is_number" (defArgs s__law_is_number) (defBody s__law_is_number) (defScope s__law_is_number) .none kV38 dc38 pm38 an38 cd38 ct38), sl38⟩)
    (c38 : PySem.W.codeIn K cd38 "_law_is_number" = true)
    (k38 : PySem.W.keepIn K (.ref f38) = true)
    (a39 : PySem.W.nsIn K mainGlobals "_law_is_weight" = some (some (.ref f39)))
    (l39 : K.lookup f39 = some ⟨oc39, od39, .func (PySem.W.fnOf "_law_is_weight" "_law_is_weight" (defArgs s__law_is_weight) (defBody s__law_is_weight) (defScope s__law_is_weight) .none kV39 dc39 pm39 an39 cd39 ct39), sl39⟩)
    (c39 : PySem.W.codeIn K cd39 "_law_is_weight" = true)
    (k39 : PySem.W.keepIn K (.ref f39) = true)
    (a40 : PySem.W.nsIn K mainGlobals "_law_is_net" = some (some (.ref f40)))
    (l40 : K.lookup f40 = some ⟨oc40, od40, .func (PySem.W.fnOf "_law_is_net" "_law_is_net" (defArgs s__law_is_net) (defBody s__law_is_net) (defScope s__law_is_net) .none kV40 dc40 pm40 an40 cd40 ct40), sl40⟩)
    (c40 : PySem.W.codeIn K cd40 "_law_is_net" = true)
    (k40 : PySem.W.keepIn K (.ref f40) = true)
    (a41 : PySem.W.nsIn K mainGlobals "_law_sums" = some (some (.ref f41)))
    (l41 : K.lookup f41 = some ⟨oc41, od41, .func (PySem.W.fnOf "_law_sums" "_law_sums" (defArgs s__law_sums) (defBody s__law_sums) (defScope s__law_sums) .none kV41 dc41 pm41 an41 cd41 ct41), sl41⟩)
    (c41 : PySem.W.codeIn K cd41 "_law_sums" = true)
    (k41 : PySem.W.keepIn K (.ref f41) = true)
    (a42 : PySem.W.nsIn K mainGlobals "_law_more" = some (some (.ref f42)))
    (l42 : K.lookup f42 = some ⟨oc42, od42, .func (PySem.W.fnOf "_law_more" "_law_more" (defArgs s__law_more) (defBody s__law_more) (defScope s__law_more) .none kV42 dc42 pm42 an42 cd42 ct42), sl42⟩)
    (c42 : PySem.W.codeIn K cd42 "_law_more" = true)
    (k42 : PySem.W.keepIn K (.ref f42) = true)
    (a43 : PySem.W.nsIn K mainGlobals "law" = some (some (.ref f43)))
    (l43 : K.lookup f43 = some ⟨oc43, od43, .func (PySem.W.fnOf "law" "law" (defArgs s_law) (defBody s_law) (defScope s_law) .none kV43 dc43 pm43 an43 cd43 ct43), sl43⟩)
    (c43 : PySem.W.codeIn K cd43 "law" = true)
    (k43 : PySem.W.keepIn K (.ref f43) = true)
    (z_abs : PySem.W.nsIn K mainGlobals "abs" = some none)
    (z_all : PySem.W.nsIn K mainGlobals "all" = some none)
    (z_bool : PySem.W.nsIn K mainGlobals "bool" = some none)
    (z_dict : PySem.W.nsIn K mainGlobals "dict" = some none)
    (z_enumerate : PySem.W.nsIn K mainGlobals "enumerate" = some none)
    (m_gcd : PySem.W.nsIn K mainGlobals "gcd" = some (some (.builtin "math.gcd")))
    (z_int : PySem.W.nsIn K mainGlobals "int" = some none)
    (z_isinstance : PySem.W.nsIn K mainGlobals "isinstance" = some none)
    (z_len : PySem.W.nsIn K mainGlobals "len" = some none)
    (z_list : PySem.W.nsIn K mainGlobals "list" = some none)
    (z_range : PySem.W.nsIn K mainGlobals "range" = some none)
    (z_repr : PySem.W.nsIn K mainGlobals "repr" = some none)
    (z_sorted : PySem.W.nsIn K mainGlobals "sorted" = some none)
    (z_tuple : PySem.W.nsIn K mainGlobals "tuple" = some none)
    (z_zip : PySem.W.nsIn K mainGlobals "zip" = some none)
    (g_InvalidSize : PySem.W.nsIn K mainGlobals "InvalidSize" = some (some (.ref C_InvalidSize)))
    (g_Refused : PySem.W.nsIn K mainGlobals "Refused" = some (some (.ref C_Refused)))
    (xl_InvalidSize : K.lookup C_InvalidSize = some (excClassObj nm_InvalidSize qn_InvalidSize C_InvalidSize N_InvalidSize bs_InvalidSize bm_InvalidSize true sn_InvalidSize sub_InvalidSize ab_InvalidSize co_InvalidSize dd_InvalidSize m0_InvalidSize m1_InvalidSize m2_InvalidSize m3_InvalidSize m5_InvalidSize "Exception.__new__"))
    (xr_InvalidSize : Refs bm_InvalidSize)
    (xk_InvalidSize : PySem.W.keepIn K (.ref C_InvalidSize) = true)
    (xe_InvalidSize : PySem.W.subIn K (.ref C_InvalidSize) (.type "BaseException") = some true)
    (xt_InvalidSize : PySem.W.typeIn K (.ref C_InvalidSize) = some (.type "type"))
    (xh_InvalidSize : PySem.W.hasDictIn K C_InvalidSize = true)
    (xs_InvalidSize : PySem.W.findIn K (.ref C_InvalidSize) "__setattr__" = some (some (.builtin "object.__setattr__")))
    (xn_InvalidSize : PySem.W.findIn K (.ref C_InvalidSize) "word" = some none)
    (xi_InvalidSize : PySem.W.findIn K (.ref C_InvalidSize) "__init__" = some (some (.ref I_InvalidSize)))
    (xu_InvalidSize : PySem.W.typeIn K (.ref I_InvalidSize) = some (.type "function"))
    (xf_InvalidSize : K.lookup I_InvalidSize = some ⟨oc_InvalidSize, od_InvalidSize, .func (PySem.W.fnOf "__init__" "InvalidSize.__init__" (XI.iA "word" ⟨7, 17, 7, 21⟩ ⟨7, 23, 7, 27⟩) (XI.iB "word" ⟨8, 8, 8, 12⟩ ⟨8, 8, 8, 17⟩ ⟨8, 20, 8, 24⟩ ⟨8, 8, 8, 24⟩) (XI.iS "word") .none .none dc_InvalidSize pm_InvalidSize an_InvalidSize cd_InvalidSize ct_InvalidSize), sl_InvalidSize⟩)
    (xc_InvalidSize : PySem.W.codeIn K cd_InvalidSize "InvalidSize.__init__" = true)
    (xl_Refused : K.lookup C_Refused = some (excClassObj nm_Refused qn_Refused C_Refused N_Refused bs_Refused bm_Refused true sn_Refused sub_Refused ab_Refused co_Refused dd_Refused m0_Refused m1_Refused m2_Refused m3_Refused m5_Refused "Exception.__new__"))
    (xr_Refused : Refs bm_Refused)
    (xk_Refused : PySem.W.keepIn K (.ref C_Refused) = true)
    (xe_Refused : PySem.W.subIn K (.ref C_Refused) (.type "BaseException") = some true)
    (xt_Refused : PySem.W.typeIn K (.ref C_Refused) = some (.type "type"))
    (xh_Refused : PySem.W.hasDictIn K C_Refused = true)
    (xs_Refused : PySem.W.findIn K (.ref C_Refused) "__setattr__" = some (some (.builtin "object.__setattr__")))
    (xn_Refused : PySem.W.findIn K (.ref C_Refused) "word" = some none)
    (xi_Refused : PySem.W.findIn K (.ref C_Refused) "__init__" = some (some (.ref I_Refused)))
    (xu_Refused : PySem.W.typeIn K (.ref I_Refused) = some (.type "function"))
    (xf_Refused : K.lookup I_Refused = some ⟨oc_Refused, od_Refused, .func (PySem.W.fnOf "__init__" "Refused.__init__" (XI.iA "word" ⟨11, 17, 11, 21⟩ ⟨11, 23, 11, 27⟩) (XI.iB "word" ⟨12, 8, 12, 12⟩ ⟨12, 8, 12, 17⟩ ⟨12, 20, 12, 24⟩ ⟨12, 8, 12, 24⟩) (XI.iS "word") .none .none dc_Refused pm_Refused an_Refused cd_Refused ct_Refused), sl_Refused⟩)
    (xc_Refused : PySem.W.codeIn K cd_Refused "Refused.__init__" = true)
    (q_ZERO : PySem.W.nsIn K mainGlobals "ZERO" = some (some (.ref Q_ZERO)))
    (ql_ZERO : K.lookup Q_ZERO = some ⟨.type "tuple", qd_ZERO, .seq #[.int 0 qt0_ZERO, .int 1 qt1_ZERO] qn_c_ZERO, qs_ZERO⟩) :
    ∃ fd : FuncData, (∀ (s : Shared) (v : Value), BindsTo s fd ⟨[v], []⟩ [("script", v)]) ∧ ∀ base : Heap, K.In base → base.Ns mainGlobals mg → base.NoDigits → FnG l.prog w K mg base 7 fa fd ["script"] M_law := by
  have e := hfa.symm.trans (PySem.W.mg_of X G a43)
  cases e
  have F0 := fun_mk (st := s_is_int) l0 c0 k0
  have F1 := fun_mk (st := s_is_tuple_of) l1 c1 k1
  have F2 := fun_mk (st := s_are_ints) l2 c2 k2
  have F3 := fun_mk (st := s_are_numbers) l3 c3 k3
  have F4 := fun_mk (st := s__fault_of) l4 c4 k4
  have F5 := fun_mk (st := s_is_fraction) l5 c5 k5
  have F6 := fun_mk (st := s_fraction) l6 c6 k6
  have F7 := fun_mk (st := s_plus) l7 c7 k7
  have F8 := fun_mk (st := s_minus) l8 c8 k8
  have F9 := fun_mk (st := s_times) l9 c9 k9
  have F10 := fun_mk (st := s_over) l10 c10 k10
  have F11 := fun_mk (st := s_negative) l11 c11 k11
  have F12 := fun_mk (st := s_half) l12 c12 k12
  have F13 := fun_mk (st := s_total_of) l13 c13 k13
  have F14 := fun_mk (st := s_ties_by_point) l14 c14 k14
  have F15 := fun_mk (st := s_network_in) l15 c15 k15
  have F16 := fun_mk (st := s_tie_more) l16 c16 k16
  have F17 := fun_mk (st := s_drop_point) l17 c17 k17
  have F18 := fun_mk (st := s__is_tie) l18 c18 k18
  have F19 := fun_mk (st := s_is_network) l19 c19 k19
  have F20 := fun_mk (st := s_pairs_of) l20 c20 k20
  have F21 := fun_mk (st := s_pull_of) l21 c21 k21
  have F22 := fun_mk (st := s_network_energy) l22 c22 k22
  have F23 := fun_mk (st := s_outflow) l23 c23 k23
  have F24 := fun_mk (st := s_tied_more) l24 c24 k24
  have F25 := fun_mk (st := s_dropped) l25 c25 k25
  have F26 := fun_mk (st := s__law_deal) l26 c26 k26
  have F27 := fun_mk (st := s__law_any) l27 c27 k27
  have F28 := fun_mk (st := s__law_of) l28 c28 k28
  have F29 := fun_mk (st := s__law_frac) l29 c29 k29
  have F30 := fun_mk (st := s__law_plus) l30 c30 k30
  have F31 := fun_mk (st := s__law_less) l31 c31 k31
  have F32 := fun_mk (st := s__law_times) l32 c32 k32
  have F33 := fun_mk (st := s__law_some) l33 c33 k33
  have F34 := fun_mk (st := s__law_energy) l34 c34 k34
  have F35 := fun_mk (st := s__law_out) l35 c35 k35
  have F36 := fun_mk (st := s__law_net) l36 c36 k36
  have F37 := fun_mk (st := s__law_turned) l37 c37 k37
  have F38 := fun_mk (st := s__law_is_number) l38 c38 k38
  have F39 := fun_mk (st := s__law_is_weight) l39 c39 k39
  have F40 := fun_mk (st := s__law_is_net) l40 c40 k40
  have F41 := fun_mk (st := s__law_sums) l41 c41 k41
  have F42 := fun_mk (st := s__law_more) l42 c42 k42
  have F43 := fun_mk (st := s_law) l43 c43 k43
  have X_InvalidSize : XCls K mg "InvalidSize" C_InvalidSize := ⟨PySem.W.mg_of X G g_InvalidSize, ⟨nm_InvalidSize, qn_InvalidSize, N_InvalidSize, bs_InvalidSize, _, sn_InvalidSize, sub_InvalidSize, ab_InvalidSize, co_InvalidSize, dd_InvalidSize, m0_InvalidSize, m1_InvalidSize, m2_InvalidSize, m3_InvalidSize, m5_InvalidSize, xl_InvalidSize, xr_InvalidSize⟩, xk_InvalidSize, xe_InvalidSize, xt_InvalidSize, xh_InvalidSize⟩
  have X_Refused : XCls K mg "Refused" C_Refused := ⟨PySem.W.mg_of X G g_Refused, ⟨nm_Refused, qn_Refused, N_Refused, bs_Refused, _, sn_Refused, sub_Refused, ab_Refused, co_Refused, dd_Refused, m0_Refused, m1_Refused, m2_Refused, m3_Refused, m5_Refused, xl_Refused, xr_Refused⟩, xk_Refused, xe_Refused, xt_Refused, xh_Refused⟩
  have T : Txt K mg { a_is_int := f0, fd_is_int := _, a_is_tuple_of := f1, fd_is_tuple_of := _, a_are_ints := f2, fd_are_ints := _, a_are_numbers := f3, fd_are_numbers := _, a__fault_of := f4, fd__fault_of := _, a_is_fraction := f5, fd_is_fraction := _, a_fraction := f6, fd_fraction := _, a_plus := f7, fd_plus := _, a_minus := f8, fd_minus := _, a_times := f9, fd_times := _, a_over := f10, fd_over := _, a_negative := f11, fd_negative := _, a_half := f12, fd_half := _, a_total_of := f13, fd_total_of := _, a_ties_by_point := f14, fd_ties_by_point := _, a_network_in := f15, fd_network_in := _, a_tie_more := f16, fd_tie_more := _, a_drop_point := f17, fd_drop_point := _, a__is_tie := f18, fd__is_tie := _, a_is_network := f19, fd_is_network := _, a_pairs_of := f20, fd_pairs_of := _, a_pull_of := f21, fd_pull_of := _, a_network_energy := f22, fd_network_energy := _, a_outflow := f23, fd_outflow := _, a_tied_more := f24, fd_tied_more := _, a_dropped := f25, fd_dropped := _, a__law_deal := f26, fd__law_deal := _, a__law_any := f27, fd__law_any := _, a__law_of := f28, fd__law_of := _, a__law_frac := f29, fd__law_frac := _, a__law_plus := f30, fd__law_plus := _, a__law_less := f31, fd__law_less := _, a__law_times := f32, fd__law_times := _, a__law_some := f33, fd__law_some := _, a__law_energy := f34, fd__law_energy := _, a__law_out := f35, fd__law_out := _, a__law_net := f36, fd__law_net := _, a__law_turned := f37, fd__law_turned := _, a__law_is_number := f38, fd__law_is_number := _, a__law_is_weight := f39, fd__law_is_weight := _, a__law_is_net := f40, fd__law_is_net := _, a__law_sums := f41, fd__law_sums := _, a__law_more := f42, fd__law_more := _, a_law := fa, fd_law := _, c_InvalidSize := C_InvalidSize, c_Refused := C_Refused, i_InvalidSize := I_InvalidSize, i_Refused := I_Refused, k_ZERO := Q_ZERO } := {
    d_is_int := ⟨F0, PySem.W.mg_of X G a0, k0⟩
    b_is_int := F0.binds fun _ _ _ _ _ _  us hl => match us, hl with | [_], _ => rfl
    d_is_tuple_of := ⟨F1, PySem.W.mg_of X G a1, k1⟩
    b_is_tuple_of := F1.binds fun _ _ _ _ _ _  us hl => match us, hl with | [_, _], _ => rfl
    d_are_ints := ⟨F2, PySem.W.mg_of X G a2, k2⟩
    b_are_ints := F2.binds fun _ _ _ _ _ _  us hl => match us, hl with | [_, _], _ => rfl
    d_are_numbers := ⟨F3, PySem.W.mg_of X G a3, k3⟩
    b_are_numbers := F3.binds fun _ _ _ _ _ _  us hl => match us, hl with | [_], _ => rfl
    d__fault_of := ⟨F4, PySem.W.mg_of X G a4, k4⟩
    b__fault_of := F4.binds fun _ _ _ _ _ _  us hl => match us, hl with | [_], _ => rfl
    d_is_fraction := ⟨F5, PySem.W.mg_of X G a5, k5⟩
    b_is_fraction := F5.binds fun _ _ _ _ _ _  us hl => match us, hl with | [_], _ => rfl
    d_fraction := ⟨F6, PySem.W.mg_of X G a6, k6⟩
    b_fraction := F6.binds fun _ _ _ _ _ _  us hl => match us, hl with | [_, _], _ => rfl
    d_plus := ⟨F7, PySem.W.mg_of X G a7, k7⟩
    b_plus := F7.binds fun _ _ _ _ _ _  us hl => match us, hl with | [_, _], _ => rfl
    d_minus := ⟨F8, PySem.W.mg_of X G a8, k8⟩
    b_minus := F8.binds fun _ _ _ _ _ _  us hl => match us, hl with | [_, _], _ => rfl
    d_times := ⟨F9, PySem.W.mg_of X G a9, k9⟩
    b_times := F9.binds fun _ _ _ _ _ _  us hl => match us, hl with | [_, _], _ => rfl
    d_over := ⟨F10, PySem.W.mg_of X G a10, k10⟩
    b_over := F10.binds fun _ _ _ _ _ _  us hl => match us, hl with | [_, _], _ => rfl
    d_negative := ⟨F11, PySem.W.mg_of X G a11, k11⟩
    b_negative := F11.binds fun _ _ _ _ _ _  us hl => match us, hl with | [_], _ => rfl
    d_half := ⟨F12, PySem.W.mg_of X G a12, k12⟩
    b_half := F12.binds fun _ _ _ _ _ _  us hl => match us, hl with | [_], _ => rfl
    d_total_of := ⟨F13, PySem.W.mg_of X G a13, k13⟩
    b_total_of := F13.binds fun _ _ _ _ _ _  us hl => match us, hl with | [_], _ => rfl
    d_ties_by_point := ⟨F14, PySem.W.mg_of X G a14, k14⟩
    b_ties_by_point := F14.binds fun _ _ _ _ _ _  us hl => match us, hl with | [_], _ => rfl
    d_network_in := ⟨F15, PySem.W.mg_of X G a15, k15⟩
    b_network_in := F15.binds fun _ _ _ _ _ _  us hl => match us, hl with | [_], _ => rfl
    d_tie_more := ⟨F16, PySem.W.mg_of X G a16, k16⟩
    b_tie_more := F16.binds fun _ _ _ _ _ _  us hl => match us, hl with | [_, _, _, _], _ => rfl
    d_drop_point := ⟨F17, PySem.W.mg_of X G a17, k17⟩
    b_drop_point := F17.binds fun _ _ _ _ _ _  us hl => match us, hl with | [_, _], _ => rfl
    d__is_tie := ⟨F18, PySem.W.mg_of X G a18, k18⟩
    b__is_tie := F18.binds fun _ _ _ _ _ _  us hl => match us, hl with | [_, _], _ => rfl
    d_is_network := ⟨F19, PySem.W.mg_of X G a19, k19⟩
    b_is_network := F19.binds fun _ _ _ _ _ _  us hl => match us, hl with | [_], _ => rfl
    k_is_network_value := fun s us _ hl => match us, hl with | [_], _ => .of_eq rfl
    d_pairs_of := ⟨F20, PySem.W.mg_of X G a20, k20⟩
    b_pairs_of := F20.binds fun _ _ _ _ _ _  us hl => match us, hl with | [_, _], _ => rfl
    k_pairs_of_network_point := fun s us _ hl => match us, hl with | [_, _], _ => .of_eq rfl
    d_pull_of := ⟨F21, PySem.W.mg_of X G a21, k21⟩
    b_pull_of := F21.binds fun _ _ _ _ _ _  us hl => match us, hl with | [_, _], _ => rfl
    k_pull_of_point_network := fun s us _ hl => match us, hl with | [_, _], _ => .of_eq rfl
    d_network_energy := ⟨F22, PySem.W.mg_of X G a22, k22⟩
    b_network_energy := F22.binds fun _ _ _ _ _ _  us hl => match us, hl with | [_, _], _ => rfl
    k_network_energy_network_worths := fun s us _ hl => match us, hl with | [_, _], _ => .of_eq rfl
    d_outflow := ⟨F23, PySem.W.mg_of X G a23, k23⟩
    b_outflow := F23.binds fun _ _ _ _ _ _  us hl => match us, hl with | [_, _, _], _ => rfl
    k_outflow_worths_network_point := fun s us _ hl => match us, hl with | [_, _, _], _ => .of_eq rfl
    d_tied_more := ⟨F24, PySem.W.mg_of X G a24, k24⟩
    b_tied_more := F24.binds fun _ _ _ _ _ _  us hl => match us, hl with | [_, _, _, _], _ => rfl
    k_tied_more_network_low_more_high := fun s us _ hl => match us, hl with | [_, _, _, _], _ => .of_eq rfl
    d_dropped := ⟨F25, PySem.W.mg_of X G a25, k25⟩
    b_dropped := F25.binds fun _ _ _ _ _ _  us hl => match us, hl with | [_, _], _ => rfl
    d__law_deal := ⟨F26, PySem.W.mg_of X G a26, k26⟩
    b__law_deal := F26.binds fun _ _ _ _ _ _  us hl => match us, hl with | [_, _], _ => rfl
    d__law_any := ⟨F27, PySem.W.mg_of X G a27, k27⟩
    b__law_any := F27.binds fun _ _ _ _ _ _  us hl => match us, hl with | [_, _], _ => rfl
    d__law_of := ⟨F28, PySem.W.mg_of X G a28, k28⟩
    b__law_of := F28.binds fun _ _ _ _ _ _  us hl => match us, hl with | [_, _], _ => rfl
    d__law_frac := ⟨F29, PySem.W.mg_of X G a29, k29⟩
    b__law_frac := F29.binds fun _ _ _ _ _ _  us hl => match us, hl with | [_, _], _ => rfl
    d__law_plus := ⟨F30, PySem.W.mg_of X G a30, k30⟩
    b__law_plus := F30.binds fun _ _ _ _ _ _  us hl => match us, hl with | [_, _], _ => rfl
    d__law_less := ⟨F31, PySem.W.mg_of X G a31, k31⟩
    b__law_less := F31.binds fun _ _ _ _ _ _  us hl => match us, hl with | [_, _], _ => rfl
    d__law_times := ⟨F32, PySem.W.mg_of X G a32, k32⟩
    b__law_times := F32.binds fun _ _ _ _ _ _  us hl => match us, hl with | [_, _], _ => rfl
    d__law_some := ⟨F33, PySem.W.mg_of X G a33, k33⟩
    b__law_some := F33.binds fun _ _ _ _ _ _  us hl => match us, hl with | [_, _], _ => rfl
    d__law_energy := ⟨F34, PySem.W.mg_of X G a34, k34⟩
    b__law_energy := F34.binds fun _ _ _ _ _ _  us hl => match us, hl with | [_, _], _ => rfl
    d__law_out := ⟨F35, PySem.W.mg_of X G a35, k35⟩
    b__law_out := F35.binds fun _ _ _ _ _ _  us hl => match us, hl with | [_, _, _], _ => rfl
    d__law_net := ⟨F36, PySem.W.mg_of X G a36, k36⟩
    b__law_net := F36.binds fun _ _ _ _ _ _  us hl => match us, hl with | [_, _, _], _ => rfl
    d__law_turned := ⟨F37, PySem.W.mg_of X G a37, k37⟩
    b__law_turned := F37.binds fun _ _ _ _ _ _  us hl => match us, hl with | [_, _], _ => rfl
    d__law_is_number := ⟨F38, PySem.W.mg_of X G a38, k38⟩
    b__law_is_number := F38.binds fun _ _ _ _ _ _  us hl => match us, hl with | [_], _ => rfl
    d__law_is_weight := ⟨F39, PySem.W.mg_of X G a39, k39⟩
    b__law_is_weight := F39.binds fun _ _ _ _ _ _  us hl => match us, hl with | [_], _ => rfl
    d__law_is_net := ⟨F40, PySem.W.mg_of X G a40, k40⟩
    b__law_is_net := F40.binds fun _ _ _ _ _ _  us hl => match us, hl with | [_], _ => rfl
    d__law_sums := ⟨F41, PySem.W.mg_of X G a41, k41⟩
    b__law_sums := F41.binds fun _ _ _ _ _ _  us hl => match us, hl with | [_, _], _ => rfl
    d__law_more := ⟨F42, PySem.W.mg_of X G a42, k42⟩
    b__law_more := F42.binds fun _ _ _ _ _ _  us hl => match us, hl with | [_, _], _ => rfl
    d_law := ⟨F43, PySem.W.mg_of X G a43, k43⟩
    b_law := F43.binds fun _ _ _ _ _ _  us hl => match us, hl with | [_], _ => rfl
    n_abs := PySem.W.mg_none_of X G z_abs
    n_all := PySem.W.mg_none_of X G z_all
    n_bool := PySem.W.mg_none_of X G z_bool
    n_dict := PySem.W.mg_none_of X G z_dict
    n_enumerate := PySem.W.mg_none_of X G z_enumerate
    m_gcd := PySem.W.mg_of X G m_gcd
    n_int := PySem.W.mg_none_of X G z_int
    n_isinstance := PySem.W.mg_none_of X G z_isinstance
    n_len := PySem.W.mg_none_of X G z_len
    n_list := PySem.W.mg_none_of X G z_list
    n_range := PySem.W.mg_none_of X G z_range
    n_repr := PySem.W.mg_none_of X G z_repr
    n_sorted := PySem.W.mg_none_of X G z_sorted
    n_tuple := PySem.W.mg_none_of X G z_tuple
    n_zip := PySem.W.mg_none_of X G z_zip
    g_InvalidSize := PySem.W.mg_of X G g_InvalidSize
    g_Refused := PySem.W.mg_of X G g_Refused
    x_InvalidSize := XOwn.mk' X_InvalidSize xs_InvalidSize xn_InvalidSize xi_InvalidSize xu_InvalidSize ⟨_, _, _, _, _, _, _, _, _, _, _, _, _, _, xf_InvalidSize, xc_InvalidSize⟩ xbind_word (by decide) (by decide)
    x_Refused := XOwn.mk' X_Refused xs_Refused xn_Refused xi_Refused xu_Refused ⟨_, _, _, _, _, _, _, _, _, _, _, _, _, _, xf_Refused, xc_Refused⟩ xbind_word (by decide) (by decide)
    m_ZERO := PySem.W.mg_of X G q_ZERO
    c_ZERO := fun as H => .tup (xs := [.int 0, .int 1]) (.inr ⟨_, _, _, ql_ZERO, rfl, rfl, Nat.le_of_ble_eq_true rfl, (.cons ⟨_, rfl⟩ (.cons ⟨_, rfl⟩ .nil))⟩) (.cons (.int _) (.cons (.int _) .nil)) }
  exact ⟨PySem.W.fnOf "law" "law" (defArgs s_law) (defBody s_law) (defScope s_law) .none kV43 dc43 pm43 an43 cd43 ct43, fun s v => .of_eq rfl, fun base _ _ nd => g_law T nd⟩
end LW
open PySem PySem.W PyProof.Rows
set_option maxRecDepth 100000 in
set_option maxHeartbeats 0 in
theorem PySem.Challenge.cw_leastfield_k47_networks_holds : PySem.Challenge.rw_leastfield_k47_networks.Holds := by
  w_on; o_law; k_head; (case hw => w_witness2)
  k_fill
  refine V2.walkD (l := PySem.Challenge.rw_leastfield_k47_networks) (k := 7) (n := 63) (x := "script") (F := LW.M_law) rfl (by decide) rfl ⟨rfl, by decide, by decide⟩ (fun w h Y => PySem.W.kIn_of Y) ?F (fun ns hl hb => LW.says ns hl hb)
  case F =>
    intro w mg fa h KX G hmg
    refine' LW.all_mk KX G hmg ?a0 ?l0 ?c0 ?k0 ?a1 ?l1 ?c1 ?k1 ?a2 ?l2 ?c2 ?k2 ?a3 ?l3 ?c3 ?k3 ?a4 ?l4 ?c4 ?k4 ?a5 ?l5 ?c5 ?k5 ?a6 ?l6 ?c6 ?k6 ?a7 ?l7 ?c7 ?k7 ?a8 ?l8 ?c8 ?k8 ?a9 ?l9 ?c9 ?k9 ?a10 ?l10 ?c10 ?k10 ?a11 ?l11 ?c11 ?k11 ?a12 ?l12 ?c12 ?k12 ?a13 ?l13 ?c13 ?k13 ?a14 ?l14 ?c14 ?k14 ?a15 ?l15 ?c15 ?k15 ?a16 ?l16 ?c16 ?k16 ?a17 ?l17 ?c17 ?k17 ?a18 ?l18 ?c18 ?k18 ?a19 ?l19 ?c19 ?k19 ?a20 ?l20 ?c20 ?k20 ?a21 ?l21 ?c21 ?k21 ?a22 ?l22 ?c22 ?k22 ?a23 ?l23 ?c23 ?k23 ?a24 ?l24 ?c24 ?k24 ?a25 ?l25 ?c25 ?k25 ?a26 ?l26 ?c26 ?k26 ?a27 ?l27 ?c27 ?k27 ?a28 ?l28 ?c28 ?k28 ?a29 ?l29 ?c29 ?k29 ?a30 ?l30 ?c30 ?k30 ?a31 ?l31 ?c31 ?k31 ?a32 ?l32 ?c32 ?k32 ?a33 ?l33 ?c33 ?k33 ?a34 ?l34 ?c34 ?k34 ?a35 ?l35 ?c35 ?k35 ?a36 ?l36 ?c36 ?k36 ?a37 ?l37 ?c37 ?k37 ?a38 ?l38 ?c38 ?k38 ?a39 ?l39 ?c39 ?k39 ?a40 ?l40 ?c40 ?k40 ?a41 ?l41 ?c41 ?k41 ?a42 ?l42 ?c42 ?k42 ?a43 ?l43 ?c43 ?k43 ?z_abs ?z_all ?z_bool ?z_dict ?z_enumerate ?m_gcd ?z_int ?z_isinstance ?z_len ?z_list ?z_range ?z_repr ?z_sorted ?z_tuple ?z_zip ?g_InvalidSize ?g_Refused ?xl_InvalidSize ?xr_InvalidSize ?xk_InvalidSize ?xe_InvalidSize ?xt_InvalidSize ?xh_InvalidSize ?xs_InvalidSize ?xn_InvalidSize ?xi_InvalidSize ?xu_InvalidSize ?xf_InvalidSize ?xc_InvalidSize ?xl_Refused ?xr_Refused ?xk_Refused ?xe_Refused ?xt_Refused ?xh_Refused ?xs_Refused ?xn_Refused ?xi_Refused ?xu_Refused ?xf_Refused ?xc_Refused ?q_ZERO ?ql_ZERO
    (case a0 => first | k_is | rfl)
    (case l0 => first | k_is | rfl)
    (case c0 => first | k_is | rfl)
    (case k0 => first | k_is | rfl)
    (case a1 => first | k_is | rfl)
    (case l1 => first | k_is | rfl)
    (case c1 => first | k_is | rfl)
    (case k1 => first | k_is | rfl)
    (case a2 => first | k_is | rfl)
    (case l2 => first | k_is | rfl)
    (case c2 => first | k_is | rfl)
    (case k2 => first | k_is | rfl)
    (case a3 => first | k_is | rfl)
    (case l3 => first | k_is | rfl)
    (case c3 => first | k_is | rfl)
    (case k3 => first | k_is | rfl)
    (case a4 => first | k_is | rfl)
    (case l4 => first | k_is | rfl)
    (case c4 => first | k_is | rfl)
    (case k4 => first | k_is | rfl)
    (case a5 => first | k_is | rfl)
    (case l5 => first | k_is | rfl)
    (case c5 => first | k_is | rfl)
    (case k5 => first | k_is | rfl)
    (case a6 => first | k_is | rfl)
    (case l6 => first | k_is | rfl)
    (case c6 => first | k_is | rfl)
    (case k6 => first | k_is | rfl)
    (case a7 => first | k_is | rfl)
    (case l7 => first | k_is | rfl)
    (case c7 => first | k_is | rfl)
    (case k7 => first | k_is | rfl)
    (case a8 => first | k_is | rfl)
    (case l8 => first | k_is | rfl)
    (case c8 => first | k_is | rfl)
    (case k8 => first | k_is | rfl)
    (case a9 => first | k_is | rfl)
    (case l9 => first | k_is | rfl)
    (case c9 => first | k_is | rfl)
    (case k9 => first | k_is | rfl)
    (case a10 => first | k_is | rfl)
    (case l10 => first | k_is | rfl)
    (case c10 => first | k_is | rfl)
    (case k10 => first | k_is | rfl)
    (case a11 => first | k_is | rfl)
    (case l11 => first | k_is | rfl)
    (case c11 => first | k_is | rfl)
    (case k11 => first | k_is | rfl)
    (case a12 => first | k_is | rfl)
    (case l12 => first | k_is | rfl)
    (case c12 => first | k_is | rfl)
    (case k12 => first | k_is | rfl)
    (case a13 => first | k_is | rfl)
    (case l13 => first | k_is | rfl)
    (case c13 => first | k_is | rfl)
    (case k13 => first | k_is | rfl)
    (case a14 => first | k_is | rfl)
    (case l14 => first | k_is | rfl)
    (case c14 => first | k_is | rfl)
    (case k14 => first | k_is | rfl)
    (case a15 => first | k_is | rfl)
    (case l15 => first | k_is | rfl)
    (case c15 => first | k_is | rfl)
    (case k15 => first | k_is | rfl)
    (case a16 => first | k_is | rfl)
    (case l16 => first | k_is | rfl)
    (case c16 => first | k_is | rfl)
    (case k16 => first | k_is | rfl)
    (case a17 => first | k_is | rfl)
    (case l17 => first | k_is | rfl)
    (case c17 => first | k_is | rfl)
    (case k17 => first | k_is | rfl)
    (case a18 => first | k_is | rfl)
    (case l18 => first | k_is | rfl)
    (case c18 => first | k_is | rfl)
    (case k18 => first | k_is | rfl)
    (case a19 => first | k_is | rfl)
    (case l19 => first | k_is | rfl)
    (case c19 => first | k_is | rfl)
    (case k19 => first | k_is | rfl)
    (case a20 => first | k_is | rfl)
    (case l20 => first | k_is | rfl)
    (case c20 => first | k_is | rfl)
    (case k20 => first | k_is | rfl)
    (case a21 => first | k_is | rfl)
    (case l21 => first | k_is | rfl)
    (case c21 => first | k_is | rfl)
    (case k21 => first | k_is | rfl)
    (case a22 => first | k_is | rfl)
    (case l22 => first | k_is | rfl)
    (case c22 => first | k_is | rfl)
    (case k22 => first | k_is | rfl)
    (case a23 => first | k_is | rfl)
    (case l23 => first | k_is | rfl)
    (case c23 => first | k_is | rfl)
    (case k23 => first | k_is | rfl)
    (case a24 => first | k_is | rfl)
    (case l24 => first | k_is | rfl)
    (case c24 => first | k_is | rfl)
    (case k24 => first | k_is | rfl)
    (case a25 => first | k_is | rfl)
    (case l25 => first | k_is | rfl)
    (case c25 => first | k_is | rfl)
    (case k25 => first | k_is | rfl)
    (case a26 => first | k_is | rfl)
    (case l26 => first | k_is | rfl)
    (case c26 => first | k_is | rfl)
    (case k26 => first | k_is | rfl)
    (case a27 => first | k_is | rfl)
    (case l27 => first | k_is | rfl)
    (case c27 => first | k_is | rfl)
    (case k27 => first | k_is | rfl)
    (case a28 => first | k_is | rfl)
    (case l28 => first | k_is | rfl)
    (case c28 => first | k_is | rfl)
    (case k28 => first | k_is | rfl)
    (case a29 => first | k_is | rfl)
    (case l29 => first | k_is | rfl)
    (case c29 => first | k_is | rfl)
    (case k29 => first | k_is | rfl)
    (case a30 => first | k_is | rfl)
    (case l30 => first | k_is | rfl)
    (case c30 => first | k_is | rfl)
    (case k30 => first | k_is | rfl)
    (case a31 => first | k_is | rfl)
    (case l31 => first | k_is | rfl)
    (case c31 => first | k_is | rfl)
    (case k31 => first | k_is | rfl)
    (case a32 => first | k_is | rfl)
    (case l32 => first | k_is | rfl)
    (case c32 => first | k_is | rfl)
    (case k32 => first | k_is | rfl)
    (case a33 => first | k_is | rfl)
    (case l33 => first | k_is | rfl)
    (case c33 => first | k_is | rfl)
    (case k33 => first | k_is | rfl)
    (case a34 => first | k_is | rfl)
    (case l34 => first | k_is | rfl)
    (case c34 => first | k_is | rfl)
    (case k34 => first | k_is | rfl)
    (case a35 => first | k_is | rfl)
    (case l35 => first | k_is | rfl)
    (case c35 => first | k_is | rfl)
    (case k35 => first | k_is | rfl)
    (case a36 => first | k_is | rfl)
    (case l36 => first | k_is | rfl)
    (case c36 => first | k_is | rfl)
    (case k36 => first | k_is | rfl)
    (case a37 => first | k_is | rfl)
    (case l37 => first | k_is | rfl)
    (case c37 => first | k_is | rfl)
    (case k37 => first | k_is | rfl)
    (case a38 => first | k_is | rfl)
    (case l38 => first | k_is | rfl)
    (case c38 => first | k_is | rfl)
    (case k38 => first | k_is | rfl)
    (case a39 => first | k_is | rfl)
    (case l39 => first | k_is | rfl)
    (case c39 => first | k_is | rfl)
    (case k39 => first | k_is | rfl)
    (case a40 => first | k_is | rfl)
    (case l40 => first | k_is | rfl)
    (case c40 => first | k_is | rfl)
    (case k40 => first | k_is | rfl)
    (case a41 => first | k_is | rfl)
    (case l41 => first | k_is | rfl)
    (case c41 => first | k_is | rfl)
    (case k41 => first | k_is | rfl)
    (case a42 => first | k_is | rfl)
    (case l42 => first | k_is | rfl)
    (case c42 => first | k_is | rfl)
    (case k42 => first | k_is | rfl)
    (case a43 => first | k_is | rfl)
    (case l43 => first | k_is | rfl)
    (case c43 => first | k_is | rfl)
    (case k43 => first | k_is | rfl)
    (case z_abs => first | k_is | rfl)
    (case z_all => first | k_is | rfl)
    (case z_bool => first | k_is | rfl)
    (case z_dict => first | k_is | rfl)
    (case z_enumerate => first | k_is | rfl)
    (case m_gcd => first | k_is | rfl)
    (case z_int => first | k_is | rfl)
    (case z_isinstance => first | k_is | rfl)
    (case z_len => first | k_is | rfl)
    (case z_list => first | k_is | rfl)
    (case z_range => first | k_is | rfl)
    (case z_repr => first | k_is | rfl)
    (case z_sorted => first | k_is | rfl)
    (case z_tuple => first | k_is | rfl)
    (case z_zip => first | k_is | rfl)
    (case g_InvalidSize => first | k_is | rfl)
    (case g_Refused => first | k_is | rfl)
    (case xl_InvalidSize => first | k_is | rfl)
    (case xr_InvalidSize => repeat constructor)
    (case xk_InvalidSize => first | k_is | rfl)
    (case xe_InvalidSize => first | k_is | rfl)
    (case xt_InvalidSize => first | k_is | rfl)
    (case xh_InvalidSize => first | k_is | rfl)
    (case xs_InvalidSize => first | k_is | rfl)
    (case xn_InvalidSize => first | k_is | rfl)
    (case xi_InvalidSize => first | k_is | rfl)
    (case xu_InvalidSize => first | k_is | rfl)
    (case xf_InvalidSize => first | k_is | rfl)
    (case xc_InvalidSize => first | k_is | rfl)
    (case xl_Refused => first | k_is | rfl)
    (case xr_Refused => repeat constructor)
    (case xk_Refused => first | k_is | rfl)
    (case xe_Refused => first | k_is | rfl)
    (case xt_Refused => first | k_is | rfl)
    (case xh_Refused => first | k_is | rfl)
    (case xs_Refused => first | k_is | rfl)
    (case xn_Refused => first | k_is | rfl)
    (case xi_Refused => first | k_is | rfl)
    (case xu_Refused => first | k_is | rfl)
    (case xf_Refused => first | k_is | rfl)
    (case xc_Refused => first | k_is | rfl)
    (case q_ZERO => first | k_is | rfl)
    (case ql_ZERO => first | k_is | rfl)
#print axioms PySem.Challenge.cw_leastfield_k47_networks_holds
