import PyProof.Rows.All
import Wide.All
import OpenK.AllK
import Wide.FinOn
import HandS.ForMost
import HandS.ForExc
import HandS.Wide
import HandS.WideMore
import HandS.Gcd
import HandS.Style
import HandS.CallSlots
import HandS.IsInst
import HandS.Flow
import HandS.ExcField
import HandS.Defaults
import HandS.Small
import HandS.RaiseMore
import HandS.TupAny
import HandS.Zip
import HandS.Rev
import HandS.RevRange
import HandS.NoneIn
import HandS.TryOnly
import HandS.ExcIs
import KE.KExcIs
import HandS.EndBits
import PyProof.ReprBulk
import PyProof.P3Eq
import PySem.Challenge.RW_leastfield_k08_whole_segments_and_crossi
set_option Elab.async false
set_option linter.all false
set_option maxRecDepth 100000
set_option maxHeartbeats 4000000
/-! ## Data without addresses over the hand layer -/
namespace V2
open PySem PySem.Spec PyProof.Rows L2
open PySem.W (Frag)

/-- a value: data (never changed), or a place of the store -/
inductive D where
  | d (p : PyData)
  | loc (n : Nat)
/-- the store: lists that may be changed -/
inductive O where
  | lst (xs : List D)
abbrev Ho := List O
abbrev En := List (Option D)
/-- an exception: its class by name, its one field (if its class has an __init__) -/
structure Ex where
  cls : Str
  fld : Option (Str × D)

/-! ### what they stand for -/
def TupR (K : Frag) (as : List Addr) (H : Hp) (a : Addr) (xs : List V) : Prop :=
  (Rd H a (.tup xs) ∧ a ∉ as) ∨
    ∃ (o : Obj) (its : Array Value) (n : Nat), K.lookup a = some o ∧ o.cls = .type "tuple" ∧ o.data = .seq its n ∧ its.size ≤ sizeLine ∧ Vals xs its.toList
def LstR (K : Frag) (as : List Addr) (H : Hp) (a : Addr) (xs : List V) : Prop :=
  (Rd H a (.lst xs) ∧ a ∉ as) ∨
    ∃ (o : Obj) (its : Array Value) (n : Nat), K.lookup a = some o ∧ o.cls = .type "list" ∧ o.dict = none ∧ o.data = .seq its n ∧ its.size ≤ sizeLine ∧ Vals xs its.toList
theorem TupR.sq {K : Frag} {as : List Addr} {H : Hp} {a : Addr} {xs : List V} (h : TupR K as H a xs) : SqT K H a xs := h.elim (fun z => .inl z.1) .inr
theorem LstR.sq {K : Frag} {as : List Addr} {H : Hp} {a : Addr} {xs : List V} (h : LstR K as H a xs) : SqL K H a xs := h.elim (fun z => .inl z.1) .inr

mutual
inductive Dv (K : Frag) (as : List Addr) (H : Hp) : V → PyData → Prop
  | non : Dv K as H .non .none
  | bl (b : Bool) : Dv K as H (.bl b) (.bool b)
  | int (i : Int) : Dv K as H (.int i) (.int i)
  | str (x : Str) : Dv K as H (.str x) (.str x)
  | lst {a : Addr} {xs : List V} {ds : List PyData} : LstR K as H a xs → DvAll K as H xs ds → Dv K as H (.ref a) (.list ds)
  | tup {a : Addr} {xs : List V} {ds : List PyData} : TupR K as H a xs → DvAll K as H xs ds → Dv K as H (.ref a) (.tuple ds)
inductive DvAll (K : Frag) (as : List Addr) (H : Hp) : List V → List PyData → Prop
  | nil : DvAll K as H [] []
  | cons {v : V} {vs : List V} {d : PyData} {ds : List PyData} : Dv K as H v d → DvAll K as H vs ds → DvAll K as H (v :: vs) (d :: ds)
end

/-- behind: more places; what is no place stands as it stood -/
structure Later (as : List Addr) (H : Hp) (as' : List Addr) (H' : Hp) : Prop where
  more : ∃ l, as' = as ++ l
  keep : ∀ p o, H p = some o → p ∉ as → H' p = some o ∧ p ∉ as'
theorem Later.refl (as : List Addr) (H : Hp) : Later as H as H := ⟨⟨[], by simp⟩, fun p o h n => ⟨h, n⟩⟩
theorem Later.trans {as as1 as2 : List Addr} {H H1 H2 : Hp} (a : Later as H as1 H1) (b : Later as1 H1 as2 H2) : Later as H as2 H2 := by
  refine ⟨?_, fun p o h n => ?_⟩
  · obtain ⟨l, rfl⟩ := a.more
    obtain ⟨m, rfl⟩ := b.more
    exact ⟨l ++ m, by simp⟩
  · obtain ⟨h1, n1⟩ := a.keep p o h n
    exact b.keep p o h1 n1
/-- a new thing that is no place -/
theorem Later.new {as : List Addr} {H : Hp} {p : Addr} (o : HO) (hp : H p = none) : Later as H as (upd H p o) :=
  ⟨⟨[], by simp⟩, fun q u h n => ⟨by rw [upd_ne (ne_of_none h hp)]; exact h, n⟩⟩
/-- a new place -/
theorem Later.place {as : List Addr} {H : Hp} {p : Addr} (o : HO) (hp : H p = none) : Later as H (as ++ [p]) (upd H p o) :=
  ⟨⟨[p], rfl⟩, fun q u h n => ⟨by rw [upd_ne (ne_of_none h hp)]; exact h, by
    have := ne_of_none h hp
    simp [n, this]⟩⟩
/-- a place is written -/
theorem Later.write {as : List Addr} {H : Hp} {p : Addr} (o : HO) (hp : p ∈ as) : Later as H as (upd H p o) :=
  ⟨⟨[], by simp⟩, fun q u h n => ⟨by rw [upd_ne (fun e => n (by rw [e]; exact hp))]; exact h, n⟩⟩
theorem Later.at {as as1 : List Addr} {H H1 : Hp} (l : Later as H as1 H1) {n : Nat} {a : Addr} (h : as[n]? = some a) : as1[n]? = some a := by
  obtain ⟨m, rfl⟩ := l.more
  rw [List.getElem?_append_left (List.getElem?_eq_some_iff.mp h).1]
  exact h

section
variable {K : Frag} {as as1 : List Addr} {H H1 : Hp}
theorem TupR.later (l : Later as H as1 H1) {a : Addr} {xs : List V} (h : TupR K as H a xs) : TupR K as1 H1 a xs := by
  rcases h with ⟨h | ⟨o, h⟩, n⟩ | h
  · obtain ⟨q, m⟩ := l.keep _ _ h n
    exact .inl ⟨.inl q, m⟩
  · obtain ⟨q, m⟩ := l.keep _ _ h n
    exact .inl ⟨.inr ⟨o, q⟩, m⟩
  · exact .inr h
theorem LstR.later (l : Later as H as1 H1) {a : Addr} {xs : List V} (h : LstR K as H a xs) : LstR K as1 H1 a xs := by
  rcases h with ⟨h | ⟨o, h⟩, n⟩ | h
  · obtain ⟨q, m⟩ := l.keep _ _ h n
    exact .inl ⟨.inl q, m⟩
  · obtain ⟨q, m⟩ := l.keep _ _ h n
    exact .inl ⟨.inr ⟨o, q⟩, m⟩
  · exact .inr h
mutual
theorem Dv.later (l : Later as H as1 H1) : ∀ {p : PyData} {v : V}, Dv K as H v p → Dv K as1 H1 v p
  | .none, _, h => by cases h; exact .non
  | .bool b, _, h => by cases h; exact .bl b
  | .int i, _, h => by cases h; exact .int i
  | .str x, _, h => by cases h; exact .str x
  | .list ds, _, h => by
    cases h with
    | lst hs ha => exact .lst (hs.later l) (DvAll.later l ha)
  | .tuple ds, _, h => by
    cases h with
    | tup hs ha => exact .tup (hs.later l) (DvAll.later l ha)
  | .dict _, _, h => by cases h
theorem DvAll.later (l : Later as H as1 H1) : ∀ {ps : List PyData} {vs : List V}, DvAll K as H vs ps → DvAll K as1 H1 vs ps
  | [], _, h => by cases h; exact .nil
  | d :: ds, _, h => by
    cases h with
    | cons h1 h2 => exact .cons (Dv.later l h1) (DvAll.later l h2)
end
mutual
theorem Dv.dp : ∀ {p : PyData} {v : V}, Dv K as H v p → Dp K H v p
  | .none, _, h => by cases h; exact .non
  | .bool b, _, h => by cases h; exact .bl b
  | .int i, _, h => by cases h; exact .int i
  | .str x, _, h => by cases h; exact .str x
  | .list ds, _, h => by
    cases h with
    | lst hs ha => exact .lst hs.sq (DvAll.dp ha)
  | .tuple ds, _, h => by
    cases h with
    | tup hs ha => exact .tup hs.sq (DvAll.dp ha)
  | .dict _, _, h => by cases h
theorem DvAll.dp : ∀ {ps : List PyData} {vs : List V}, DvAll K as H vs ps → DpAll K H vs ps
  | [], _, h => by cases h; exact .nil
  | d :: ds, _, h => by
    cases h with
    | cons h1 h2 => exact .cons (Dv.dp h1) (DvAll.dp h2)
end
theorem DvAll.length : ∀ {vs : List V} {ps : List PyData}, DvAll K as H vs ps → vs.length = ps.length
  | _, _, .nil => rfl
  | _, _, .cons _ h => by rw [List.length_cons, List.length_cons, DvAll.length h]
theorem DvAll.get : ∀ {vs : List V} {ps : List PyData} {i : Nat} {p : PyData}, DvAll K as H vs ps → ps[i]? = some p → ∃ v, vs[i]? = some v ∧ Dv K as H v p
  | _, _, _, _, .nil, e => by simp at e
  | _, _, 0, p, .cons r _, e => by simp at e; subst e; exact ⟨_, rfl, r⟩
  | _, _, i + 1, p, .cons _ t, e => by
    obtain ⟨v, h1, h2⟩ := DvAll.get (i := i) t (by simpa using e)
    exact ⟨v, by simpa using h1, h2⟩
theorem DvAll.append : ∀ {vs ws : List V} {ps qs : List PyData}, DvAll K as H vs ps → DvAll K as H ws qs → DvAll K as H (vs ++ ws) (ps ++ qs)
  | _, _, _, _, .nil, h => h
  | _, _, _, _, .cons r t, h => .cons r (DvAll.append t h)
theorem DvAll.take : ∀ {vs : List V} {ps : List PyData} (n : Nat), DvAll K as H vs ps → DvAll K as H (vs.take n) (ps.take n)
  | _, _, 0, _ => .nil
  | _, _, n + 1, .nil => .nil
  | _, _, n + 1, .cons r t => .cons r (DvAll.take n t)
theorem DvAll.drop : ∀ {vs : List V} {ps : List PyData} (n : Nat), DvAll K as H vs ps → DvAll K as H (vs.drop n) (ps.drop n)
  | _, _, 0, h => h
  | _, _, n + 1, .nil => .nil
  | _, _, n + 1, .cons r t => DvAll.drop n t
theorem DvAll.reverse : ∀ {vs : List V} {ps : List PyData}, DvAll K as H vs ps → DvAll K as H vs.reverse ps.reverse
  | _, _, .nil => .nil
  | _, _, .cons r t => by
    rw [List.reverse_cons, List.reverse_cons]
    exact (DvAll.reverse t).append (.cons r .nil)
theorem DvAll.ints : ∀ (ns : List Int), DvAll K as H (ns.map V.int) (ns.map PyData.int)
  | [] => .nil
  | n :: ns => .cons (.int n) (DvAll.ints ns)
theorem DvAll.ints_inv : ∀ {vs : List V} {ns : List Int}, DvAll K as H vs (ns.map PyData.int) → vs = ns.map V.int
  | _, [], h => by cases h; rfl
  | _, n :: ns, h => by
    cases h with
    | cons h1 h2 =>
      cases h1
      rw [List.map_cons, DvAll.ints_inv h2]

/-- a value -/
inductive Rel (K : Frag) (as : List Addr) (H : Hp) : V → D → Prop
  | d {v : V} {p : PyData} : Dv K as H v p → Rel K as H v (.d p)
  | loc {a : Addr} {n : Nat} : as[n]? = some a → Rel K as H (.ref a) (.loc n)
theorem Rel.later (l : Later as H as1 H1) {v : V} {x : D} (h : Rel K as H v x) : Rel K as1 H1 v x := by
  cases h with
  | d h => exact .d (h.later l)
  | loc h => exact .loc (l.at h)
inductive RelAll (K : Frag) (as : List Addr) (H : Hp) : List V → List D → Prop
  | nil : RelAll K as H [] []
  | cons {v : V} {vs : List V} {d : D} {ds : List D} : Rel K as H v d → RelAll K as H vs ds → RelAll K as H (v :: vs) (d :: ds)
theorem RelAll.later (l : Later as H as1 H1) : ∀ {vs : List V} {xs : List D}, RelAll K as H vs xs → RelAll K as1 H1 vs xs
  | _, _, .nil => .nil
  | _, _, .cons r t => .cons (r.later l) (RelAll.later l t)
theorem RelAll.length : ∀ {vs : List V} {xs : List D}, RelAll K as H vs xs → vs.length = xs.length
  | _, _, .nil => rfl
  | _, _, .cons _ h => by rw [List.length_cons, List.length_cons, RelAll.length h]
theorem RelAll.get : ∀ {vs : List V} {xs : List D} {i : Nat} {x : D}, RelAll K as H vs xs → xs[i]? = some x → ∃ v, vs[i]? = some v ∧ Rel K as H v x
  | _, _, _, _, .nil, e => by simp at e
  | _, _, 0, p, .cons r _, e => by simp at e; subst e; exact ⟨_, rfl, r⟩
  | _, _, i + 1, p, .cons _ t, e => by
    obtain ⟨v, h1, h2⟩ := RelAll.get (i := i) t (by simpa using e)
    exact ⟨v, by simpa using h1, h2⟩
theorem RelAll.append : ∀ {vs ws : List V} {ps qs : List D}, RelAll K as H vs ps → RelAll K as H ws qs → RelAll K as H (vs ++ ws) (ps ++ qs)
  | _, _, _, _, .nil, h => h
  | _, _, _, _, .cons r t, h => .cons r (RelAll.append t h)
theorem RelAll.take : ∀ {vs : List V} {ps : List D} (n : Nat), RelAll K as H vs ps → RelAll K as H (vs.take n) (ps.take n)
  | _, _, 0, _ => .nil
  | _, _, n + 1, .nil => .nil
  | _, _, n + 1, .cons r t => .cons r (RelAll.take n t)
theorem RelAll.drop : ∀ {vs : List V} {ps : List D} (n : Nat), RelAll K as H vs ps → RelAll K as H (vs.drop n) (ps.drop n)
  | _, _, 0, h => h
  | _, _, n + 1, .nil => .nil
  | _, _, n + 1, .cons r t => RelAll.drop n t
theorem RelAll.set : ∀ {vs : List V} {xs : List D} (i : Nat) {v : V} {x : D}, Rel K as H v x → RelAll K as H vs xs → RelAll K as H (vs.set i v) (xs.set i x)
  | _, _, _, _, _, _, .nil => .nil
  | _, _, 0, _, _, r, .cons _ t => .cons r t
  | _, _, i + 1, _, _, r, .cons q t => .cons q (RelAll.set i r t)
theorem RelAll.dropLast {vs : List V} {xs : List D} (h : RelAll K as H vs xs) : RelAll K as H vs.dropLast xs.dropLast := by
  rw [List.dropLast_eq_take, List.dropLast_eq_take, h.length]
  exact h.take _
theorem RelAll.reverse : ∀ {vs : List V} {ps : List D}, RelAll K as H vs ps → RelAll K as H vs.reverse ps.reverse
  | _, _, .nil => .nil
  | _, _, .cons r t => by
    rw [List.reverse_cons, List.reverse_cons]
    exact (RelAll.reverse t).append (.cons r .nil)
theorem DvAll.rel : ∀ {vs : List V} {ps : List PyData}, DvAll K as H vs ps → RelAll K as H vs (ps.map D.d)
  | _, _, .nil => .nil
  | _, _, .cons r t => .cons (.d r) (DvAll.rel t)
/-- all are data -/
def allD : List D → Option (List PyData)
  | [] => some []
  | .d p :: xs => (allD xs).map (p :: ·)
  | .loc _ :: _ => none
theorem allD_map : ∀ ps : List PyData, allD (ps.map D.d) = some ps
  | [] => rfl
  | p :: ps => by simp [allD, allD_map ps]
theorem allD_some : ∀ {xs : List D} {ps : List PyData}, allD xs = some ps → xs = ps.map D.d
  | [], ps, h => by simp [allD] at h; subst h; rfl
  | .d p :: xs, ps, h => by
    simp only [allD, Option.map_eq_some_iff] at h
    obtain ⟨q, h1, rfl⟩ := h
    rw [allD_some h1]
    rfl
  | .loc _ :: _, ps, h => by simp [allD] at h
theorem RelAll.data : ∀ {vs : List V} {ps : List PyData}, RelAll K as H vs (ps.map D.d) → DvAll K as H vs ps
  | _, [], h => by cases h; exact .nil
  | _, p :: ps, h => by
    cases h with
    | cons h1 h2 =>
      cases h1 with
      | d h1 => exact .cons h1 (RelAll.data h2)
theorem RelAll.ofAllD {vs : List V} {xs : List D} {ps : List PyData} (h : RelAll K as H vs xs) (e : allD xs = some ps) : DvAll K as H vs ps := by
  rw [allD_some e] at h
  exact h.data

/-- the store -/
def ObR (K : Frag) (as : List Addr) (H : Hp) (a : Addr) : O → Prop
  | .lst xs => ∃ vs, H a = some (.lst vs) ∧ RelAll K as H vs xs
structure HeapR (K : Frag) (as : List Addr) (H : Hp) (h : Ho) : Prop where
  len : as.length = h.length
  nd : as.Nodup
  ob : ∀ (i : Nat) (o : O) (a : Addr), h[i]? = some o → as[i]? = some a → ObR K as H a o
theorem ObR.later (l : Later as H as1 H1) {a : Addr} {o : O} (e : H1 a = H a) (h : ObR K as H a o) : ObR K as1 H1 a o := by
  cases o with
  | lst xs =>
    obtain ⟨vs, h1, h2⟩ := h
    exact ⟨vs, e.trans h1, h2.later l⟩
theorem ObR.there {a : Addr} {o : O} (h : ObR K as H a o) : ∃ u, H a = some u := by
  cases o with
  | lst xs =>
    obtain ⟨vs, h1, _⟩ := h
    exact ⟨_, h1⟩
theorem HeapR.at {h : Ho} (r : HeapR K as H h) {n : Nat} {o : O} (e : h[n]? = some o) : ∃ a, as[n]? = some a ∧ ObR K as H a o := by
  have hn : n < as.length := by
    rw [r.len]
    exact (List.getElem?_eq_some_iff.mp e).1
  exact ⟨as[n], List.getElem?_eq_getElem hn, r.ob n o _ e (List.getElem?_eq_getElem hn)⟩
theorem HeapR.there {h : Ho} (r : HeapR K as H h) {a : Addr} (ha : a ∈ as) : ∃ u, H a = some u := by
  obtain ⟨n, hn, e⟩ := List.mem_iff_getElem.mp ha
  have hn' : n < h.length := by rw [← r.len]; exact hn
  exact (r.ob n _ a (List.getElem?_eq_getElem hn') (by rw [List.getElem?_eq_getElem hn, e])).there
/-- a new thing that is no place -/
theorem HeapR.new {h : Ho} (r : HeapR K as H h) {p : Addr} (o : HO) (hp : H p = none) : HeapR K as (upd H p o) h := by
  refine ⟨r.len, r.nd, fun i u a e1 e2 => ?_⟩
  have q := r.ob i u a e1 e2
  obtain ⟨z, hz⟩ := q.there
  exact q.later (Later.new o hp) (upd_ne (ne_of_none hz hp))
/-- a new place -/
theorem HeapR.place {h : Ho} (r : HeapR K as H h) {p : Addr} {vs : List V} {xs : List D} (hp : H p = none) (hv : RelAll K as H vs xs) :
    HeapR K (as ++ [p]) (upd H p (.lst vs)) (h ++ [.lst xs]) ∧ (as ++ [p])[h.length]? = some p := by
  have l : Later as H (as ++ [p]) (upd H p (.lst vs)) := Later.place _ hp
  have hpas : p ∉ as := fun hm => by
    obtain ⟨u, e⟩ := r.there hm
    rw [hp] at e
    cases e
  have at' : (as ++ [p])[h.length]? = Option.some p := by rw [← r.len]; simp
  refine ⟨⟨by simp [r.len], by
    rw [List.nodup_append]
    exact ⟨r.nd, by simp, fun a ha b hb => by
      rw [List.mem_singleton] at hb
      rw [hb]
      exact fun e => hpas (e ▸ ha)⟩, fun i u a e1 e2 => ?_⟩, at'⟩
  by_cases hi : i < h.length
  · rw [List.getElem?_append_left hi] at e1
    rw [List.getElem?_append_left (by rw [r.len]; exact hi)] at e2
    have q := r.ob i u a e1 e2
    obtain ⟨z, hz⟩ := q.there
    exact q.later l (upd_ne (ne_of_none hz hp))
  · have hi' : i = h.length := by
      have := (List.getElem?_eq_some_iff.mp e1).1
      simp at this
      omega
    subst hi'
    simp at e1
    subst e1
    rw [at'] at e2
    cases e2
    exact ⟨vs, upd_same, hv.later l⟩
/-- a place is written -/
theorem HeapR.write {h : Ho} (r : HeapR K as H h) {n : Nat} {a : Addr} {vs : List V} {xs : List D} (ha : as[n]? = some a) (hv : RelAll K as H vs xs) :
    HeapR K as (upd H a (.lst vs)) (h.set n (.lst xs)) := by
  have hm : a ∈ as := List.mem_of_getElem? ha
  have l : Later as H as (upd H a (.lst vs)) := Later.write _ hm
  refine ⟨by rw [List.length_set]; exact r.len, r.nd, fun i u b e1 e2 => ?_⟩
  by_cases hi : n = i
  · subst hi
    have hn : n < h.length := by rw [← r.len]; exact (List.getElem?_eq_some_iff.mp ha).1
    rw [List.getElem?_set_self hn] at e1
    cases e1
    rw [ha] at e2
    cases e2
    exact ⟨vs, upd_same, hv.later l⟩
  · rw [List.getElem?_set_ne hi] at e1
    have ne : b ≠ a := fun e => hi (by
      subst e
      exact nd_ix r.nd ha e2)
    exact (r.ob i u b e1 e2).later l (upd_ne ne)

/-- the frame -/
def EnvR (K : Frag) (as : List Addr) (H : Hp) (ρ : En) (σ : L2.St) : Prop :=
  ρ.length = σ.length ∧ ∀ (i : Nat) (x : D), ρ[i]? = some (some x) → ∃ v, σ[i]? = some (some v) ∧ Rel K as H v x
theorem EnvR.later (l : Later as H as1 H1) {ρ : En} {σ : L2.St} (h : EnvR K as H ρ σ) : EnvR K as1 H1 ρ σ :=
  ⟨h.1, fun i x e => let ⟨v, h1, h2⟩ := h.2 i x e; ⟨v, h1, h2.later l⟩⟩
theorem EnvR.set {ρ : En} {σ : L2.St} (h : EnvR K as H ρ σ) (i : Nat) {v : V} {x : D} (r : Rel K as H v x) : EnvR K as H (ρ.set i (some x)) (σ.set i (some v)) := by
  refine ⟨by rw [List.length_set, List.length_set]; exact h.1, fun j y e => ?_⟩
  by_cases hj : i = j
  · subst hj
    have hl : i < ρ.length := by
      have := (List.getElem?_eq_some_iff.mp e).1
      simpa using this
    rw [List.getElem?_set_self hl] at e
    cases e
    exact ⟨v, by rw [List.getElem?_set_self (by rw [← h.1]; exact hl)], r⟩
  · rw [List.getElem?_set_ne hj] at e
    obtain ⟨w, h1, h2⟩ := h.2 j y e
    exact ⟨w, by rw [List.getElem?_set_ne hj]; exact h1, h2⟩
end
/-- forget slots -/
def wipeD (ρ : En) : List Nat → En
  | [] => ρ
  | v :: vs => (wipeD ρ vs).set v none
theorem EnvR.wipe {K : Frag} {as : List Addr} {H : Hp} {ρ : En} {σ : L2.St} (h : EnvR K as H ρ σ) : ∀ vs : List Nat, EnvR K as H (wipeD ρ vs) (L2.wipe σ vs)
  | [] => h
  | v :: vs => by
    have ih := EnvR.wipe h vs
    refine ⟨by unfold wipeD L2.wipe; rw [List.length_set, List.length_set]; exact ih.1, fun j y e => ?_⟩
    unfold wipeD at e
    unfold L2.wipe
    by_cases hj : v = j
    · subst hj
      by_cases hl : v < (wipeD ρ vs).length
      · rw [List.getElem?_set_self hl] at e; cases e
      · rw [List.getElem?_eq_none (by simpa using hl)] at e; cases e
    · rw [List.getElem?_set_ne hj] at e
      obtain ⟨w, h1, h2⟩ := ih.2 j y e
      exact ⟨w, by rw [List.getElem?_set_ne hj]; exact h1, h2⟩
theorem wipeD_length (ρ : En) : ∀ vs : List Nat, (wipeD ρ vs).length = ρ.length
  | [] => rfl
  | v :: vs => by unfold wipeD; rw [List.length_set, wipeD_length ρ vs]

/-- an exception's class and its own dict -/
def ExR (K : Frag) (mg : Str → Option Value) (as : List Addr) (H : Hp) (cls : Value) (d : Option Addr) (x : Ex) : Prop :=
  ∃ C, mg x.cls = some (.ref C) ∧ cls = .ref C ∧
    match x.fld with
    | none => True
    | some (f, y) => ∃ dd v, d = some dd ∧ dd ∉ as ∧ H dd = some (.xd [(f, v)]) ∧ Rel K as H v y
theorem ExR.later {K : Frag} {mg : Str → Option Value} {as as1 : List Addr} {H H1 : Hp} (l : Later as H as1 H1) {cls : Value} {d : Option Addr} {x : Ex} (h : ExR K mg as H cls d x) : ExR K mg as1 H1 cls d x := by
  obtain ⟨C, h1, h2, h3⟩ := h
  refine ⟨C, h1, h2, ?_⟩
  cases e : x.fld with
  | none => trivial
  | some q =>
    obtain ⟨f, y⟩ := q
    rw [e] at h3
    obtain ⟨dd, v, e1, e2, e3, e4⟩ := h3
    obtain ⟨k1, k2⟩ := l.keep _ _ e3 e2
    exact ⟨dd, v, e1, k2, k1, e4.later l⟩

/-! ### readings over data -/
abbrev KD := D → Ho → Prop
abbrev XD := Ex → Ho → Prop
abbrev WE := En → Ho → KD → XD → Prop
abbrev WA := En → Ho → (List D → Ho → Prop) → XD → Prop
abbrev WT := En → Ho → (Bool → Ho → Prop) → XD → Prop
structure Nx where
  nx : En → Ho → Prop
  rt : D → Ho → Prop
  bk : En → Ho → Prop
  ct : En → Ho → Prop
  ex : Ex → En → Ho → Prop
abbrev WS := En → Ho → Nx → Prop

/-- what a wish about exceptions is, over data -/
def XTo (X : Cx) (W : WX) (as : List Addr) (H : Hp) (σ : L2.St) (E : XD) : Prop :=
  ∀ x h' cls dd as1 H', E x h' → Later as H as1 H' → HeapR X.K as1 H' h' → ExR X.K X.mg as1 H' cls dd x → W cls dd σ H'
def KTo (X : Cx) (as : List Addr) (H : Hp) (Q : KD) (QV : VK) : Prop :=
  ∀ y h' v as1 H', Q y h' → Later as H as1 H' → HeapR X.K as1 H' h' → Rel X.K as1 H' v y → QV v H'
def ATo (X : Cx) (as : List Addr) (H : Hp) (Q : List D → Ho → Prop) (QV : List V → Hp → Prop) : Prop :=
  ∀ ys h' vs as1 H', Q ys h' → Later as H as1 H' → HeapR X.K as1 H' h' → RelAll X.K as1 H' vs ys → QV vs H'
def TTo (X : Cx) (as : List Addr) (H : Hp) (Q : Bool → Ho → Prop) (QV : Bool → Hp → Prop) : Prop :=
  ∀ b h' as1 H', Q b h' → Later as H as1 H' → HeapR X.K as1 H' h' → QV b H'
structure STo (X : Cx) (W : WX) (as : List Addr) (H : Hp) (D : Nx) (D' : Ends) : Prop where
  nx : ∀ ρ h' σ as1 H', D.nx ρ h' → Later as H as1 H' → HeapR X.K as1 H' h' → EnvR X.K as1 H' ρ σ → D'.nx σ H'
  bk : ∀ ρ h' σ as1 H', D.bk ρ h' → Later as H as1 H' → HeapR X.K as1 H' h' → EnvR X.K as1 H' ρ σ → D'.bk σ H'
  ct : ∀ ρ h' σ as1 H', D.ct ρ h' → Later as H as1 H' → HeapR X.K as1 H' h' → EnvR X.K as1 H' ρ σ → D'.ct σ H'
  rt : ∀ y h' v as1 H', D.rt y h' → Later as H as1 H' → HeapR X.K as1 H' h' → Rel X.K as1 H' v y → D'.rt v H'
  ex : ∀ x ρ h' cls dd σ as1 H', D.ex x ρ h' → Later as H as1 H' → HeapR X.K as1 H' h' → EnvR X.K as1 H' ρ σ → ExR X.K X.mg as1 H' cls dd x → W cls dd σ H'
theorem XTo.later {X : Cx} {W : WX} {as as1 : List Addr} {H H1 : Hp} {σ : L2.St} {E : XD} (h : XTo X W as H σ E) (l : Later as H as1 H1) : XTo X W as1 H1 σ E :=
  fun x h' cls dd as2 H2 e l2 r xr => h x h' cls dd as2 H2 e (l.trans l2) r xr
theorem KTo.later {X : Cx} {as as1 : List Addr} {H H1 : Hp} {Q : KD} {QV : VK} (h : KTo X as H Q QV) (l : Later as H as1 H1) : KTo X as1 H1 Q QV :=
  fun y h' v as2 H2 e l2 r xr => h y h' v as2 H2 e (l.trans l2) r xr
theorem ATo.later {X : Cx} {as as1 : List Addr} {H H1 : Hp} {Q : List D → Ho → Prop} {QV : List V → Hp → Prop} (h : ATo X as H Q QV) (l : Later as H as1 H1) : ATo X as1 H1 Q QV :=
  fun y h' v as2 H2 e l2 r xr => h y h' v as2 H2 e (l.trans l2) r xr
theorem TTo.later {X : Cx} {as as1 : List Addr} {H H1 : Hp} {Q : Bool → Ho → Prop} {QV : Bool → Hp → Prop} (h : TTo X as H Q QV) (l : Later as H as1 H1) : TTo X as1 H1 Q QV :=
  fun y h' as2 H2 e l2 r => h y h' as2 H2 e (l.trans l2) r
theorem STo.later {X : Cx} {W : WX} {as as1 : List Addr} {H H1 : Hp} {D : Nx} {D' : Ends} (h : STo X W as H D D') (l : Later as H as1 H1) : STo X W as1 H1 D D' :=
  ⟨fun ρ h' σ as2 H2 e l2 => h.nx ρ h' σ as2 H2 e (l.trans l2), fun ρ h' σ as2 H2 e l2 => h.bk ρ h' σ as2 H2 e (l.trans l2), fun ρ h' σ as2 H2 e l2 => h.ct ρ h' σ as2 H2 e (l.trans l2),
    fun y h' v as2 H2 e l2 => h.rt y h' v as2 H2 e (l.trans l2), fun x ρ h' cls dd σ as2 H2 e l2 => h.ex x ρ h' cls dd σ as2 H2 e (l.trans l2)⟩

/-- soundness: the reading t asks no more than f does -/
def SpE (X : Cx) (W : WX) (t : TE) (f : WE) : Prop := ∀ σ H as ρ h Q E QV, EnvR X.K as H ρ σ → HeapR X.K as H h → f ρ h Q E → KTo X as H Q QV → XTo X W as H σ E → t σ H QV
def SpT (X : Cx) (W : WX) (t : TT) (f : WT) : Prop := ∀ σ H as ρ h Q E QV, EnvR X.K as H ρ σ → HeapR X.K as H h → f ρ h Q E → TTo X as H Q QV → XTo X W as H σ E → t σ H QV
def SpA (X : Cx) (W : WX) (t : TA) (f : WA) : Prop := ∀ σ H as ρ h Q E QV, EnvR X.K as H ρ σ → HeapR X.K as H h → f ρ h Q E → ATo X as H Q QV → XTo X W as H σ E → t σ H QV
def SpS (X : Cx) (W : WX) (t : TS) (f : WS) : Prop := ∀ σ H as ρ h D D', EnvR X.K as H ρ σ → HeapR X.K as H h → f ρ h D → STo X W as H D D' → t D' σ H
def SE (X : Cx) (W : WX) (e : Expr) (f : WE) : Prop := ∃ t, PE X e t ∧ SpE X W t f
def ST (X : Cx) (W : WX) (e : Expr) (f : WT) : Prop := ∃ t, PT X e t ∧ SpT X W t f
def SW (X : Cx) (W : WX) (e : Expr) (f : WT) : Prop := ∃ t, PW X e t ∧ SpT X W t f
def SA (X : Cx) (W : WX) (e : List Expr) (f : WA) : Prop := ∃ t, PA X e t ∧ SpA X W t f
def SS (X : Cx) (W : WX) (s : Stmt) (f : WS) : Prop := ∃ t, PS X s t ∧ SpS X W t f
def SB (X : Cx) (W : WX) (s : List Stmt) (f : WS) : Prop := ∃ t, PSs X s t ∧ SpS X W t f
end V2
set_option Elab.async false
set_option linter.all false
set_option maxRecDepth 100000
set_option maxHeartbeats 4000000
namespace V2
open PySem PySem.Spec PyProof.Rows L2
open PySem.W (Frag)
section
variable {X : Cx} {W : WX} {as : List Addr} {H : Hp} {h : Ho} {Q : KD} {QV : VK}
theorem KTo.q (k : KTo X as H Q QV) (r : HeapR X.K as H h) {v : V} {y : D} (q : Q y h) (rv : Rel X.K as H v y) : QV v H := k _ _ _ _ _ q (Later.refl _ _) r rv
theorem KTo.qd (k : KTo X as H Q QV) (r : HeapR X.K as H h) {v : V} {y : PyData} (q : Q (.d y) h) (rv : Dv X.K as H v y) : QV v H := k.q r q (.d rv)
/-- a new tuple or list, by value -/
theorem KTo.newTup (k : KTo X as H Q QV) (r : HeapR X.K as H h) {vs : List V} {ps : List PyData} (q : Q (.d (.tuple ps)) h) (rv : DvAll X.K as H vs ps) {p : Addr} (hp : H p = none) : QV (.ref p) (upd H p (.tup vs)) := by
  have l : Later as H as (upd H p (.tup vs)) := Later.new _ hp
  refine k _ _ _ _ _ q l (r.new _ hp) (.d (.tup (.inl ⟨.inl upd_same, fun hm => ?_⟩) (rv.later l)))
  obtain ⟨u, e⟩ := r.there hm
  rw [hp] at e
  cases e
theorem KTo.newLst (k : KTo X as H Q QV) (r : HeapR X.K as H h) {vs : List V} {ps : List PyData} (q : Q (.d (.list ps)) h) (rv : DvAll X.K as H vs ps) {p : Addr} (hp : H p = none) : QV (.ref p) (upd H p (.lst vs)) := by
  have l : Later as H as (upd H p (.lst vs)) := Later.new _ hp
  refine k _ _ _ _ _ q l (r.new _ hp) (.d (.lst (.inl ⟨.inl upd_same, fun hm => ?_⟩) (rv.later l)))
  obtain ⟨u, e⟩ := r.there hm
  rw [hp] at e
  cases e
/-- a new list, a place -/
theorem KTo.newLoc (k : KTo X as H Q QV) (r : HeapR X.K as H h) {vs : List V} {xs : List D} (q : Q (.loc h.length) (h ++ [.lst xs])) (rv : RelAll X.K as H vs xs) {p : Addr} (hp : H p = none) : QV (.ref p) (upd H p (.lst vs)) := by
  obtain ⟨r1, e⟩ := r.place hp rv
  exact k _ _ _ _ _ q (Later.place _ hp) r1 (.loc e)
end

/-! ### names and constants -/
def fVar (i : Nat) : WE := fun ρ h Q _ => match ρ[i]? with
  | some (some d) => Q d h
  | _ => False
def fC (p : PyData) : WE := fun _ h Q _ => Q (.d p) h
section
variable {X : Cx} {W : WX} {pos : Pos}
theorem SE.var (i : Nat) {x : Str} (hN : X.N[i]? = some x := by rfl) (hv : Vis X.env.scope x := by first | exact Or.inl rfl | exact Or.inr (Or.inl rfl) | exact Or.inr (Or.inr rfl)) (hd : (x == ("__debug__" : Str)) = false := by decide)
    (hcd : (x == ("__classdict__" : Str)) = false := by decide) : SE X W (.Name x pos) (fVar i) := by
  refine ⟨_, pe_var hN hv hd hcd, fun σ H as ρ h Q E QV eR hR hq k _ => ?_⟩
  unfold fVar at hq
  split at hq
  · rename_i d e
    obtain ⟨v, e2, r⟩ := eR.2 i d e
    exact ⟨v, e2, k.q hR hq r⟩
  · exact hq.elim
theorem SE.int {i : Int} {j} : SE X W (.Constant (.int i) j pos) (fC (.int i)) := ⟨_, pe_int, fun _ _ _ _ _ _ _ _ _ hR hq k _ => k.qd hR hq (.int i)⟩
theorem SE.bl {b : Bool} {j} : SE X W (.Constant (.bool b) j pos) (fC (.bool b)) := ⟨_, pe_bl, fun _ _ _ _ _ _ _ _ _ hR hq k _ => k.qd hR hq (.bl b)⟩
theorem SE.non {j} : SE X W (.Constant .none j pos) (fC .none) := ⟨_, pe_non, fun _ _ _ _ _ _ _ _ _ hR hq k _ => k.qd hR hq .non⟩
theorem SE.str {x : Str} {j} : SE X W (.Constant (.str x) j pos) (fC (.str x)) := ⟨_, pe_str, fun _ _ _ _ _ _ _ _ _ hR hq k _ => k.qd hR hq (.str x)⟩
/-- a constant of the module that is a tuple of the written part -/
theorem SE.glob {x : Str} {v : V} {u : Value} {p : PyData} (hg : Gl X x) (hm : X.mg x = some u) (r : RelV v u) (hv : ∀ as H, Dv X.K as H v p) (hd : (x == ("__debug__" : Str)) = false := by decide) : SE X W (.Name x pos) (fC p) :=
  ⟨_, pe_glob hg hm r hd, fun _ H as _ _ _ _ _ _ hR hq k _ => k.qd hR hq (hv as H)⟩
end

/-! ### arguments -/
def aNil : WA := fun _ h Q _ => Q [] h
def aCons (f : WE) (g : WA) : WA := fun ρ h Q E => f ρ h (fun x h1 => g ρ h1 (fun xs h2 => Q (x :: xs) h2) E) E
section
variable {X : Cx} {W : WX} {e : Expr} {es : List Expr} {f : WE} {g : WA} {pos : Pos}
theorem SA.nil : SA X W [] aNil := ⟨_, pa_nil, fun _ _ _ _ _ _ _ _ _ hR hq k _ => k _ _ _ _ _ hq (Later.refl _ _) hR .nil⟩
theorem SA.cons (he : SE X W e f) (hr : SA X W es g) (hs : starEach (e :: es) X.env = (false, eval e X.env) :: starEach es X.env := by rfl) : SA X W (e :: es) (aCons f g) := by
  obtain ⟨te, pe, se⟩ := he
  obtain ⟨ta, pa, sa⟩ := hr
  refine ⟨_, pa_cons pe pa hs, fun σ H as ρ h Q E QV eR hR hq k kx => ?_⟩
  refine se σ H as ρ h _ E _ eR hR hq (fun x h1 v as1 H1 hq1 l1 r1 rv => ?_) kx
  refine sa σ H1 as1 ρ h1 _ E _ (eR.later l1) r1 hq1 (fun xs h2 vs as2 H2 hq2 l2 r2 rvs => ?_) (kx.later l1)
  exact k _ _ _ _ _ hq2 (l1.trans l2) r2 (.cons (rv.later l2) rvs)
end

/-! ### operators of two -/
abbrev WR2 := D → D → Ho → KD → Prop
def fBin (r : WR2) (fa fb : WE) : WE := fun ρ h Q E => fa ρ h (fun x h1 => fb ρ h1 (fun y h2 => r x y h2 Q) E) E
def Cp2 (X : Cx) (rV : R2) (r : WR2) : Prop := ∀ x y h Q v w as H QV, Rel X.K as H v x → Rel X.K as H w y → HeapR X.K as H h → r x y h Q → KTo X as H Q QV → rV v w H QV
section
variable {X : Cx} {W : WX} {a b : Expr} {fa fb : WE} {pos : Pos}
theorem sp_op {rV : R2} {r : WR2} {ta tb : TE} (c : Cp2 X rV r) (ha : SpE X W ta fa) (hb : SpE X W tb fb) : SpE X W (tOp rV ta tb) (fBin r fa fb) := by
  intro σ H as ρ h Q E QV eR hR hq k kx
  refine ha σ H as ρ h _ E _ eR hR hq (fun x h1 v as1 H1 hq1 l1 r1 rv => ?_) kx
  refine hb σ H1 as1 ρ h1 _ E _ (eR.later l1) r1 hq1 (fun y h2 w as2 H2 hq2 l2 r2 rw' => ?_) (kx.later l1)
  exact c x y h2 Q v w as2 H2 QV (rv.later l2) rw' r2 hq2 (k.later (l1.trans l2))
theorem SE.bin {op : Operator} {rV : R2} {r : WR2} (ho : OpR X (binaryOp op) rV) (c : Cp2 X rV r) (ha : SE X W a fa) (hb : SE X W b fb) : SE X W (.BinOp a op b pos) (fBin r fa fb) := by
  obtain ⟨ta, pa, sa⟩ := ha
  obtain ⟨tb, pb, sb⟩ := hb
  exact ⟨_, pe_op ho pa pb, sp_op c sa sb⟩
theorem SE.cmp {op : CmpOp} {rV : R2} {r : WR2} (ho : OpR X (compareOp op) rV) (c : Cp2 X rV r) (ha : SE X W a fa) (hb : SE X W b fb) (hm : behindInMarks op b = false) : SE X W (.Compare a [op] [b] pos) (fBin r fa fb) := by
  obtain ⟨ta, pa, sa⟩ := ha
  obtain ⟨tb, pb, sb⟩ := hb
  exact ⟨_, pe_cmpR ho pa pb hm, sp_op c sa sb⟩
end
/-- two ints -/
def rInts (C : Int → Int → Prop) (g : Int → Int → PyData) : WR2 := fun x y h Q => match x, y with
  | .d (.int i), .d (.int j) => C i j ∧ Q (.d (g i j)) h
  | _, _ => False
section
variable {X : Cx}
theorem cp_ints {C : Int → Int → Prop} {gV : Int → Int → V} {g : Int → Int → PyData} (hg : ∀ K as H i j, Dv K as H (gV i j) (g i j)) : Cp2 X (rI C gV) (rInts C g) := by
  intro x y h Q v w as H QV rx ry hR hq k
  unfold rInts at hq
  split at hq
  · rename_i i j
    cases rx with | d rx =>
    cases ry with | d ry =>
    cases rx
    cases ry
    exact ⟨i, j, rfl, rfl, hq.1, k.qd hR hq.2 (hg _ _ _ _ _)⟩
  · exact hq.elim
theorem cp_ints0 {gV : Int → Int → V} {g : Int → Int → PyData} (hg : ∀ K as H i j, Dv K as H (gV i j) (g i j)) : Cp2 X (rI0 gV) (rInts (fun _ _ => True) g) := by
  intro x y h Q v w as H QV rx ry hR hq k
  unfold rInts at hq
  split at hq
  · rename_i i j
    cases rx with | d rx =>
    cases ry with | d ry =>
    cases rx
    cases ry
    exact ⟨i, j, rfl, rfl, k.qd hR hq.2 (hg _ _ _ _ _)⟩
  · exact hq.elim
def CDivA (_ j : Int) : Prop := j ≠ 0 ∧ j.natAbs.log2 < 9000
theorem op_fdivA : OpR X (binaryOp .FloorDiv) (rI CDivA fun i j => .int (i.fdiv j)) := opI fun i j _ _ _ _ _ hc q => floordiv_int hc.1 q (.inl (PyProof.noPylong_of_log2 hc.2))
end

/-- the items of a list or tuple -/
def items (h : Ho) : D → Option (List D)
  | .d (.list ps) => some (ps.map D.d)
  | .d (.tuple ps) => some (ps.map D.d)
  | .d _ => none
  | .loc n => match h[n]? with
    | some (.lst xs) => some xs
    | none => none
theorem items_rel {K : Frag} {as : List Addr} {H : Hp} {h : Ho} {v : V} {x : D} {xs : List D} (r : Rel K as H v x) (hR : HeapR K as H h) (e : items h x = some xs) :
    ∃ a vs, v = .ref a ∧ (SqL K H a vs ∨ SqT K H a vs) ∧ RelAll K as H vs xs := by
  cases r with
  | d r =>
    cases r with
    | lst s al =>
      simp only [items, Option.some.injEq] at e
      subst e
      exact ⟨_, _, rfl, .inl s.sq, al.rel⟩
    | tup s al =>
      simp only [items, Option.some.injEq] at e
      subst e
      exact ⟨_, _, rfl, .inr s.sq, al.rel⟩
    | non => simp [items] at e
    | bl => simp [items] at e
    | int => simp [items] at e
    | str => simp [items] at e
  | loc ha =>
    rename_i a n
    simp only [items] at e
    split at e
    · rename_i ys en
      cases e
      obtain ⟨b, hb, ob⟩ := hR.at en
      rw [ha] at hb
      cases hb
      obtain ⟨vs, e1, e2⟩ := ob
      exact ⟨a, vs, rfl, .inl (SqL.of e1), e2⟩
    · cases e
/-- the items of a list -/
def litems (h : Ho) : D → Option (List D)
  | .d (.list ps) => some (ps.map D.d)
  | .d _ => none
  | .loc n => match h[n]? with
    | some (.lst xs) => some xs
    | none => none
theorem litems_rel {K : Frag} {as : List Addr} {H : Hp} {h : Ho} {v : V} {x : D} {xs : List D} (r : Rel K as H v x) (hR : HeapR K as H h) (e : litems h x = some xs) :
    ∃ a vs, v = .ref a ∧ SqL K H a vs ∧ RelAll K as H vs xs := by
  cases r with
  | d r =>
    cases r with
    | lst s al =>
      simp only [litems, Option.some.injEq] at e
      subst e
      exact ⟨_, _, rfl, s.sq, al.rel⟩
    | tup s al => simp [litems] at e
    | non => simp [litems] at e
    | bl => simp [litems] at e
    | int => simp [litems] at e
    | str => simp [litems] at e
  | loc ha =>
    rename_i a n
    simp only [litems] at e
    split at e
    · rename_i ys en
      cases e
      obtain ⟨b, hb, ob⟩ := hR.at en
      rw [ha] at hb
      cases hb
      obtain ⟨vs, e1, e2⟩ := ob
      exact ⟨a, vs, rfl, SqL.of e1, e2⟩
    · cases e
/-- data, or a place that holds data -/
def datum (h : Ho) : D → Option PyData
  | .d p => some p
  | .loc n => match h[n]? with
    | some (.lst xs) => (allD xs).map PyData.list
    | none => none
theorem datum_dp {K : Frag} {as : List Addr} {H : Hp} {h : Ho} {v : V} {x : D} {p : PyData} (r : Rel K as H v x) (hR : HeapR K as H h) (e : datum h x = some p) : Dp K H v p := by
  cases r with
  | d r =>
    simp only [datum, Option.some.injEq] at e
    subst e
    exact r.dp
  | loc ha =>
    simp only [datum] at e
    split at e
    · rename_i ys en
      simp only [Option.map_eq_some_iff] at e
      obtain ⟨ps, e1, rfl⟩ := e
      obtain ⟨b, hb, ob⟩ := hR.at en
      rw [ha] at hb
      cases hb
      obtain ⟨vs, e2, e3⟩ := ob
      exact .lst (SqL.of e2) (DvAll.dp (e3.ofAllD e1))
    · cases e

/-! ### + -/
/-- list + list, also of what is only read -/
def rCatR (K : Frag) : R2 := fun x y H Q => ∃ l b xs zs, x = .ref l ∧ y = .ref b ∧ SqL K H l xs ∧ SqL K H b zs ∧ xs.length + zs.length ≤ sizeLine ∧ ∀ p, H p = none → Q (.ref p) (upd H p (.lst (xs ++ zs)))
theorem op_catR {X : Cx} : OpR X (binaryOp .Add) (rCatR X.K) := by
  intro pins s σ H x y v u Q I rx ry h
  obtain ⟨l, b, xs, zs, rfl, rfl, h1, h2, hz, q⟩ := h
  cases rx; cases ry
  obtain ⟨i1, r1, ⟨⟨c1, d1, t1, s1⟩, n1, g1, k1, m1, e1⟩, z1⟩ := I.list h1
  obtain ⟨i2, r2, ⟨⟨c2, d2, t2, s2⟩, n2, g2, k2, m2, e2⟩, z2⟩ := I.list h2
  simp only at k1 e1 k2 e2
  subst k1; subst e1; subst k2; subst e2
  have hsz : i1.toArray.size + i2.toArray.size ≤ sizeLine := by
    rw [List.size_toArray, List.size_toArray, ← r1.length, ← r2.length]; exact hz
  refine concat_meets ⟨_, g1, rfl⟩ ⟨_, g2, rfl⟩ noFill_list_add seq_list_add F.slot_list_add F.entry_list_add (F.args_list_add_2 _ _)
    (list_addW l b i1.toArray i2.toArray n1 n2 d1 d2 s1 s2 hsz) ⟨g1, g2, ?_⟩
  have ea : i1.toArray ++ i2.toArray = (i1 ++ i2).toArray := by simp
  rw [ea]
  exact ⟨.ref _, _, I.lnew (t' := s.toks) (r1.append r2) (by rw [List.length_append]; exact hz), rfl, q _ I.fresh⟩
def rAdd2 : WR2 := fun x y h Q => match x, y with
  | .d (.int i), .d (.int j) => Q (.d (.int (i + j))) h
  | .d (.str a), .d (.str b) => a.length + b.length ≤ sizeLine ∧ Q (.d (.str (a ++ b))) h
  | .d (.list ps), .d (.list qs) => ps.length + qs.length ≤ sizeLine ∧ Q (.d (.list (ps ++ qs))) h
  | .d (.tuple ps), .d (.tuple qs) => ps.length + qs.length ≤ sizeLine ∧ Q (.d (.tuple (ps ++ qs))) h
  | _, _ => False
def rAddV (K : Frag) : R2 := fun x y H Q => rI0 (fun i j => .int (i + j)) x y H Q ∨ (∃ i j, x = .str i ∧ y = .str j ∧ i.length + j.length ≤ sizeLine ∧ Q (.str (i ++ j)) H) ∨ rCatR K x y H Q ∨ rCatA K x y H Q
section
variable {X : Cx}
theorem op_addV : OpR X (binaryOp .Add) (rAddV X.K) := op_add.or (op_add_str.or (op_catR.or op_catA))
theorem cp_add : Cp2 X (rAddV X.K) rAdd2 := by
  intro x y h Q v w as H QV rx ry hR hq k
  unfold rAdd2 at hq
  split at hq
  · cases rx with | d rx =>
    cases ry with | d ry =>
    cases rx
    cases ry
    exact .inl ⟨_, _, rfl, rfl, k.qd hR hq (.int _)⟩
  · cases rx with | d rx =>
    cases ry with | d ry =>
    cases rx
    cases ry
    exact .inr (.inl ⟨_, _, rfl, rfl, hq.1, k.qd hR hq.2 (.str _)⟩)
  · cases rx with | d rx =>
    cases ry with | d ry =>
    cases rx with | lst sx ax =>
    cases ry with | lst sy ay =>
    refine .inr (.inr (.inl ⟨_, _, _, _, rfl, rfl, sx.sq, sy.sq, by rw [ax.length, ay.length]; exact hq.1, fun p hp => ?_⟩))
    exact k.newLst hR hq.2 (ax.append ay) hp
  · cases rx with | d rx =>
    cases ry with | d ry =>
    cases rx with | tup sx ax =>
    cases ry with | tup sy ay =>
    refine .inr (.inr (.inr ⟨_, _, _, _, rfl, rfl, sx.sq, sy.sq, by rw [ax.length, ay.length]; exact hq.1, fun e => ?_, fun _ e => ?_, fun _ _ p hp => ?_⟩))
    · subst e
      cases ax
      exact k.qd hR hq.2 (.tup sy ay)
    · subst e
      cases ay
      have := hq.2
      rw [List.append_nil] at this
      exact k.qd hR this (.tup sx ax)
    · exact k.newTup hR hq.2 (ax.append ay) hp
  · exact hq.elim
theorem SE.add {W : WX} {a b : Expr} {fa fb : WE} {pos : Pos} (ha : SE X W a fa) (hb : SE X W b fb) : SE X W (.BinOp a .Add b pos) (fBin rAdd2 fa fb) := .bin op_addV cp_add ha hb
abbrev rSub2 : WR2 := rInts (fun _ _ => True) fun i j => .int (i - j)
abbrev rMul2 : WR2 := rInts CMulW fun i j => .int (i * j)
abbrev rDiv2 : WR2 := rInts CDivA fun i j => .int (i.fdiv j)
abbrev rMod2 : WR2 := rInts (fun _ j => 0 < j) fun i j => .int (i % j)
abbrev rPow2 : WR2 := rInts CPow fun i j => .int (i ^ j.toNat)
theorem SE.sub {W : WX} {a b : Expr} {fa fb : WE} {pos : Pos} (ha : SE X W a fa) (hb : SE X W b fb) : SE X W (.BinOp a .Sub b pos) (fBin rSub2 fa fb) := .bin op_sub (cp_ints0 fun _ _ _ _ _ => .int _) ha hb
theorem SE.mul {W : WX} {a b : Expr} {fa fb : WE} {pos : Pos} (ha : SE X W a fa) (hb : SE X W b fb) : SE X W (.BinOp a .Mult b pos) (fBin rMul2 fa fb) := .bin op_mulW (cp_ints fun _ _ _ _ _ => .int _) ha hb
theorem SE.div {W : WX} {a b : Expr} {fa fb : WE} {pos : Pos} (ha : SE X W a fa) (hb : SE X W b fb) : SE X W (.BinOp a .FloorDiv b pos) (fBin rDiv2 fa fb) := .bin op_fdivA (cp_ints fun _ _ _ _ _ => .int _) ha hb
theorem SE.mod {W : WX} {a b : Expr} {fa fb : WE} {pos : Pos} (ha : SE X W a fa) (hb : SE X W b fb) : SE X W (.BinOp a .Mod b pos) (fBin rMod2 fa fb) := .bin op_mod (cp_ints fun _ _ _ _ _ => .int _) ha hb
theorem SE.pow {W : WX} {a b : Expr} {fa fb : WE} {pos : Pos} (ha : SE X W a fa) (hb : SE X W b fb) : SE X W (.BinOp a .Pow b pos) (fBin rPow2 fa fb) := .bin op_pow (cp_ints fun _ _ _ _ _ => .int _) ha hb

/-! ### comparisons -/
abbrev rCmp2 (p : Int → Int → Bool) : WR2 := rInts (fun _ _ => True) fun i j => .bool (p i j)
variable {W : WX} {a b : Expr} {fa fb : WE} {pos : Pos}
theorem SE.lt (ha : SE X W a fa) (hb : SE X W b fb) : SE X W (.Compare a [.Lt] [b] pos) (fBin (rCmp2 fun i j => decide (i < j)) fa fb) := .cmp op_lt (cp_ints0 fun _ _ _ _ _ => .bl _) ha hb (nomark _)
theorem SE.le (ha : SE X W a fa) (hb : SE X W b fb) : SE X W (.Compare a [.LtE] [b] pos) (fBin (rCmp2 fun i j => decide (i ≤ j)) fa fb) := .cmp op_le (cp_ints0 fun _ _ _ _ _ => .bl _) ha hb (nomark _)
theorem SE.gt (ha : SE X W a fa) (hb : SE X W b fb) : SE X W (.Compare a [.Gt] [b] pos) (fBin (rCmp2 fun i j => decide (j < i)) fa fb) := .cmp op_gt (cp_ints0 fun _ _ _ _ _ => .bl _) ha hb (nomark _)
theorem SE.ge (ha : SE X W a fa) (hb : SE X W b fb) : SE X W (.Compare a [.GtE] [b] pos) (fBin (rCmp2 fun i j => decide (j ≤ i)) fa fb) := .cmp op_ge (cp_ints0 fun _ _ _ _ _ => .bl _) ha hb (nomark _)
/-- == : ints at once, other data by the model's own comparison -/
def rEq2 : WR2 := fun x y h Q => match x, y with
  | .d (.int i), .d (.int j) => Q (.d (.bool (decide (i = j)))) h
  | .d (.str i), .d (.str j) => Q (.d (.bool (decide (i = j)))) h
  | _, _ => match datum h x, datum h y with
    | some p, some q => SeqAt.shaped p = true ∧ SeqAt.shaped q = true ∧ Q (.d (.bool (PyData.eqv p q))) h
    | _, _ => False
def rNe2 : WR2 := fun x y h Q => match x, y with
  | .d (.int i), .d (.int j) => Q (.d (.bool (!decide (i = j)))) h
  | .d (.str i), .d (.str j) => Q (.d (.bool (!decide (i = j)))) h
  | _, _ => match datum h x, datum h y with
    | some p, some q => SeqAt.shaped p = true ∧ SeqAt.shaped q = true ∧ Q (.d (.bool (!PyData.eqv p q))) h
    | _, _ => False
theorem int_vdec (i j : Int) : decide (V.int i = V.int j) = decide (i = j) := by
  by_cases e : i = j
  · subst e; simp
  · rw [decide_eq_false e, decide_eq_false fun z => e (V.int.inj z)]
theorem str_vdec (i j : Str) : decide (V.str i = V.str j) = decide (i = j) := by
  by_cases e : i = j
  · subst e; simp
  · rw [decide_eq_false e, decide_eq_false fun z => e (V.str.inj z)]
theorem cp_eq : Cp2 X (fun x y H Q => rEq x y H Q ∨ rEqD X.K x y H Q) rEq2 := by
  intro x y h Q v w as H QV rx ry hR hq k
  unfold rEq2 at hq
  split at hq
  · cases rx with | d rx =>
    cases ry with | d ry =>
    cases rx
    cases ry
    exact .inl ⟨rfl, by rw [int_vdec]; exact k.qd hR hq (.bl _)⟩
  · cases rx with | d rx =>
    cases ry with | d ry =>
    cases rx
    cases ry
    exact .inl ⟨rfl, by rw [str_vdec]; exact k.qd hR hq (.bl _)⟩
  · split at hq
    · rename_i p q e1 e2
      exact .inr ⟨p, q, datum_dp rx hR e1, datum_dp ry hR e2, hq.1, hq.2.1, k.qd hR hq.2.2 (.bl _)⟩
    · exact hq.elim
theorem cp_ne : Cp2 X (fun x y H Q => rNe x y H Q ∨ rNeD X.K x y H Q) rNe2 := by
  intro x y h Q v w as H QV rx ry hR hq k
  unfold rNe2 at hq
  split at hq
  · cases rx with | d rx =>
    cases ry with | d ry =>
    cases rx
    cases ry
    exact .inl ⟨rfl, by rw [int_vdec]; exact k.qd hR hq (.bl _)⟩
  · cases rx with | d rx =>
    cases ry with | d ry =>
    cases rx
    cases ry
    exact .inl ⟨rfl, by rw [str_vdec]; exact k.qd hR hq (.bl _)⟩
  · split at hq
    · rename_i p q e1 e2
      exact .inr ⟨p, q, datum_dp rx hR e1, datum_dp ry hR e2, hq.1, hq.2.1, k.qd hR hq.2.2 (.bl _)⟩
    · exact hq.elim
theorem SE.eq (hu : X.A.units + 64 < cLine) (ha : SE X W a fa) (hb : SE X W b fb) : SE X W (.Compare a [.Eq] [b] pos) (fBin rEq2 fa fb) := .cmp (op_eq.or (op_eqD hu)) cp_eq ha hb (nomark _)
theorem SE.ne (hu : X.A.units + 64 < cLine) (ha : SE X W a fa) (hb : SE X W b fb) : SE X W (.Compare a [.NotEq] [b] pos) (fBin rNe2 fa fb) := .cmp (op_ne.or (op_neD hu)) cp_ne ha hb (nomark _)
/-- is None -/
def isNon : D → Bool
  | .d .none => true
  | _ => false
def rIsN2 : WR2 := fun x y h Q => match y with
  | .d .none => Q (.d (.bool (isNon x))) h
  | _ => False
def rNotN2 : WR2 := fun x y h Q => match y with
  | .d .none => Q (.d (.bool (!isNon x))) h
  | _ => False
theorem isnon_rel {K : Frag} {as : List Addr} {H : Hp} {v : V} {x : D} (r : Rel K as H v x) : decide (v = V.non) = isNon x := by
  cases r with
  | d r => cases r <;> first | rfl | exact decide_eq_false (fun z => by cases z)
  | loc _ => exact decide_eq_false (fun z => by cases z)
theorem cp_isN : Cp2 X (fun x y H Q => y = .non ∧ Q (.bl (decide (x = .non))) H) rIsN2 := by
  intro x y h Q v w as H QV rx ry hR hq k
  unfold rIsN2 at hq
  split at hq
  · cases ry with | d ry =>
    cases ry
    refine ⟨rfl, ?_⟩
    rw [isnon_rel rx]
    exact k.qd hR hq (.bl _)
  · exact hq.elim
theorem cp_notN : Cp2 X (fun x y H Q => y = .non ∧ Q (.bl (!decide (x = .non))) H) rNotN2 := by
  intro x y h Q v w as H QV rx ry hR hq k
  unfold rNotN2 at hq
  split at hq
  · cases ry with | d ry =>
    cases ry
    refine ⟨rfl, ?_⟩
    rw [isnon_rel rx]
    exact k.qd hR hq (.bl _)
  · exact hq.elim
theorem SE.isN (ha : SE X W a fa) (hb : SE X W b fb) : SE X W (.Compare a [.Is] [b] pos) (fBin rIsN2 fa fb) := .cmp op_isN cp_isN ha hb (nomark _)
theorem SE.notN (ha : SE X W a fa) (hb : SE X W b fb) : SE X W (.Compare a [.IsNot] [b] pos) (fBin rNotN2 fa fb) := .cmp op_notN cp_notN ha hb (nomark _)
end

/-! ### one -/
def fUn (g : Int → PyData) (fa : WE) : WE := fun ρ h Q E => fa ρ h (fun x h1 => match x with
  | .d (.int i) => Q (.d (g i)) h1
  | _ => False) E
section
variable {X : Cx} {W : WX} {a b : Expr} {fa fb : WE} {pos : Pos}
theorem SE.neg (ha : SE X W a fa) : SE X W (.UnaryOp .USub a pos) (fUn (fun i => .int (-i)) fa) := by
  obtain ⟨ta, pa, sa⟩ := ha
  refine ⟨_, pe_un un_neg pa, fun σ H as ρ h Q E QV eR hR hq k kx => ?_⟩
  refine sa σ H as ρ h _ E _ eR hR hq (fun x h1 v as1 H1 hq1 l1 r1 rv => ?_) kx
  split at hq1
  · cases rv with | d rv =>
    cases rv
    exact ⟨_, rfl, (k.later l1).qd r1 hq1 (.int _)⟩
  · exact hq1.elim
/-! ### tests -/
/-- a value that is True or False -/
def tVal (fa : WE) : WT := fun ρ h Q E => fa ρ h (fun x h1 => match x with
  | .d (.bool b) => Q b h1
  | _ => False) E
theorem sp_val {t : TE} (sa : SpE X W t fa) : SpT X W (tB t) (tVal fa) := by
  intro σ H as ρ h Q E QV eR hR hq k kx
  refine sa σ H as ρ h _ E _ eR hR hq (fun x h1 v as1 H1 hq1 l1 r1 rv => ?_) kx
  split at hq1
  · cases rv with | d rv =>
    cases rv
    exact ⟨_, rfl, k _ _ _ _ hq1 l1 r1⟩
  · exact hq1.elim
def tAnd2 (f g : WT) : WT := fun ρ h Q E => f ρ h (fun b h1 => if b = true then g ρ h1 Q E else Q false h1) E
def tOr2 (f g : WT) : WT := fun ρ h Q E => f ρ h (fun b h1 => if b = true then Q true h1 else g ρ h1 Q E) E
def tNot2 (f : WT) : WT := fun ρ h Q E => f ρ h (fun b h1 => Q (!b) h1) E
end

section
variable {X : Cx} {W : WX} {a b : Expr} {rest : List Expr} {fa fb : WE} {f g : WT} {pos : Pos}
theorem ST.val (ha : SE X W a fa) (he : ∀ whole, isTrue a X.env whole = (do let v ← whole; standAt a.pos; holding [v] (truthy v)) := by intro _; rfl) : ST X W a (tVal fa) := by
  obtain ⟨ta, pa, sa⟩ := ha
  exact ⟨_, pt_val pa he, sp_val sa⟩
theorem sp_test {t : TE} (sa : SpE X W t fa) : SpT X W (tTest t) (tVal fa) := sp_val sa
/-- a comparison as a test -/
theorem ST.cmp {op : CmpOp} {rV : R2} {r : WR2} (ho : OpR X (compareOp op) rV) (c : Cp2 X rV r) (ha : SE X W a fa) (hb : SE X W b fb) (hm : behindInMarks op b = false) : ST X W (.Compare a [op] [b] pos) (tVal (fBin r fa fb)) := by
  obtain ⟨ta, pa, sa⟩ := ha
  obtain ⟨tb, pb, sb⟩ := hb
  exact ⟨_, pt_cmpR ho pa pb hm, sp_test (sp_op c sa sb)⟩
theorem ST.lt (ha : SE X W a fa) (hb : SE X W b fb) : ST X W (.Compare a [.Lt] [b] pos) (tVal (fBin (rCmp2 fun i j => decide (i < j)) fa fb)) := .cmp op_lt (cp_ints0 fun _ _ _ _ _ => .bl _) ha hb (nomark _)
theorem ST.le (ha : SE X W a fa) (hb : SE X W b fb) : ST X W (.Compare a [.LtE] [b] pos) (tVal (fBin (rCmp2 fun i j => decide (i ≤ j)) fa fb)) := .cmp op_le (cp_ints0 fun _ _ _ _ _ => .bl _) ha hb (nomark _)
theorem ST.gt (ha : SE X W a fa) (hb : SE X W b fb) : ST X W (.Compare a [.Gt] [b] pos) (tVal (fBin (rCmp2 fun i j => decide (j < i)) fa fb)) := .cmp op_gt (cp_ints0 fun _ _ _ _ _ => .bl _) ha hb (nomark _)
theorem ST.ge (ha : SE X W a fa) (hb : SE X W b fb) : ST X W (.Compare a [.GtE] [b] pos) (tVal (fBin (rCmp2 fun i j => decide (j ≤ i)) fa fb)) := .cmp op_ge (cp_ints0 fun _ _ _ _ _ => .bl _) ha hb (nomark _)
theorem ST.eq (hu : X.A.units + 64 < cLine) (ha : SE X W a fa) (hb : SE X W b fb) : ST X W (.Compare a [.Eq] [b] pos) (tVal (fBin rEq2 fa fb)) := .cmp (op_eq.or (op_eqD hu)) cp_eq ha hb (nomark _)
theorem ST.ne (hu : X.A.units + 64 < cLine) (ha : SE X W a fa) (hb : SE X W b fb) : ST X W (.Compare a [.NotEq] [b] pos) (tVal (fBin rNe2 fa fb)) := .cmp (op_ne.or (op_neD hu)) cp_ne ha hb (nomark _)
theorem ST.isN (ha : SE X W a fa) (hb : SE X W b fb) : ST X W (.Compare a [.Is] [b] pos) (tVal (fBin rIsN2 fa fb)) := .cmp op_isN cp_isN ha hb (nomark _)
theorem ST.notN (ha : SE X W a fa) (hb : SE X W b fb) : ST X W (.Compare a [.IsNot] [b] pos) (tVal (fBin rNotN2 fa fb)) := .cmp op_notN cp_notN ha hb (nomark _)
theorem SW.and1 (ha : ST X W a f) : SW X W (.BoolOp .And [a] pos) f := let ⟨_, p, s⟩ := ha; ⟨_, pw_and1 p, s⟩
theorem SW.or1 (ha : ST X W a f) : SW X W (.BoolOp .Or [a] pos) f := let ⟨_, p, s⟩ := ha; ⟨_, pw_or1 p, s⟩
theorem SW.and (ha : ST X W a f) (hb : SW X W (.BoolOp .And (b :: rest) pos) g) : SW X W (.BoolOp .And (a :: b :: rest) pos) (tAnd2 f g) := by
  obtain ⟨_, pa, sa⟩ := ha
  obtain ⟨_, pb, sb⟩ := hb
  refine ⟨_, pw_and pa pb, fun σ H as ρ h Q E QV eR hR hq k kx => ?_⟩
  refine sa σ H as ρ h _ E _ eR hR hq (fun c h1 as1 H1 hq1 l1 r1 => ?_) kx
  cases c with
  | true => exact iteT (sb σ H1 as1 ρ h1 Q E QV (eR.later l1) r1 hq1 (k.later l1) (kx.later l1))
  | false => exact iteF (k _ _ _ _ hq1 l1 r1)
theorem SW.or (ha : ST X W a f) (hb : SW X W (.BoolOp .Or (b :: rest) pos) g) : SW X W (.BoolOp .Or (a :: b :: rest) pos) (tOr2 f g) := by
  obtain ⟨_, pa, sa⟩ := ha
  obtain ⟨_, pb, sb⟩ := hb
  refine ⟨_, pw_or pa pb, fun σ H as ρ h Q E QV eR hR hq k kx => ?_⟩
  refine sa σ H as ρ h _ E _ eR hR hq (fun c h1 as1 H1 hq1 l1 r1 => ?_) kx
  cases c with
  | true => exact iteT (k _ _ _ _ hq1 l1 r1)
  | false => exact iteF (sb σ H1 as1 ρ h1 Q E QV (eR.later l1) r1 hq1 (k.later l1) (kx.later l1))
theorem SW.pt {e : Expr} (hs : SW X W e f) : ST X W e f := let ⟨_, p, s⟩ := hs; ⟨_, p.pt, s⟩
theorem ST.not (ha : ST X W a f) : ST X W (.UnaryOp .Not a pos) (tNot2 f) := by
  obtain ⟨_, pa, sa⟩ := ha
  refine ⟨_, pt_not pa, fun σ H as ρ h Q E QV eR hR hq k kx => ?_⟩
  exact sa σ H as ρ h _ E _ eR hR hq (fun c h1 as1 H1 hq1 l1 r1 => k _ _ _ _ hq1 l1 r1) kx
/-- .. as values: the first ones are True or False -/
def fAnd (fa fb : WE) : WE := fun ρ h Q E => fa ρ h (fun x h1 => match x with
  | .d (.bool true) => fb ρ h1 Q E
  | .d (.bool false) => Q (.d (.bool false)) h1
  | _ => False) E
def fOr (fa fb : WE) : WE := fun ρ h Q E => fa ρ h (fun x h1 => match x with
  | .d (.bool false) => fb ρ h1 Q E
  | .d (.bool true) => Q (.d (.bool true)) h1
  | _ => False) E
def fNot (fa : WE) : WE := fun ρ h Q E => fa ρ h (fun x h1 => match x with
  | .d (.bool b) => Q (.d (.bool (!b))) h1
  | _ => False) E
theorem SE.one {op} (ha : SE X W a fa) : SE X W (.BoolOp op [a] pos) fa := let ⟨_, p, s⟩ := ha; ⟨_, pe_one p, s⟩
theorem SE.and (ha : SE X W a fa) (hb : SE X W (.BoolOp .And (b :: rest) pos) fb) : SE X W (.BoolOp .And (a :: b :: rest) pos) (fAnd fa fb) := by
  obtain ⟨_, pa, sa⟩ := ha
  obtain ⟨_, pb, sb⟩ := hb
  refine ⟨_, pe_and pa pb, fun σ H as ρ h Q E QV eR hR hq k kx => ?_⟩
  refine sa σ H as ρ h _ E _ eR hR hq (fun x h1 v as1 H1 hq1 l1 r1 rv => ?_) kx
  split at hq1
  · cases rv with | d rv =>
    cases rv
    exact ⟨true, rfl, iteT (sb σ H1 as1 ρ h1 Q E QV (eR.later l1) r1 hq1 (k.later l1) (kx.later l1))⟩
  · cases rv with | d rv =>
    cases rv
    exact ⟨false, rfl, iteF ((k.later l1).qd r1 hq1 (.bl _))⟩
  · exact hq1.elim
theorem SE.or (ha : SE X W a fa) (hb : SE X W (.BoolOp .Or (b :: rest) pos) fb) : SE X W (.BoolOp .Or (a :: b :: rest) pos) (fOr fa fb) := by
  obtain ⟨_, pa, sa⟩ := ha
  obtain ⟨_, pb, sb⟩ := hb
  refine ⟨_, pe_or pa pb, fun σ H as ρ h Q E QV eR hR hq k kx => ?_⟩
  refine sa σ H as ρ h _ E _ eR hR hq (fun x h1 v as1 H1 hq1 l1 r1 rv => ?_) kx
  split at hq1
  · cases rv with | d rv =>
    cases rv
    exact ⟨false, rfl, iteF (sb σ H1 as1 ρ h1 Q E QV (eR.later l1) r1 hq1 (k.later l1) (kx.later l1))⟩
  · cases rv with | d rv =>
    cases rv
    exact ⟨true, rfl, iteT ((k.later l1).qd r1 hq1 (.bl _))⟩
  · exact hq1.elim
theorem SE.not (ha : SE X W a fa) : SE X W (.UnaryOp .Not a pos) (fNot fa) := by
  obtain ⟨_, pa, sa⟩ := ha
  refine ⟨_, pe_not pa, fun σ H as ρ h Q E QV eR hR hq k kx => ?_⟩
  refine sa σ H as ρ h _ E _ eR hR hq (fun x h1 v as1 H1 hq1 l1 r1 rv => ?_) kx
  split at hq1
  · cases rv with | d rv =>
    cases rv
    exact ⟨_, rfl, (k.later l1).qd r1 hq1 (.bl _)⟩
  · exact hq1.elim
def fIf (t : WT) (fa fb : WE) : WE := fun ρ h Q E => t ρ h (fun b h1 => if b = true then fa ρ h1 Q E else fb ρ h1 Q E) E
theorem SE.ifExp {c : Expr} {t : WT} (hc : ST X W c t) (ha : SE X W a fa) (hb : SE X W b fb) : SE X W (.IfExp c a b pos) (fIf t fa fb) := by
  obtain ⟨_, pc, sc⟩ := hc
  obtain ⟨_, pa, sa⟩ := ha
  obtain ⟨_, pb, sb⟩ := hb
  refine ⟨_, pe_ifExp pc pa pb, fun σ H as ρ h Q E QV eR hR hq k kx => ?_⟩
  refine sc σ H as ρ h _ E _ eR hR hq (fun c h1 as1 H1 hq1 l1 r1 => ?_) kx
  cases c with
  | true => exact iteT (sa σ H1 as1 ρ h1 Q E QV (eR.later l1) r1 hq1 (k.later l1) (kx.later l1))
  | false => exact iteF (sb σ H1 as1 ρ h1 Q E QV (eR.later l1) r1 hq1 (k.later l1) (kx.later l1))

/-! ### displays -/
variable {es : List Expr} {ga : WA}
/-- a tuple of data -/
def fTup (ga : WA) : WE := fun ρ h Q E => ga ρ h (fun xs h1 => match allD xs with
  | some ps => ps.length ≤ sizeLine ∧ Q (.d (.tuple ps)) h1
  | none => False) E
/-- a list of data that is never changed -/
def fLst (ga : WA) : WE := fun ρ h Q E => ga ρ h (fun xs h1 => match allD xs with
  | some ps => ps.length ≤ sizeLine ∧ Q (.d (.list ps)) h1
  | none => False) E
/-- a list that may be changed -/
def fLoc (ga : WA) : WE := fun ρ h Q E => ga ρ h (fun xs h1 => xs.length ≤ sizeLine ∧ Q (.loc h1.length) (h1 ++ [.lst xs])) E
theorem SE.tup {x1} (ha : SA X W es ga) : SE X W (.Tuple es x1 pos) (fTup ga) := by
  obtain ⟨_, pa, sa⟩ := ha
  refine ⟨_, pe_tup pa, fun σ H as ρ h Q E QV eR hR hq k kx => ?_⟩
  refine sa σ H as ρ h _ E _ eR hR hq (fun xs h1 vs as1 H1 hq1 l1 r1 rv => ?_) kx
  split at hq1
  · rename_i ps e
    have dv := rv.ofAllD e
    exact ⟨by rw [dv.length]; exact hq1.1, fun p hp => (k.later l1).newTup r1 hq1.2 dv hp⟩
  · exact hq1.elim
theorem SE.lst (ha : SA X W es ga) : SE X W (.List es pos) (fLst ga) := by
  obtain ⟨_, pa, sa⟩ := ha
  refine ⟨_, pe_lst pa, fun σ H as ρ h Q E QV eR hR hq k kx => ?_⟩
  refine sa σ H as ρ h _ E _ eR hR hq (fun xs h1 vs as1 H1 hq1 l1 r1 rv => ?_) kx
  split at hq1
  · rename_i ps e
    have dv := rv.ofAllD e
    exact ⟨by rw [dv.length]; exact hq1.1, fun p hp => (k.later l1).newLst r1 hq1.2 dv hp⟩
  · exact hq1.elim
theorem SE.loc (ha : SA X W es ga) : SE X W (.List es pos) (fLoc ga) := by
  obtain ⟨_, pa, sa⟩ := ha
  refine ⟨_, pe_lst pa, fun σ H as ρ h Q E QV eR hR hq k kx => ?_⟩
  refine sa σ H as ρ h _ E _ eR hR hq (fun xs h1 vs as1 H1 hq1 l1 r1 rv => ?_) kx
  exact ⟨by rw [rv.length]; exact hq1.1, fun p hp => (k.later l1).newLoc r1 hq1.2 rv hp⟩

/-! ### subscripts -/
def rIx2 : WR2 := fun x y h Q => match y with
  | .d (.int i) => match items h x with
    | some xs => match atI xs i with
      | some v => Q v h
      | none => False
    | none => False
  | _ => False
theorem RelAll.atI {K : Frag} {as : List Addr} {H : Hp} {vs : List V} {xs : List D} (r : RelAll K as H vs xs) {i : Int} {x : D} (e : L2.atI xs i = some x) : ∃ v, L2.atI vs i = some v ∧ Rel K as H v x := by
  unfold L2.atI at e
  cases q : ixN xs.length i with
  | none => rw [q] at e; cases e
  | some j =>
    rw [q] at e
    obtain ⟨v, e1, e2⟩ := r.get (show xs[j]? = some x from e)
    refine ⟨v, ?_, e2⟩
    unfold L2.atI
    rw [r.length, q]
    exact e1
theorem cp_ix : Cp2 X (fun x y H Q => rIxL X.K x y H Q ∨ rIxT X.K x y H Q) rIx2 := by
  intro x y h Q v w as H QV rx ry hR hq k
  unfold rIx2 at hq
  split at hq
  · rename_i i
    cases ry with | d ry =>
    cases ry
    split at hq
    · rename_i xs e
      split at hq
      · rename_i z ez
        obtain ⟨a, vs, rfl, s, ra⟩ := items_rel rx hR e
        obtain ⟨u, e1, e2⟩ := ra.atI ez
        rcases s with s | s
        · exact .inl ⟨a, vs, i, u, rfl, rfl, s, e1, k.q hR hq e2⟩
        · exact .inr ⟨a, vs, i, u, rfl, rfl, s, e1, k.q hR hq e2⟩
      · exact hq.elim
    · exact hq.elim
  · exact hq.elim
theorem SE.ix (ha : SE X W a fa) (hb : SE X W b fb) (hs : PlainIx b := by exact fun _ _ => rfl) : SE X W (.Subscript a b pos) (fBin rIx2 fa fb) := by
  obtain ⟨ta, pa, sa⟩ := ha
  obtain ⟨tb, pb, sb⟩ := hb
  exact ⟨_, pe_ix (ix_list.or ix_tup) pa pb hs, sp_op cp_ix sa sb⟩

/-! ### slices -/
def SO (X : Cx) (W : WX) (e : Option Expr) (f : En → Ho → (Option Int → Ho → Prop) → XD → Prop) : Prop :=
  ∃ t, PO X e t ∧ ∀ σ H as ρ h Q E (QV : Option Int → Hp → Prop), EnvR X.K as H ρ σ → HeapR X.K as H h → f ρ h Q E →
    (∀ o h' as1 H', Q o h' → Later as H as1 H' → HeapR X.K as1 H' h' → QV o H') → XTo X W as H σ E → t σ H QV
def oNone : En → Ho → (Option Int → Ho → Prop) → XD → Prop := fun _ h Q _ => Q none h
def oSome (f : WE) : En → Ho → (Option Int → Ho → Prop) → XD → Prop := fun ρ h Q E => f ρ h (fun x h1 => match x with
  | .d (.int i) => Q (some i) h1
  | _ => False) E
theorem SO.none : SO X W none oNone := ⟨_, po_none, fun σ H as ρ h Q E QV _ hR hq k _ => k _ _ _ _ hq (Later.refl _ _) hR⟩
theorem SO.some (ha : SE X W a fa) : SO X W (some a) (oSome fa) := by
  obtain ⟨_, pa, sa⟩ := ha
  refine ⟨_, po_some pa, fun σ H as ρ h Q E QV eR hR hq k kx => ?_⟩
  refine sa σ H as ρ h _ E _ eR hR hq (fun x h1 v as1 H1 hq1 l1 r1 rv => ?_) kx
  split at hq1
  · cases rv with | d rv =>
    cases rv
    exact ⟨_, rfl, k _ _ _ _ hq1 l1 r1⟩
  · exact hq1.elim
def cut {α : Type} (xs : List α) (lo hi : Option Int) : List α := (xs.drop (HT.sIx xs.length 0 lo)).take (HT.sIx xs.length xs.length hi - HT.sIx xs.length 0 lo)
theorem DvAll.cut {K : Frag} {as : List Addr} {H : Hp} {vs : List V} {ps : List PyData} (r : DvAll K as H vs ps) (lo hi : Option Int) : DvAll K as H (cutV vs lo hi) (V2.cut ps lo hi) := by
  unfold cutV V2.cut
  rw [r.length]
  exact (r.drop _).take _
def fSl (fa : WE) (lo hi : En → Ho → (Option Int → Ho → Prop) → XD → Prop) : WE := fun ρ h Q E => fa ρ h (fun x h1 => lo ρ h1 (fun l h2 => hi ρ h2 (fun u h3 => match x with
  | .d (.list ps) => Q (.d (.list (cut ps l u))) h3
  | .d (.tuple ps) => Q (.d (.tuple (cut ps l u))) h3
  | _ => False) E) E) E
theorem SE.slice {lo hi : Option Expr} {fl fu} {p2 : Pos} (ha : SE X W a fa) (hl : SO X W lo fl) (hu : SO X W hi fu) : SE X W (.Subscript a (.Slice lo hi Option.none p2) pos) (fSl fa fl fu) := by
  obtain ⟨_, pa, sa⟩ := ha
  obtain ⟨_, pl, sl⟩ := hl
  obtain ⟨_, pu, su⟩ := hu
  refine ⟨_, pe_slice (sl_list.or sl_tupA) pa pl pu, fun σ H as ρ h Q E QV eR hR hq k kx => ?_⟩
  refine sa σ H as ρ h _ E _ eR hR hq (fun x h1 v as1 H1 hq1 l1 r1 rv => ?_) kx
  refine sl σ H1 as1 ρ h1 _ E _ (eR.later l1) r1 hq1 (fun lo h2 as2 H2 hq2 l2 r2 => ?_) (kx.later l1)
  refine su σ H2 as2 ρ h2 _ E _ ((eR.later l1).later l2) r2 hq2 (fun hi h3 as3 H3 hq3 l3 r3 => ?_) ((kx.later l1).later l2)
  have k3 := ((k.later l1).later l2).later l3
  have rv3 := (rv.later l2).later l3
  split at hq3
  · cases rv3 with | d rv3 =>
    cases rv3 with | lst sx ax =>
    exact .inl ⟨_, _, rfl, sx.sq, fun p hp => k3.newLst r3 hq3 (ax.cut _ _) hp⟩
  · cases rv3 with | d rv3 =>
    cases rv3 with | tup sx ax =>
    rename_i ps _ _
    refine .inr ⟨_, _, rfl, sx.sq, fun e => ?_, fun _ p hp => k3.newTup r3 hq3 (ax.cut _ _) hp⟩
    have ee : V2.cut ps lo hi = ps := by
      rw [ax.length] at e
      unfold V2.cut
      rw [e.1, e.2]
      simp
    rw [ee] at hq3
    exact k3.qd r3 hq3 (.tup sx ax)
  · exact hq3.elim
/-- xs[::-1]: a new list; a place, or data -/
def fRevLoc (fa : WE) : WE := fun ρ h Q E => fa ρ h (fun x h1 => match litems h1 x with
  | some xs => Q (.loc h1.length) (h1 ++ [.lst xs.reverse])
  | none => False) E
def fRev (fa : WE) : WE := fun ρ h Q E => fa ρ h (fun x h1 => match x with
  | .d (.list ps) => Q (.d (.list ps.reverse)) h1
  | _ => False) E
theorem SE.revLoc {e : Expr} {k : Nat} {p1 p2 p3 : Pos} (ha : SE X W e fa) : SE X W (.Subscript e (.Slice Option.none Option.none (Option.some (.UnaryOp .USub (.Constant (.int 1) k p1) p2)) p3) pos) (fRevLoc fa) := by
  obtain ⟨_, pa, sa⟩ := ha
  refine ⟨_, pe_revL pa, fun σ H as ρ h Q E QV eR hR hq k kx => ?_⟩
  refine sa σ H as ρ h _ E _ eR hR hq (fun x h1 v as1 H1 hq1 l1 r1 rv => ?_) kx
  split at hq1
  · rename_i xs e
    obtain ⟨a, vs, rfl, s, ra⟩ := litems_rel rv r1 e
    exact ⟨a, vs, rfl, s, fun p hp => (k.later l1).newLoc r1 hq1 ra.reverse hp⟩
  · exact hq1.elim
theorem SE.rev {e : Expr} {k : Nat} {p1 p2 p3 : Pos} (ha : SE X W e fa) : SE X W (.Subscript e (.Slice Option.none Option.none (Option.some (.UnaryOp .USub (.Constant (.int 1) k p1) p2)) p3) pos) (fRev fa) := by
  obtain ⟨_, pa, sa⟩ := ha
  refine ⟨_, pe_revL pa, fun σ H as ρ h Q E QV eR hR hq k kx => ?_⟩
  refine sa σ H as ρ h _ E _ eR hR hq (fun x h1 v as1 H1 hq1 l1 r1 rv => ?_) kx
  split at hq1
  · cases rv with | d rv =>
    cases rv with | lst sx ax =>
    exact ⟨_, _, rfl, sx.sq, fun p hp => (k.later l1).newLst r1 hq1 ax.reverse hp⟩
  · exact hq1.elim
end
end V2
set_option Elab.async false
set_option linter.all false
set_option maxRecDepth 100000
set_option maxHeartbeats 4000000
namespace V2
open PySem PySem.Spec PyProof.Rows L2
open PySem.W (Frag)
mutual
theorem dp_noDict {K : Frag} {H : Hp} : ∀ {p : PyData} {v : V}, Dp K H v p → p.hasDict = false
  | .none, _, _ => by simp [PyData.hasDict]
  | .bool _, _, _ => by simp [PyData.hasDict]
  | .int _, _, _ => by simp [PyData.hasDict]
  | .str _, _, _ => by simp [PyData.hasDict]
  | .list ds, _, h => by
    cases h with
    | lst _ ha => simp only [PyData.hasDict]; exact dpAll_noDict ha
  | .tuple ds, _, h => by
    cases h with
    | tup _ ha => simp only [PyData.hasDict]; exact dpAll_noDict ha
  | .dict _, _, h => by cases h
theorem dpAll_noDict {K : Frag} {H : Hp} : ∀ {ps : List PyData} {vs : List V}, DpAll K H vs ps → PyData.hasDictAll ps = false
  | [], _, _ => by simp [PyData.hasDictAll]
  | d :: ds, _, h => by
    cases h with
    | cons h1 h2 => simp only [PyData.hasDictAll, dp_noDict h1, dpAll_noDict h2, Bool.or_self]
end
section
variable {X : Cx} {W : WX} {a : Expr} {es : List Expr} {ga : WA} {pos p : Pos}
abbrev WR := List D → Ho → KD → Prop
def CpA (X : Cx) (rV : List V → Hp → VK → Prop) (r : WR) : Prop := ∀ xs h Q vs as H QV, RelAll X.K as H vs xs → HeapR X.K as H h → r xs h Q → KTo X as H Q QV → rV vs H QV
def fCall (r : WR) (ga : WA) : WE := fun ρ h Q E => ga ρ h (fun xs h1 => r xs h1 Q) E
theorem sp_call {rV : List V → Hp → VK → Prop} {r : WR} {t : TA} (c : CpA X rV r) (sa : SpA X W t ga) : SpE X W (tCB rV t) (fCall r ga) := by
  intro σ H as ρ h Q E QV eR hR hq k kx
  exact sa σ H as ρ h _ E _ eR hR hq (fun xs h1 vs as1 H1 hq1 l1 r1 rv => c xs h1 Q vs as1 H1 QV rv r1 hq1 (k.later l1)) kx
/-- a built-in function by its name -/
theorem SE.callB {id : String} {x : Str} {rV : List V → Hp → VK → Prop} {r : WR} (hc : CallR X (.builtin id) rV) (c : CpA X rV r) (hg : Gl X x) (hm : X.mg x = none) (hv : bootBuiltins x = some (.builtin id)) (ha : SA X W (a :: es) ga)
    (hn : x ≠ "__name__" := by decide) (hdb : (x == ("__debug__" : Str)) = false := by decide)
    (he : starEach (a :: es) X.env = (false, eval a X.env) :: starEach es X.env := by rfl) (hpl : (backTo pos (starEach es X.env)).any (·.1) = false := by rfl) : SE X W (.Call (.Name x p) (a :: es) [] pos) (fCall r ga) := by
  obtain ⟨_, pa, sa⟩ := ha
  exact ⟨_, pe_callB hc hg hm hv pa hn hdb he hpl, sp_call c sa⟩
theorem SE.callTy {T : String} {x : Str} {rV : List V → Hp → VK → Prop} {r : WR} (hc : CallR X (.type T) rV) (c : CpA X rV r) (hg : Gl X x) (hm : X.mg x = none) (hv : bootBuiltins x = some (.type T)) (ha : SA X W (a :: es) ga)
    (hn : x ≠ "__name__" := by decide) (hdb : (x == ("__debug__" : Str)) = false := by decide)
    (he : starEach (a :: es) X.env = (false, eval a X.env) :: starEach es X.env := by rfl) (hpl : (backTo pos (starEach es X.env)).any (·.1) = false := by rfl) : SE X W (.Call (.Name x p) (a :: es) [] pos) (fCall r ga) := by
  obtain ⟨_, pa, sa⟩ := ha
  exact ⟨_, pe_callTy hc hg hm hv pa hn hdb he hpl, sp_call c sa⟩
/-- a module's name for a built-in function -/
theorem SE.callM {id : String} {x : Str} {rV : List V → Hp → VK → Prop} {r : WR} (hc : CallR X (.builtin id) rV) (c : CpA X rV r) (hg : Gl X x) (hm : X.mg x = some (.builtin id)) (ha : SA X W (a :: es) ga) (hdb : (x == ("__debug__" : Str)) = false := by decide)
    (he : starEach (a :: es) X.env = (false, eval a X.env) :: starEach es X.env := by rfl) (hpl : (backTo pos (starEach es X.env)).any (·.1) = false := by rfl) : SE X W (.Call (.Name x p) (a :: es) [] pos) (fCall r ga) := by
  obtain ⟨_, pa, sa⟩ := ha
  exact ⟨_, pe_callBfun hc hg hm pa hdb he hpl, sp_call c sa⟩

/-! ### the built-in functions -/
def rAbs : WR := fun xs h Q => match xs with
  | [.d (.int i)] => Q (.d (.int (if i < 0 then -i else i))) h
  | _ => False
theorem rel_int {K : Frag} {as : List Addr} {H : Hp} {v : V} {i : Int} (r : Rel K as H v (.d (.int i))) : v = .int i := by
  cases r with | d r => cases r; rfl
theorem rel_bl {K : Frag} {as : List Addr} {H : Hp} {v : V} {i : Bool} (r : Rel K as H v (.d (.bool i))) : v = .bl i := by
  cases r with | d r => cases r; rfl
theorem rel_str {K : Frag} {as : List Addr} {H : Hp} {v : V} {i : Str} (r : Rel K as H v (.d (.str i))) : v = .str i := by
  cases r with | d r => cases r; rfl
theorem rel_non {K : Frag} {as : List Addr} {H : Hp} {v : V} (r : Rel K as H v (.d .none)) : v = .non := by
  cases r with | d r => cases r; rfl
theorem relAll1 {K : Frag} {as : List Addr} {H : Hp} {vs : List V} {x : D} (r : RelAll K as H vs [x]) : ∃ v, vs = [v] ∧ Rel K as H v x := by
  cases r with | cons r t => cases t; exact ⟨_, rfl, r⟩
theorem relAll2 {K : Frag} {as : List Addr} {H : Hp} {vs : List V} {x y : D} (r : RelAll K as H vs [x, y]) : ∃ v w, vs = [v, w] ∧ Rel K as H v x ∧ Rel K as H w y := by
  cases r with | cons r t => cases t with | cons r2 t => cases t; exact ⟨_, _, rfl, r, r2⟩
theorem cp_abs : CpA X (fun xs H Q => ∃ i, xs = [.int i] ∧ Q (.int (if i < 0 then -i else i)) H) rAbs := by
  intro xs h Q vs as H QV rv hR hq k
  unfold rAbs at hq
  split at hq
  · obtain ⟨v, rfl, r⟩ := relAll1 rv
    rw [rel_int r]
    exact ⟨_, rfl, k.qd hR hq (.int _)⟩
  · exact hq.elim
def rInt1 : WR := fun xs h Q => match xs with
  | [.d (.int i)] => Q (.d (.int i)) h
  | [.d (.bool b)] => Q (.d (.int (if b then 1 else 0))) h
  | _ => False
theorem cp_int1 : CpA X (fun xs H Q => (∃ i, xs = [.int i] ∧ Q (.int i) H) ∨ ∃ k, xs = [.bl k] ∧ Q (.int (if k then 1 else 0)) H) rInt1 := by
  intro xs h Q vs as H QV rv hR hq k
  unfold rInt1 at hq
  split at hq
  · obtain ⟨v, rfl, r⟩ := relAll1 rv
    rw [rel_int r]
    exact .inl ⟨_, rfl, k.qd hR hq (.int _)⟩
  · obtain ⟨v, rfl, r⟩ := relAll1 rv
    rw [rel_bl r]
    exact .inr ⟨_, rfl, k.qd hR hq (.int _)⟩
  · exact hq.elim
def rGcd2 : WR := fun xs h Q => match xs with
  | [.d (.int i), .d (.int j)] => Q (.d (.int (Nat.gcd i.natAbs j.natAbs : Nat))) h
  | _ => False
theorem cp_gcd : CpA X rGcd rGcd2 := by
  intro xs h Q vs as H QV rv hR hq k
  unfold rGcd2 at hq
  split at hq
  · obtain ⟨v, w, rfl, r1, r2⟩ := relAll2 rv
    rw [rel_int r1, rel_int r2]
    exact ⟨_, _, rfl, k.qd hR hq (.int _)⟩
  · exact hq.elim
def rLen : WR := fun xs h Q => match xs with
  | [x] => match items h x with
    | some ys => Q (.d (.int ys.length)) h
    | none => False
  | _ => False
theorem cp_len : CpA X (fun xs H Q => ∃ p ys, xs = [.ref p] ∧ (SqL X.K H p ys ∨ SqT X.K H p ys) ∧ Q (.int ys.length) H) rLen := by
  intro xs h Q vs as H QV rv hR hq k
  unfold rLen at hq
  split at hq
  · split at hq
    · rename_i ys e
      obtain ⟨v, rfl, r⟩ := relAll1 rv
      obtain ⟨a, us, rfl, s, ra⟩ := items_rel r hR e
      exact ⟨a, us, rfl, s, by rw [ra.length]; exact k.qd hR hq (.int _)⟩
    · exact hq.elim
  · exact hq.elim
def rMax2 : WR := fun xs h Q => match xs with
  | [.d (.int i), .d (.int j)] => Q (.d (.int (if j > i then j else i))) h
  | _ => False
theorem cp_max2 : CpA X (fun xs H Q => ∃ i j, xs = [.int i, .int j] ∧ Q (.int (if j > i then j else i)) H) rMax2 := by
  intro xs h Q vs as H QV rv hR hq k
  unfold rMax2 at hq
  split at hq
  · obtain ⟨v, w, rfl, r1, r2⟩ := relAll2 rv
    rw [rel_int r1, rel_int r2]
    exact ⟨_, _, rfl, k.qd hR hq (.int _)⟩
  · exact hq.elim
def rMin2 : WR := fun xs h Q => match xs with
  | [.d (.int i), .d (.int j)] => Q (.d (.int (if j < i then j else i))) h
  | _ => False
theorem cp_min2 : CpA X (fun xs H Q => ∃ i j, xs = [.int i, .int j] ∧ Q (.int (if j < i then j else i)) H) rMin2 := by
  intro xs h Q vs as H QV rv hR hq k
  unfold rMin2 at hq
  split at hq
  · obtain ⟨v, w, rfl, r1, r2⟩ := relAll2 rv
    rw [rel_int r1, rel_int r2]
    exact ⟨_, _, rfl, k.qd hR hq (.int _)⟩
  · exact hq.elim
/-- repr of data at any depth -/
def rReprV (K : Frag) : List V → Hp → VK → Prop := fun xs H Q => ∃ v d, xs = [v] ∧ Dp K H v d ∧ d.showable = true ∧ d.depth < 60 ∧ d.shown.length ≤ sizeLine ∧ Q (.str d.shown) H
theorem call_reprD (hg : X.A.guards = some []) (hu : X.A.units + 64 < cLine) : CallR X (.builtin "repr") (rReprV X.K) := by
  intro pins s σ H xs us Q I r h
  obtain ⟨v, d, rfl, hd, hs, hdep, hz, q⟩ := h
  obtain ⟨u, rfl, ru⟩ := vals1 r
  have fin : ∀ tk t, EP X pins σ Q (.str d.shown t) { s with toks := tk } := fun tk t => ⟨.str d.shown, H, I.tok _, ⟨_, rfl⟩, q⟩
  cases hd with
  | non =>
    cases ru
    exact P.repr_of_none (by simp only [PyData.shown] at fin; exact fin _ _)
  | bl b =>
    cases ru
    exact P.repr_of_bool (by simp only [PyData.shown] at fin; cases b <;> exact fin _ _)
  | int i =>
    obtain ⟨t, rfl⟩ := ru
    simp only [PyData.showable, decide_eq_true_eq] at hs
    exact P.repr_of_int hs (by simp only [PyData.shown] at fin; exact fin _ _)
  | str x =>
    obtain ⟨t, rfl⟩ := ru
    simp only [PyData.shown] at hz
    exact P.repr_of_str (by simp only [PyData.shown] at fin; exact fin _ _) hz
  | lst h1 h2 =>
    have hd' : Dp X.K H _ _ := .lst h1 h2
    obtain ⟨as, rd⟩ := Dp.reads I _ _ u hd' ru
    cases ru
    refine repr_of_reads' rd hs (fun e => by rw [dp_noDict hd'] at e; cases e) hg (by omega) (fun _ _ e => e) (fun h' t tk kp => ?_) hz
    exact ⟨.str _, H, I.kept kp, ⟨_, rfl⟩, q⟩
  | tup h1 h2 =>
    have hd' : Dp X.K H _ _ := .tup h1 h2
    obtain ⟨as, rd⟩ := Dp.reads I _ _ u hd' ru
    cases ru
    refine repr_of_reads' rd hs (fun e => by rw [dp_noDict hd'] at e; cases e) hg (by omega) (fun _ _ e => e) (fun h' t tk kp => ?_) hz
    exact ⟨.str _, H, I.kept kp, ⟨_, rfl⟩, q⟩
def rRepr : WR := fun xs h Q => match xs with
  | [x] => match datum h x with
    | some p => p.showable = true ∧ p.depth < 60 ∧ p.shown.length ≤ sizeLine ∧ Q (.d (.str p.shown)) h
    | none => False
  | _ => False
theorem cp_repr : CpA X (rReprV X.K) rRepr := by
  intro xs h Q vs as H QV rv hR hq k
  unfold rRepr at hq
  split at hq
  · split at hq
    · rename_i p e
      obtain ⟨v, rfl, r⟩ := relAll1 rv
      exact ⟨v, p, rfl, datum_dp r hR e, hq.1, hq.2.1, hq.2.2.1, k.qd hR hq.2.2.2 (.str _)⟩
    · exact hq.elim
  · exact hq.elim
/-- sum of ints -/
def intsOf : List D → Option (List Int)
  | [] => some []
  | .d (.int i) :: xs => (intsOf xs).map (i :: ·)
  | _ :: _ => none
theorem intsOf_map : ∀ ns : List Int, intsOf (ns.map fun i => D.d (.int i)) = some ns
  | [] => rfl
  | n :: ns => by simp [intsOf, intsOf_map ns]
theorem intsOf_some : ∀ {xs : List D} {ns : List Int}, intsOf xs = some ns → xs = ns.map fun i => D.d (.int i)
  | [], ns, h => by simp [intsOf] at h; subst h; rfl
  | .d (.int i) :: xs, ns, h => by
    simp only [intsOf, Option.map_eq_some_iff] at h
    obtain ⟨q, h1, rfl⟩ := h
    rw [intsOf_some h1]; rfl
  | .d .none :: _, _, h => by simp [intsOf] at h
  | .d (.bool _) :: _, _, h => by simp [intsOf] at h
  | .d (.str _) :: _, _, h => by simp [intsOf] at h
  | .d (.list _) :: _, _, h => by simp [intsOf] at h
  | .d (.tuple _) :: _, _, h => by simp [intsOf] at h
  | .d (.dict _) :: _, _, h => by simp [intsOf] at h
  | .loc _ :: _, _, h => by simp [intsOf] at h
theorem RelAll.ints {K : Frag} {as : List Addr} {H : Hp} : ∀ {ns : List Int} {vs : List V}, RelAll K as H vs (ns.map fun i => D.d (.int i)) → vs = ns.map V.int
  | [], _, h => by cases h; rfl
  | n :: ns, _, h => by
    cases h with
    | cons h1 h2 => rw [rel_int h1, RelAll.ints h2]; rfl
def rSum : WR := fun xs h Q => match xs with
  | [x] => match litems h x with
    | some ys => match intsOf ys with
      | some ns => Q (.d (.int ns.sum)) h
      | none => False
    | none => False
  | _ => False
theorem cp_sum : CpA X (L2.rSum X.K) rSum := by
  intro xs h Q vs as H QV rv hR hq k
  unfold rSum at hq
  split at hq
  · split at hq
    · split at hq
      · rename_i e _ ns en
        obtain ⟨v, rfl, r⟩ := relAll1 rv
        obtain ⟨a, us, rfl, s, ra⟩ := litems_rel r hR e
        rw [intsOf_some en] at ra
        rw [ra.ints] at s
        exact ⟨a, ns, rfl, s, k.qd hR hq (.int _)⟩
      · exact hq.elim
    · exact hq.elim
  · exact hq.elim
variable {es : List Expr}
theorem SE.abs (hg : Gl X "abs") (hm : X.mg "abs" = none) (ha : SA X W [a] ga) (he : starEach [a] X.env = (false, eval a X.env) :: starEach [] X.env := by rfl) : SE X W (.Call (.Name "abs" p) [a] [] pos) (fCall rAbs ga) := .callB call_abs cp_abs hg hm (by decide +kernel) ha (he := he) (hpl := rfl)
theorem SE.int1 (hg : Gl X "int") (hm : X.mg "int" = none) (ha : SA X W [a] ga) (he : starEach [a] X.env = (false, eval a X.env) :: starEach [] X.env := by rfl) : SE X W (.Call (.Name "int" p) [a] [] pos) (fCall rInt1 ga) := .callTy call_int1 cp_int1 hg hm (by decide +kernel) ha (he := he) (hpl := rfl)
theorem SE.len (hg : Gl X "len") (hm : X.mg "len" = none) (ha : SA X W [a] ga) (he : starEach [a] X.env = (false, eval a X.env) :: starEach [] X.env := by rfl) : SE X W (.Call (.Name "len" p) [a] [] pos) (fCall rLen ga) := .callB call_len_seq cp_len hg hm (by decide +kernel) ha (he := he) (hpl := rfl)
theorem SE.repr (hgu : X.A.guards = some []) (hu : X.A.units + 64 < cLine) (hg : Gl X "repr") (hm : X.mg "repr" = none) (ha : SA X W [a] ga) (he : starEach [a] X.env = (false, eval a X.env) :: starEach [] X.env := by rfl) : SE X W (.Call (.Name "repr" p) [a] [] pos) (fCall rRepr ga) := .callB (call_reprD hgu hu) cp_repr hg hm (by decide +kernel) ha (he := he) (hpl := rfl)
theorem SE.sum (hg : Gl X "sum") (hm : X.mg "sum" = none) (hc : X.calm = true) (ha : SA X W [a] ga) (he : starEach [a] X.env = (false, eval a X.env) :: starEach [] X.env := by rfl) : SE X W (.Call (.Name "sum" p) [a] [] pos) (fCall rSum ga) := .callB (cr_sum hc) cp_sum hg hm (by decide +kernel) ha (he := he) (hpl := rfl)
theorem SE.gcd (hg : Gl X "gcd") (hm : X.mg "gcd" = some (.builtin "math.gcd")) (ha : SA X W (a :: es) ga) (he : starEach (a :: es) X.env = (false, eval a X.env) :: starEach es X.env := by rfl) (hpl : (backTo pos (starEach es X.env)).any (·.1) = false := by rfl) : SE X W (.Call (.Name "gcd" p) (a :: es) [] pos) (fCall rGcd2 ga) := .callM cr_gcd cp_gcd hg hm ha (he := he) (hpl := hpl)

/-! ### methods that change a list of the store -/
variable {o : Expr} {fo : WE} {apos cpos : Pos}
/-- xs.append(e) -/
def fAppend (fo : WE) (ga : WA) : WE := fun ρ h Q E => fo ρ h (fun x h1 => match x with
  | .loc n => match h1[n]? with
    | some (.lst _) => ga ρ h1 (fun ys h2 => match ys, h2[n]? with
      | [y], some (.lst xs) => xs.length < sizeLine ∧ Q (.d .none) (h2.set n (.lst (xs ++ [y])))
      | _, _ => False) E
    | none => False
  | _ => False) E
theorem KTo.write {as : List Addr} {H : Hp} {h : Ho} {Q : KD} {QV : VK} (k : KTo X as H Q QV) (r : HeapR X.K as H h) {n : Nat} {b : Addr} {vs : List V} {xs : List D} {y : D} {v : V} (hb : as[n]? = some b) (q : Q y (h.set n (.lst xs))) (rv : RelAll X.K as H vs xs)
    (ry : Rel X.K as H v y) : QV v (upd H b (.lst vs)) := by
  have l : Later as H as (upd H b (.lst vs)) := Later.write _ (List.mem_of_getElem? hb)
  exact k _ _ _ _ _ q l (r.write hb rv) (ry.later l)
theorem SE.append {e : Expr} (ho : SE X W o fo) (ha : SA X W [e] ga) (hbase : attributeBase o "append" X.env (eval o X.env) = eval o X.env := by rfl)
    (hfew : ((backTo cpos (starEach [e] X.env)).all (fun x => !x.1) && (backToKw cpos (keywordEach [] X.env)).all (fun x => x.1.isSome)
      && decide ([e].length + ([] : List Keyword).length + (if ([] : List Keyword).isEmpty then 0 else 1) < 30)) = true := by rfl)
    (hline : (apos.endLine == cpos.line) = true := by rfl) (hs : starEach [e] X.env = (false, eval e X.env) :: starEach [] X.env := by rfl) : SE X W (.Call (.Attribute o "append" apos) [e] [] cpos) (fAppend fo ga) := by
  obtain ⟨_, po, so⟩ := ho
  obtain ⟨_, pa, sa⟩ := ha
  refine ⟨_, pe_bm PySem.F.plainAttrs_list PySem.F.slot_list_append PySem.F.type_list_append mt_append po pa hbase hfew hline hs rfl, fun σ H as ρ h Q E QV eR hR hq k kx => ?_⟩
  refine so σ H as ρ h _ E _ eR hR hq (fun x h1 v as1 H1 hq1 l1 r1 rv => ?_) kx
  split at hq1
  · rename_i n
    split at hq1
    · rename_i xs0 e0
      cases rv with | loc hn =>
      obtain ⟨b, hb, vs0, o1, o2⟩ := r1.at e0
      rw [hn] at hb
      cases hb
      refine ⟨.inl ⟨rfl, _, SqL.of o1⟩, ?_⟩
      refine sa σ H1 as1 ρ h1 _ E _ (eR.later l1) r1 hq1 (fun ys h2 us as2 H2 hq2 l2 r2 rvs => ?_) (kx.later l1)
      split at hq2
      · rename_i y xs e2
        obtain ⟨u, rfl, ru⟩ := relAll1 rvs
        obtain ⟨b, hb, vs, o3, o4⟩ := r2.at e2
        rw [l2.at hn] at hb
        cases hb
        refine ⟨_, vs, u, rfl, rfl, o3, by rw [o4.length]; exact hq2.1, ?_⟩
        exact ((k.later l1).later l2).write r2 (l2.at hn) hq2.2 (o4.append (.cons ru .nil)) (.d .non)
      · exact hq2.elim
    · exact hq1.elim
  · exact hq1.elim
/-- xs.pop() -/
def fPop (fo : WE) : WE := fun ρ h Q E => fo ρ h (fun x h1 => match x with
  | .loc n => match h1[n]? with
    | some (.lst xs) => match xs[xs.length - 1]? with
      | some y => Q y (h1.set n (.lst xs.dropLast))
      | none => False
    | none => False
  | _ => False) E
theorem SE.pop (ho : SE X W o fo) (hbase : attributeBase o "pop" X.env (eval o X.env) = eval o X.env := by rfl) (hline : (apos.endLine == cpos.line) = true := by rfl) : SE X W (.Call (.Attribute o "pop" apos) [] [] cpos) (fPop fo) := by
  obtain ⟨_, po, so⟩ := ho
  refine ⟨_, pe_bm0 PySem.F.plainAttrs_list PySem.F.slot_list_pop PySem.F.type_list_pop mt_pop po hbase hline, fun σ H as ρ h Q E QV eR hR hq k kx => ?_⟩
  refine so σ H as ρ h _ E _ eR hR hq (fun x h1 v as1 H1 hq1 l1 r1 rv => ?_) kx
  split at hq1
  · split at hq1
    · rename_i n _ xs e0
      split at hq1
      · rename_i _ y ey
        cases rv with | loc hn =>
        obtain ⟨b, hb, vs, o1, o2⟩ := r1.at e0
        rw [hn] at hb
        cases hb
        obtain ⟨u, eu, ru⟩ := o2.get ey
        exact ⟨.inl ⟨rfl, _, SqL.of o1⟩, _, vs, u, rfl, rfl, o1, by rw [o2.length]; exact eu, (k.later l1).write r1 hn hq1 o2.dropLast ru⟩
      · exact hq1.elim
    · exact hq1.elim
  · exact hq1.elim

end
end V2
set_option Elab.async false
set_option linter.all false
set_option maxRecDepth 100000
set_option maxHeartbeats 4000000
namespace V2
open PySem PySem.Spec PyProof.Rows L2
open PySem.W (Frag)

/-! ### what is walked -/
/-- the items, and what must stay so of the store while it is walked -/
abbrev WI := En → Ho → (List D → (Ho → Prop) → Ho → Prop) → XD → Prop
/-- the walk J of the items xs, from the state as1 H1 on, while st holds -/
def Walks (K : Frag) (as1 : List Addr) (H1 : Hp) (xs : List D) (st : Ho → Prop) (J : It) : Prop :=
  ∀ i as2 H2 h2, Later as1 H1 as2 H2 → HeapR K as2 H2 h2 → st h2 → (i < xs.length → J.go i H2) ∧ (xs.length ≤ i → J.stop i H2) ∧
    ∀ v H3, J.yld i H2 v H3 → ∀ x, xs[i]? = some x → Later as2 H2 as2 H3 ∧ HeapR K as2 H3 h2 ∧ Rel K as2 H3 v x
def SI (X : Cx) (W : WX) (tg it : Expr) (f : WI) : Prop :=
  ∃ wi : TI, PI X tg it wi ∧ ∀ σ H as ρ h Q E (R : It → Hp → Prop), EnvR X.K as H ρ σ → HeapR X.K as H h → f ρ h Q E →
    (∀ xs st h1 as1 H1 (J : It), Q xs st h1 → st h1 → Later as H as1 H1 → HeapR X.K as1 H1 h1 → Walks X.K as1 H1 xs st J → R J H1) → XTo X W as H σ E → wi σ H R
section
variable {X : Cx} {W : WX} {tg a : Expr} {fa : WE} {ga : WA} {pos p : Pos}
/-- a list or a tuple, data or a place -/
def stay (x : D) (xs : List D) : Ho → Prop := fun h => match x with
  | .loc n => h[n]? = some (.lst xs)
  | _ => True
theorem stay_items {x : D} {xs : List D} {h : Ho} (e : items h x = some xs) : stay x xs h := by
  unfold stay
  split
  · rename_i n
    simp only [items] at e
    split at e
    · rename_i ys en
      cases e
      exact en
    · cases e
  · trivial
theorem items_stay {x : D} {xs : List D} {h h2 : Ho} (e : items h x = some xs) (s : stay x xs h2) : items h2 x = some xs := by
  cases x with
  | d p => cases p <;> exact e
  | loc n =>
    have s' : h2[n]? = some (.lst xs) := s
    simp only [items, s']
def iSeq (fa : WE) : WI := fun ρ h Q E => fa ρ h (fun x h1 => match items h1 x with
  | some xs => Q xs (stay x xs) h1
  | none => False) E
def tSeqI (K : Frag) (tl : TE) : TI := fun σ H R => tl σ H fun x H1 => ∃ b, x = .ref b ∧ (((∃ xs, SqL K H1 b xs) ∧ R (Itl K b) H1) ∨ ((∃ xs, SqT K H1 b xs) ∧ R (Itt K b) H1))
theorem pi_seqI {l : Expr} {tl : TE} (hl : PE X l tl) : PI X tg l (tSeqI X.K tl) := by
  refine ⟨fun pins s σ H R I hw => ?_⟩
  refine thn (hl.run pins s σ H _ I hw) fun v s1 ⟨x, H1, I1, r1, b, eb, q1⟩ => ?_
  subst eb
  cases r1
  rcases q1 with ⟨⟨xs, hq⟩, q⟩ | ⟨⟨xs, hq⟩, q⟩
  · obtain ⟨its, rv, pl, hz⟩ := I1.list hq
    exact wpAny_pyIter_list pl.isList (pi_one (tk := s1.toks) I1 _ (turn_list b _) ⟨_, Heap.get?_push_size _ rfl, rfl, rfl⟩ q)
  · obtain ⟨its, rv, pl, hz⟩ := I1.tuple hq
    exact wpAny_pyIter_tuple (show s1.heap.IsTuple b its.toArray from pl) (pi_one (tk := s1.toks) I1 _ (turn_tuple b _) ⟨_, Heap.get?_push_size _ rfl, rfl, rfl⟩ q)
/-- the vs of a D that has items, at a later state: the same place -/
theorem walks_list {K : Frag} {as1 : List Addr} {H1 : Hp} {h1 : Ho} {x : D} {xs : List D} {b : Addr} (r : Rel K as1 H1 (.ref b) x) (hR : HeapR K as1 H1 h1) (e : items h1 x = some xs) {vs : List V} (s : SqL K H1 b vs)
    (nt : ∀ ps, x ≠ .d (.tuple ps)) : Walks K as1 H1 xs (stay x xs) (Itl K b) := by
  have key : ∀ as2 H2 h2, Later as1 H1 as2 H2 → HeapR K as2 H2 h2 → stay x xs h2 → ∃ us, SqL K H2 b us ∧ RelAll K as2 H2 us xs := by
    intro as2 H2 h2 l r2 st
    cases r with
    | d r =>
      cases r with
      | lst sx ax =>
        simp only [items, Option.some.injEq] at e
        subst e
        exact ⟨_, (sx.later l).sq, (ax.later l).rel⟩
      | tup sx ax => exact absurd rfl (nt _)
    | @loc _ n hb =>
      have st' : h2[n]? = some (O.lst xs) := st
      obtain ⟨c, hc, us, o1, o2⟩ := r2.at st'
      rw [l.at hb] at hc
      cases hc
      exact ⟨us, SqL.of o1, o2⟩
  intro i as2 H2 h2 l r2 st
  obtain ⟨us, q1, q2⟩ := key as2 H2 h2 l r2 st
  refine ⟨fun hi => ⟨us, us[i]'(by rw [q2.length]; exact hi), q1, List.getElem?_eq_getElem _⟩, fun hi => ⟨us, q1, by rw [q2.length]; exact hi⟩, fun v H3 y z ez => ?_⟩
  obtain ⟨rfl, y⟩ := y
  obtain ⟨u, eu, ru⟩ := q2.get ez
  have := y us q1
  rw [eu] at this
  cases this
  exact ⟨Later.refl _ _, r2, ru⟩
theorem walks_tup {K : Frag} {as1 : List Addr} {H1 : Hp} {b : Addr} {vs : List V} {ps : List PyData} {st : Ho → Prop} (s : TupR K as1 H1 b vs) (al : DvAll K as1 H1 vs ps) : Walks K as1 H1 (ps.map D.d) st (Itt K b) := by
  intro i as2 H2 h2 l r2 _
  have q1 := (s.later l).sq
  have q2 := (al.later l).rel
  refine ⟨fun hi => ⟨vs, vs[i]'(by rw [q2.length]; exact hi), q1, List.getElem?_eq_getElem _⟩, fun hi => ⟨vs, q1, by rw [q2.length]; exact hi⟩, fun v H3 y z ez => ?_⟩
  obtain ⟨rfl, y⟩ := y
  obtain ⟨u, eu, ru⟩ := q2.get ez
  have := y vs q1
  rw [eu] at this
  cases this
  exact ⟨Later.refl _ _, r2, ru⟩
theorem SI.seq (ha : SE X W a fa) : SI X W tg a (iSeq fa) := by
  obtain ⟨_, pa, sa⟩ := ha
  refine ⟨_, pi_seqI pa, fun σ H as ρ h Q E R eR hR hq k kx => ?_⟩
  refine sa σ H as ρ h _ E _ eR hR hq (fun x h1 v as1 H1 hq1 l1 r1 rv => ?_) kx
  split at hq1
  · rename_i xs e
    have st := stay_items e
    obtain ⟨b, vs, rfl, s, ra⟩ := items_rel rv r1 e
    refine ⟨b, rfl, ?_⟩
    by_cases nt : ∀ ps, x ≠ .d (.tuple ps)
    · have hl : ∃ us, SqL X.K H1 b us := by
        cases rv with
        | d r =>
          cases r with
          | lst sx ax => exact ⟨_, sx.sq⟩
          | tup sx ax => exact absurd rfl (nt _)
        | loc hb =>
          simp only [items] at e
          split at e
          · rename_i ys en
            obtain ⟨c, hc, us, o1, o2⟩ := r1.at en
            rw [hb] at hc
            cases hc
            exact ⟨us, SqL.of o1⟩
          · cases e
      obtain ⟨us, hl⟩ := hl
      exact .inl ⟨⟨us, hl⟩, k xs _ h1 as1 H1 _ hq1 st l1 r1 (walks_list rv r1 e hl nt)⟩
    · have nt' : ∃ ps, x = .d (.tuple ps) := Classical.byContradiction fun z => nt fun ps e => z ⟨ps, e⟩
      obtain ⟨ps, rfl⟩ := nt'
      cases rv with | d r =>
      cases r with | tup sx ax =>
      simp only [items, Option.some.injEq] at e
      subst e
      exact .inr ⟨⟨_, sx.sq⟩, k _ _ h1 as1 H1 _ hq1 st l1 r1 (walks_tup sx ax)⟩
  · exact hq1.elim
/-- range(n), range(a, b) -/
def rangeD (lo : Int) (n : Nat) : List D := (List.range n).map fun i => D.d (.int (lo + (i : Nat)))
theorem walks_range {K : Frag} {as1 : List Addr} {H1 : Hp} {lo : Int} {n : Nat} {st : Ho → Prop} : Walks K as1 H1 (rangeD lo n) st (Itr lo n) := by
  intro i as2 H2 h2 l r2 _
  have hlen : (rangeD lo n).length = n := by simp [rangeD]
  refine ⟨fun hi => by rw [hlen] at hi; exact hi, fun hi => by rw [hlen] at hi; exact hi, fun v H3 y z ez => ?_⟩
  obtain ⟨rfl, rfl⟩ := y
  refine ⟨Later.refl _ _, r2, ?_⟩
  unfold rangeD at ez
  rw [List.getElem?_map] at ez
  cases q : (List.range n)[i]? with
  | none => rw [q] at ez; cases ez
  | some j =>
    rw [q] at ez
    cases ez
    have : j = i := by
      obtain ⟨h1, h2⟩ := List.getElem?_eq_some_iff.mp q
      simpa using h2.symm
    subst this
    exact .d (.int _)
def iRange1 (ga : WA) : WI := fun ρ h Q E => ga ρ h (fun ys h1 => match ys with
  | [.d (.int j)] => -(2 ^ 62) ≤ j ∧ j < 2 ^ 62 ∧ Q (rangeD 0 j.toNat) (fun _ => True) h1
  | _ => False) E
def iRange2 (ga : WA) : WI := fun ρ h Q E => ga ρ h (fun ys h1 => match ys with
  | [.d (.int i), .d (.int j)] => (-(2 ^ 62) ≤ i ∧ i < 2 ^ 62 ∧ -(2 ^ 62) ≤ j ∧ j < 2 ^ 62) ∧ Q (rangeD i (j - i).toNat) (fun _ => True) h1
  | _ => False) E
theorem SI.range1 (hg : Gl X "range") (hm : X.mg "range" = none) (ha : SA X W [a] ga) (hs : starEach [a] X.env = [(false, eval a X.env)] := by rfl) : SI X W tg (.Call (.Name "range" p) [a] [] pos) (iRange1 ga) := by
  obtain ⟨_, pa, sa⟩ := ha
  refine ⟨_, pi_range1 hg hm pa hs, fun σ H as ρ h Q E R eR hR hq k kx => ?_⟩
  refine sa σ H as ρ h _ E _ eR hR hq (fun ys h1 vs as1 H1 hq1 l1 r1 rv => ?_) kx
  split at hq1
  · obtain ⟨v, rfl, r⟩ := relAll1 rv
    rw [rel_int r]
    exact ⟨_, rfl, hq1.1, hq1.2.1, k _ _ h1 as1 H1 _ hq1.2.2 trivial l1 r1 walks_range⟩
  · exact hq1.elim
theorem SI.range2 {b : Expr} (hg : Gl X "range") (hm : X.mg "range" = none) (ha : SA X W [a, b] ga) (hs : starEach [a, b] X.env = [(false, eval a X.env), (false, eval b X.env)] := by rfl) (hs2 : starEach [b] X.env = [(false, eval b X.env)] := by rfl) :
    SI X W tg (.Call (.Name "range" p) [a, b] [] pos) (iRange2 ga) := by
  obtain ⟨_, pa, sa⟩ := ha
  refine ⟨_, pi_range2 hg hm pa hs hs2, fun σ H as ρ h Q E R eR hR hq k kx => ?_⟩
  refine sa σ H as ρ h _ E _ eR hR hq (fun ys h1 vs as1 H1 hq1 l1 r1 rv => ?_) kx
  split at hq1
  · obtain ⟨v, w, rfl, r, r'⟩ := relAll2 rv
    rw [rel_int r, rel_int r']
    exact ⟨_, _, rfl, hq1.1, k _ _ h1 as1 H1 _ hq1.2 trivial l1 r1 walks_range⟩
  · exact hq1.elim
end

/-! ### targets: names and tuples of names -/
abbrev WG := D → Ho → En → Option En
def SG (X : Cx) (tg : Expr) (g : WG) (sl : List Nat) : Prop :=
  ∃ t, PG X tg t ∧ ∀ (v : V) x σ H as ρ h ρ' (Q : L2.St → Hp → Prop), EnvR X.K as H ρ σ → HeapR X.K as H h → Rel X.K as H v x → g x h ρ = some ρ' →
    (∀ σ', EnvR X.K as H ρ' σ' → (∀ vs : List Nat, (∀ i ∈ sl, i ∈ vs) → L2.wipe σ' vs = L2.wipe σ vs) → Q σ' H) → t v σ H Q
abbrev WGs := List D → Ho → En → Option En
def SGs (X : Cx) (tg : List Expr) (g : WGs) (sl : List Nat) : Prop :=
  ∃ t, PGs X tg t ∧ ∀ (v : List V) x σ H as ρ h ρ' (Q : L2.St → Hp → Prop), EnvR X.K as H ρ σ → HeapR X.K as H h → RelAll X.K as H v x → g x h ρ = some ρ' →
    (∀ σ', EnvR X.K as H ρ' σ' → (∀ vs : List Nat, (∀ i ∈ sl, i ∈ vs) → L2.wipe σ' vs = L2.wipe σ vs) → Q σ' H) → t v σ H Q
theorem wipe_set {σ : L2.St} {i : Nat} {o : Option V} : ∀ {vs : List Nat}, i ∈ vs → L2.wipe (σ.set i o) vs = L2.wipe σ vs
  | v :: vs, hm => by
    unfold L2.wipe
    by_cases hv : i ∈ vs
    · rw [wipe_set hv]
    · have e : v = i := by
        rcases List.mem_cons.mp hm with e | e
        · exact e.symm
        · exact absurd e hv
      subst e
      have key : ∀ (ws : List Nat), v ∉ ws → L2.wipe (σ.set v o) ws = (L2.wipe σ ws).set v o := by
        intro ws
        induction ws with
        | nil => intro _; rfl
        | cons w ws ih =>
          intro hn
          simp only [List.mem_cons, not_or] at hn
          unfold L2.wipe
          rw [ih hn.2, List.set_comm _ _ (fun e => hn.1 e)]
      rw [key vs hv, List.set_set]
def gNm (i : Nat) : WG := fun x _ ρ => some (ρ.set i (some x))
def gsNil : WGs := fun ps _ ρ => match ps with
  | [] => some ρ
  | _ => none
def gsCons (g : WG) (gs : WGs) : WGs := fun ps h ρ => match ps with
  | p :: ps => (g p h ρ).bind fun ρ' => gs ps h ρ'
  | [] => none
def gTp (n : Nat) (gs : WGs) : WG := fun x h ρ => match items h x with
  | some xs => if xs.length = n then gs xs h ρ else none
  | none => none
theorem pg_or {X : Cx} {e : Expr} {t u : TG} (h1 : PG X e t) (h2 : PG X e u) : PG X e (fun v σ H Q => t v σ H Q ∨ u v σ H Q) :=
  ⟨fun pins s σ H v w Q I r hw => hw.elim (fun a => h1.run pins s σ H v w Q I r a) fun a => h2.run pins s σ H v w Q I r a⟩
section
variable {X : Cx} {pos : Pos}
theorem SG.name (i : Nat) {x : Str} (hN : X.N.Nodup) (hi : X.N[i]? = some x) (hx : Loc X.env.scope x) (hf : X.fn x = true ∨ X.env.scope.names.lookup x = some .local := by first | exact .inl rfl | exact .inr rfl | assumption) : SG X (.Name x pos) (gNm i) [i] := by
  refine ⟨_, pg_name hN hi hx hf, fun v x σ H as ρ h ρ' Q eR hR r e k => ?_⟩
  simp only [gNm, Option.some.injEq] at e
  subst e
  exact k _ (eR.set i r) fun vs hv => wipe_set (hv i (by simp))
theorem SGs.nil : SGs X [] gsNil [] := by
  refine ⟨_, pgs_nil, fun v x σ H as ρ h ρ' Q eR hR r e k => ?_⟩
  unfold gsNil at e
  split at e
  · cases e
    cases r
    exact ⟨rfl, k _ eR fun _ _ => rfl⟩
  · cases e
theorem SGs.cons {e : Expr} {es : List Expr} {g : WG} {gs : WGs} {sl sls : List Nat} (h1 : SG X e g sl) (h2 : SGs X es gs sls)
    (hs : (assignEach (e :: es) X.env).map (·.2) = assign e X.env :: (assignEach es X.env).map (·.2) := by rfl) : SGs X (e :: es) (gsCons g gs) (sl ++ sls) := by
  obtain ⟨_, p1, s1⟩ := h1
  obtain ⟨_, p2, s2⟩ := h2
  refine ⟨_, pgs_cons p1 p2 hs, fun v x σ H as ρ h ρ' Q eR hR r e k => ?_⟩
  unfold gsCons at e
  split at e
  · rename_i p ps
    cases r with
    | cons r rs =>
      rw [Option.bind_eq_some_iff] at e
      obtain ⟨ρ1, e1, e2⟩ := e
      refine ⟨_, _, rfl, s1 _ _ σ H as ρ h ρ1 _ eR hR r e1 fun σ1 eR1 w1 => ?_⟩
      refine s2 _ _ σ1 H as ρ1 h ρ' Q eR1 hR rs e2 fun σ2 eR2 w2 => k _ eR2 fun vs hv => ?_
      rw [w2 vs fun i hi => hv i (List.mem_append_right _ hi), w1 vs fun i hi => hv i (List.mem_append_left _ hi)]
  · cases e
theorem SG.tup {es : List Expr} {k n : Nat} {gs : WGs} {sl : List Nat} (hc : X.calm = true) (h : SGs X es gs sl) (hn : (assignEach es X.env).length = n := by rfl) (hst : (assignEach es X.env).findIdx? (·.1) = none := by rfl) : SG X (.Tuple es k pos) (gTp n gs) sl := by
  obtain ⟨_, p, s⟩ := h
  refine ⟨_, pg_or (pg_tup hc p hn hst) (pg_unl hc p hn hst), fun v x σ H as ρ h ρ' Q eR hR r e k => ?_⟩
  unfold gTp at e
  split at e
  · rename_i xs ei
    split at e
    · rename_i hl
      obtain ⟨a, vs, rfl, sq, ra⟩ := items_rel r hR ei
      rcases sq with sq | sq
      · exact .inr ⟨_, _, rfl, sq, by rw [ra.length]; exact hl, s _ _ σ H as ρ h ρ' Q eR hR ra e k⟩
      · exact .inl ⟨_, _, rfl, sq, by rw [ra.length]; exact hl, s _ _ σ H as ρ h ρ' Q eR hR ra e k⟩
    · cases e
  · cases e

/-! ### statements -/
variable {W : WX} {a e c : Expr} {fa fe : WE} {t : WT} {st : Stmt} {rest body orelse : List Stmt} {f g : WS}
def sNext : WS := fun ρ h D => D.nx ρ h
def sSeq (f g : WS) : WS := fun ρ h D => f ρ h { D with nx := fun ρ1 h1 => g ρ1 h1 D }
theorem SB.nil : SB X W [] sNext := ⟨_, pss_nil, fun σ H as ρ h D D' eR hR hq k => k.nx _ _ _ _ _ hq (Later.refl _ _) hR eR⟩
theorem SB.one (h : SS X W st f) : SB X W [st] f := let ⟨_, p, s⟩ := h; ⟨_, pss_one p, s⟩
theorem SB.cons (h : SS X W st f) (h2 : SB X W rest g) : SB X W (st :: rest) (sSeq f g) := by
  obtain ⟨_, p, s⟩ := h
  obtain ⟨_, p2, s2⟩ := h2
  refine ⟨_, pss_cons p p2, fun σ H as ρ h D D' eR hR hq k => ?_⟩
  refine s σ H as ρ h _ _ eR hR hq ⟨fun ρ1 h1 σ1 as1 H1 q l r eR1 => ?_, fun ρ1 h1 σ1 as1 H1 q l r eR1 => k.bk _ _ _ _ _ q l r eR1, fun ρ1 h1 σ1 as1 H1 q l r eR1 => k.ct _ _ _ _ _ q l r eR1, fun y h1 v as1 H1 q l r rv => k.rt _ _ _ _ _ q l r rv,
    fun x ρ1 h1 cls dd σ1 as1 H1 q l r eR1 xr => k.ex _ _ _ _ _ _ _ _ q l r eR1 xr⟩
  exact s2 σ1 H1 as1 ρ1 h1 D D' eR1 r q (k.later l)
def exOf (D : Nx) (ρ : En) : XD := fun x h => D.ex x ρ h
theorem STo.x {as : List Addr} {H : Hp} {D : Nx} {D' : Ends} (k : STo X W as H D D') {ρ : En} {σ : L2.St} (eR : EnvR X.K as H ρ σ) : XTo X W as H σ (exOf D ρ) :=
  fun x h' cls dd as1 H1 q l r xr => k.ex x ρ h' cls dd σ as1 H1 q l r (eR.later l) xr
/-- target = e -/
def sAsg (fe : WE) (g : WG) : WS := fun ρ h D => fe ρ h (fun x h1 => match g x h1 ρ with
  | some ρ1 => D.nx ρ1 h1
  | none => False) (exOf D ρ)
theorem sp_asg {te : TE} {tg : TG} {g : WG} {sl : List Nat} (se : SpE X W te fe)
    (sg : ∀ (v : V) x σ H as ρ h ρ' (Q : L2.St → Hp → Prop), EnvR X.K as H ρ σ → HeapR X.K as H h → Rel X.K as H v x → g x h ρ = some ρ' → (∀ σ', EnvR X.K as H ρ' σ' → (∀ vs : List Nat, (∀ i ∈ sl, i ∈ vs) → L2.wipe σ' vs = L2.wipe σ vs) → Q σ' H) → tg v σ H Q) :
    SpS X W (tAsg te tg) (sAsg fe g) := by
  intro σ H as ρ h D D' eR hR hq k
  refine se σ H as ρ h _ _ _ eR hR hq (fun x h1 v as1 H1 hq1 l1 r1 rv => ?_) (k.x eR)
  split at hq1
  · rename_i ρ1 e1
    exact sg v x σ H1 as1 ρ h1 ρ1 _ (eR.later l1) r1 rv e1 fun σ' eR' _ => k.nx _ _ _ _ _ hq1 l1 r1 eR'
  · exact hq1.elim
theorem SS.set (i : Nat) {x : Str} {pos' : Pos} (hN : X.N.Nodup) (hi : X.N[i]? = some x) (hx : Loc X.env.scope x) (he : SE X W e fe) (hs : swapsWith e (some (.Name x pos')) pos.line X.env = pure false := by rfl) (hf : X.fn x = true ∨ X.env.scope.names.lookup x = some .local := by first | exact .inl rfl | exact .inr rfl | assumption) :
    SS X W (.Assign [.Name x pos'] e pos) (sAsg fe (gNm i)) := by
  obtain ⟨_, p, s⟩ := he
  refine ⟨_, ps_set hN hi hx p hs hf, sp_asg (sl := [i]) s fun v x σ H as ρ h ρ' Q eR hR r e k => ?_⟩
  simp only [gNm, Option.some.injEq] at e
  subst e
  exact k _ (eR.set i r) fun vs hv => wipe_set (hv i (by simp))
theorem SS.asg {tg : Expr} {g : WG} {sl : List Nat} (he : SE X W e fe) (hg : SG X tg g sl) (hs : swapsWithSole [tg] e pos.line X.env = pure false := by rfl) (hw : swappedStores [tg] e X.env = pure none := by rfl)
    (h1 : (assignEach [tg] X.env).map (·.2) = [assign tg X.env] := by rfl) : SS X W (.Assign [tg] e pos) (sAsg fe g) := by
  obtain ⟨_, p, s⟩ := he
  obtain ⟨_, p2, s2⟩ := hg
  exact ⟨_, ps_asg p p2 hs hw h1, sp_asg s s2⟩
/-- a, b = x, y (local names) -/
def sPar (i j : Nat) (ga : WA) : WS := fun ρ h D => ga ρ h (fun xs h1 => match xs with
  | [x, y] => D.nx ((ρ.set i (some x)).set j (some y)) h1
  | _ => False) (exOf D ρ)
theorem SS.par (i j : Nat) {x y : Str} {b : Expr} {ga : WA} {px py pt : Pos} {kt k2 pt2} (hc : X.calm = true) (hN : X.N.Nodup) (hi : X.N[i]? = some x) (hj : X.N[j]? = some y) (hij : i ≠ j)
    (hx : X.env.scope.names.lookup x = some .local) (hy : X.env.scope.names.lookup y = some .local) (ha : SA X W [a, b] ga)
    (hw : swappedStores [.Tuple [.Name x px, .Name y py] kt pt] (.Tuple [a, b] k2 pt2) X.env = pure (some [x, y]))
    (hs : swapsWithSole [.Tuple [.Name x px, .Name y py] kt pt] (.Tuple [a, b] k2 pt2) pos.line X.env = pure false := by rfl) :
    SS X W (.Assign [.Tuple [.Name x px, .Name y py] kt pt] (.Tuple [a, b] k2 pt2) pos) (sPar i j ga) := by
  obtain ⟨_, p, s⟩ := ha
  refine ⟨_, ps_par hc hN hi hj hij hx hy p hw hs, fun σ H as ρ h D D' eR hR hq k => ?_⟩
  refine s σ H as ρ h _ _ _ eR hR hq (fun xs h1 vs as1 H1 hq1 l1 r1 rv => ?_) (k.x eR)
  split at hq1
  · obtain ⟨v, w, rfl, r, r'⟩ := relAll2 rv
    exact ⟨v, w, rfl, k.nx _ _ _ _ _ hq1 l1 r1 (((eR.later l1).set i r).set j r')⟩
  · exact hq1.elim
def sPar3 (i j l : Nat) (ga : WA) : WS := fun ρ h D => ga ρ h (fun xs h1 => match xs with
  | [x, y, z] => D.nx (((ρ.set i (some x)).set j (some y)).set l (some z)) h1
  | _ => False) (exOf D ρ)
/-- o[i] = e, o a list of the store -/
def sSub (fe fo fi : WE) : WS := fun ρ h D => fe ρ h (fun y h1 => fo ρ h1 (fun x h2 => fi ρ h2 (fun z h3 => match x, z with
  | .loc n, .d (.int k) => match h3[n]? with
    | some (.lst xs) => match ixN xs.length k with
      | some j => D.nx ρ (h3.set n (.lst (xs.set j y)))
      | none => False
    | none => False
  | _, _ => False) (exOf D ρ)) (exOf D ρ)) (exOf D ρ)
theorem STo.kx {as : List Addr} {H : Hp} {D : Nx} {D' : Ends} (k : STo X W as H D D') {ρ : En} {σ : L2.St} (eR : EnvR X.K as H ρ σ) {as1 : List Addr} {H1 : Hp} (l : Later as H as1 H1) : XTo X W as1 H1 σ (exOf D ρ) := (k.later l).x (eR.later l)
theorem SS.sub {o i : Expr} {fo fi : WE} {pos' : Pos} (he : SE X W e fe) (ho : SE X W o fo) (hi : SE X W i fi)
    (ha : ∀ v, assign (.Subscript o i pos') X.env v = (do
      let ov ← holding [v] (eval o X.env)
      let iv ← holding [v, ov] (eval i X.env)
      standAt pos'
      holding [v, ov, iv] (setItem ov iv v)
      release [v, ov, iv] []) := by intro _; rfl) (hs : swapsWithSole [.Subscript o i pos'] e pos.line X.env = pure false := by rfl) (hw : swappedStores [.Subscript o i pos'] e X.env = pure none := by rfl)
    (h1 : (assignEach [.Subscript o i pos'] X.env).map (·.2) = [assign (.Subscript o i pos') X.env] := by rfl) : SS X W (.Assign [.Subscript o i pos'] e pos) (sSub fe fo fi) := by
  obtain ⟨_, pe, se⟩ := he
  obtain ⟨_, po, so⟩ := ho
  obtain ⟨_, pi, si⟩ := hi
  refine ⟨_, ps_asg pe (pg_sub po pi set_list ha) hs hw h1, fun σ H as ρ h D D' eR hR hq k => ?_⟩
  refine se σ H as ρ h _ _ _ eR hR hq (fun y h1 v as1 H1 hq1 l1 r1 rv => ?_) (k.x eR)
  refine so σ H1 as1 ρ h1 _ _ _ (eR.later l1) r1 hq1 (fun x h2 u as2 H2 hq2 l2 r2 ru => ?_) (k.kx eR l1)
  have l12 := l1.trans l2
  refine si σ H2 as2 ρ h2 _ _ _ (eR.later l12) r2 hq2 (fun z h3 w as3 H3 hq3 l3 r3 rw' => ?_) (k.kx eR l12)
  have l13 := l12.trans l3
  split at hq3
  · rename_i n kk
    split at hq3
    · rename_i xs en
      split at hq3
      · rename_i j ej
        have ru3 := ru.later l3
        cases ru3 with | loc hb =>
        rw [rel_int rw']
        obtain ⟨b, hb', vs, o1, o2⟩ := r3.at en
        rw [hb] at hb'
        cases hb'
        have rv3 := (rv.later l2).later l3
        refine ⟨_, vs, kk, j, rfl, rfl, o1, by rw [o2.length]; exact ej, ?_⟩
        have lw : Later as3 H3 as3 (upd H3 _ (.lst (vs.set j v))) := Later.write _ (List.mem_of_getElem? hb)
        exact k.nx _ _ _ _ _ hq3 (l13.trans lw) (r3.write hb (o2.set j rv3)) (eR.later (l13.trans lw))
      · exact hq3.elim
    · exact hq3.elim
  · exact hq3.elim
/-- x op= e, ints -/
def sAug (i : Nat) (r : WR2) (fe : WE) : WS := fun ρ h D => match ρ[i]? with
  | some (some x) => fe ρ h (fun y h1 => r x y h1 (fun z h2 => D.nx (ρ.set i (some z)) h2)) (exOf D ρ)
  | _ => False
theorem SS.aug (i : Nat) {x : Str} {op : Operator} {rV : R2} {r : WR2} {pos' : Pos} (hN : X.N.Nodup) (hi : X.N[i]? = some x) (hx : Loc X.env.scope x) (he : SE X W e fe) (ho : OpR X (inplaceOp op) rV) (cp : Cp2 X rV r) (hf : X.fn x = true ∨ X.env.scope.names.lookup x = some .local := by first | exact .inl rfl | exact .inr rfl | assumption) :
    SS X W (.AugAssign (.Name x pos') op e pos) (sAug i r fe) := by
  obtain ⟨_, p, s⟩ := he
  refine ⟨_, ps_aug hN hi hx p ho hf, fun σ H as ρ h D D' eR hR hq k => ?_⟩
  unfold sAug at hq
  split at hq
  · rename_i x0 e0
    obtain ⟨v, ev, rv⟩ := eR.2 i x0 e0
    refine ⟨v, ev, ?_⟩
    refine s σ H as ρ h _ _ _ eR hR hq (fun y h1 w as1 H1 hq1 l1 r1 rw' => ?_) (k.x eR)
    refine cp x0 y h1 _ v w as1 H1 _ (rv.later l1) rw' r1 hq1 (fun z h2 u as2 H2 hq2 l2 r2 ru => ?_)
    exact k.nx _ _ _ _ _ hq2 (l1.trans l2) r2 ((eR.later (l1.trans l2)).set i ru)
  · exact hq.elim
def sDrop (fe : WE) : WS := fun ρ h D => fe ρ h (fun _ h1 => D.nx ρ h1) (exOf D ρ)
theorem SS.expr (he : SE X W e fe) (hs : swapsWith e none pos.line X.env = pure false := by rfl) : SS X W (.Expr e pos) (sDrop fe) := by
  obtain ⟨_, p, s⟩ := he
  refine ⟨_, ps_expr p hs, fun σ H as ρ h D D' eR hR hq k => ?_⟩
  exact s σ H as ρ h _ _ _ eR hR hq (fun y h1 w as1 H1 hq1 l1 r1 rw' => k.nx _ _ _ _ _ hq1 l1 r1 (eR.later l1)) (k.x eR)
def sRet (fe : WE) : WS := fun ρ h D => fe ρ h D.rt (exOf D ρ)
theorem SS.ret (he : SE X W e fe) : SS X W (.Return (some e) pos) (sRet fe) := by
  obtain ⟨_, p, s⟩ := he
  refine ⟨_, ps_ret p, fun σ H as ρ h D D' eR hR hq k => ?_⟩
  exact s σ H as ρ h _ _ _ eR hR hq (fun y h1 w as1 H1 hq1 l1 r1 rw' => k.rt _ _ _ _ _ hq1 l1 r1 rw') (k.x eR)
def sRetN : WS := fun _ h D => D.rt (.d .none) h
theorem SS.retN : SS X W (.Return none pos) sRetN := ⟨_, ps_retN, fun σ H as ρ h D D' eR hR hq k => k.rt _ _ _ _ _ hq (Later.refl _ _) hR (.d .non)⟩
theorem SS.pass : SS X W (.Pass pos) sNext := ⟨_, ps_pass, fun σ H as ρ h D D' eR hR hq k => k.nx _ _ _ _ _ hq (Later.refl _ _) hR eR⟩
def sBrk : WS := fun ρ h D => D.bk ρ h
def sCnt : WS := fun ρ h D => D.ct ρ h
theorem SS.brk : SS X W (.Break pos) sBrk := ⟨_, ps_break, fun σ H as ρ h D D' eR hR hq k => k.bk _ _ _ _ _ hq (Later.refl _ _) hR eR⟩
theorem SS.cnt : SS X W (.Continue pos) sCnt := ⟨_, ps_continue, fun σ H as ρ h D D' eR hR hq k => k.ct _ _ _ _ _ hq (Later.refl _ _) hR eR⟩
def sIf (t : WT) (f g : WS) : WS := fun ρ h D => t ρ h (fun b h1 => if b = true then f ρ h1 D else g ρ h1 D) (exOf D ρ)
theorem SS.ifS (hc : ST X W c t) (hb : SB X W body f) (ho : SB X W orelse g) : SS X W (.If c body orelse pos) (sIf t f g) := by
  obtain ⟨_, pc, sc⟩ := hc
  obtain ⟨_, pb, sb⟩ := hb
  obtain ⟨_, po, so⟩ := ho
  refine ⟨_, ps_if pc pb po, fun σ H as ρ h D D' eR hR hq k => ?_⟩
  refine sc σ H as ρ h _ _ _ eR hR hq (fun b h1 as1 H1 hq1 l1 r1 => ?_) (k.x eR)
  cases b with
  | true => exact iteT (sb σ H1 as1 ρ h1 D D' (eR.later l1) r1 hq1 (k.later l1))
  | false => exact iteF (so σ H1 as1 ρ h1 D D' (eR.later l1) r1 hq1 (k.later l1))
/-- while -/
def sWhile (t : WT) (f : WS) : WS := fun ρ h D => ∃ I : Nat → En → Ho → Prop, (∃ m, I m ρ h) ∧ ∀ m ρ h, I m ρ h → t ρ h (fun b h1 => if b = true then
    f ρ h1 { D with nx := fun ρ' h' => ∃ m', m' < m ∧ I m' ρ' h', ct := fun ρ' h' => ∃ m', m' < m ∧ I m' ρ' h', bk := D.nx } else D.nx ρ h1) (exOf D ρ)
theorem SS.whileS (hp : PassesOwn (model X.prog X.w) X.A X.env X.xe) (hc : ST X W c t) (hb : SB X W body f) : SS X W (.While c body [] pos) (sWhile t f) := by
  obtain ⟨_, pc, sc⟩ := hc
  obtain ⟨_, pb, sb⟩ := hb
  refine ⟨_, ps_while hp pc pb, fun σ H as ρ h D D' eR hR hq k => ?_⟩
  obtain ⟨I, ⟨m0, i0⟩, turn⟩ := hq
  refine ⟨fun m σ' H' => ∃ as' ρ' h', Later as H as' H' ∧ HeapR X.K as' H' h' ∧ EnvR X.K as' H' ρ' σ' ∧ I m ρ' h', ⟨m0, as, ρ, h, Later.refl _ _, hR, eR, i0⟩, ?_⟩
  rintro m σ1 H1 ⟨as1, ρ1, h1, l1, r1, eR1, i1⟩
  refine sc σ1 H1 as1 ρ1 h1 _ _ _ eR1 r1 (turn m ρ1 h1 i1) (fun b h2 as2 H2 hq2 l2 r2 => ?_) ((k.later l1).x eR1)
  have l12 := l1.trans l2
  cases b with
  | true =>
    refine iteT ⟨fun σ' H' => ∃ m', m' < m ∧ ∃ as' ρ' h', Later as H as' H' ∧ HeapR X.K as' H' h' ∧ EnvR X.K as' H' ρ' σ' ∧ I m' ρ' h', fun _ _ z => z, ?_⟩
    refine sb σ1 H2 as2 ρ1 h2 _ _ (eR1.later l2) r2 hq2 ⟨?_, ?_, ?_, ?_, ?_⟩
    · rintro ρ3 h3 σ3 as3 H3 ⟨m', hm, i3⟩ l3 r3 eR3
      exact ⟨m', hm, as3, ρ3, h3, l12.trans l3, r3, eR3, i3⟩
    · intro ρ3 h3 σ3 as3 H3 q l3 r3 eR3
      exact k.nx _ _ _ _ _ q (l12.trans l3) r3 eR3
    · rintro ρ3 h3 σ3 as3 H3 ⟨m', hm, i3⟩ l3 r3 eR3
      exact ⟨m', hm, as3, ρ3, h3, l12.trans l3, r3, eR3, i3⟩
    · intro y h3 v as3 H3 q l3 r3 rv
      exact k.rt _ _ _ _ _ q (l12.trans l3) r3 rv
    · intro x ρ3 h3 cls dd σ3 as3 H3 q l3 r3 eR3 xr
      exact k.ex _ _ _ _ _ _ _ _ q (l12.trans l3) r3 eR3 xr
  | false => exact iteF (k.nx _ _ _ _ _ hq2 l12 r2 (eR1.later l2))
/-- for -/
def forGo (g : WG) (f : WS) (N : Nx) (st : Ho → Prop) : List D → En → Ho → Prop
  | [], ρ, h => N.nx ρ h
  | x :: xs, ρ, h => match g x h ρ with
    | some ρ1 => f ρ1 h { N with nx := fun ρ2 h2 => st h2 ∧ forGo g f N st xs ρ2 h2, ct := fun ρ2 h2 => st h2 ∧ forGo g f N st xs ρ2 h2, bk := N.nx }
    | none => False
def sFor (wi : WI) (g : WG) (f : WS) : WS := fun ρ h D => wi ρ h (fun xs st h1 => forGo g f D st xs ρ h1) (exOf D ρ)
theorem SS.forS {tg it : Expr} {wi : WI} {g : WG} {sl : List Nat} (hp : PassesOwn (model X.prog X.w) X.A X.env X.xe) (hc : X.calm = true) (hi : SI X W tg it wi) (hg : SG X tg g sl) (hb : SB X W body f)
    (hs : ∀ x, foldedSetIterable it X.env x = pure x := by intro _; rfl) : SS X W (.For tg it body [] pos) (sFor wi g f) := by
  obtain ⟨_, pi, si⟩ := hi
  obtain ⟨_, pg, sg⟩ := hg
  obtain ⟨_, pb, sb⟩ := hb
  refine ⟨_, ps_for hp hc pi pg pb hs, fun σ H as ρ h D D' eR hR hq k => ?_⟩
  refine si σ H as ρ h _ _ _ eR hR hq (fun xs st h1 as1 H1 J hq1 st1 l1 r1 wk => ?_) (k.x eR)
  refine ⟨fun i m σ' H' => m = xs.length - i ∧ i ≤ xs.length ∧ ∃ as' ρ' h', Later as1 H1 as' H' ∧ HeapR X.K as' H' h' ∧ EnvR X.K as' H' ρ' σ' ∧ st h' ∧ forGo g f D st (xs.drop i) ρ' h',
    ⟨xs.length, by simp, Nat.zero_le _, as1, ρ, h1, Later.refl _ _, r1, eR.later l1, st1, hq1⟩, ?_⟩
  rintro i m σ2 H2 ⟨rfl, hi, as2, ρ2, h2, l2, r2, eR2, st2, fg⟩
  obtain ⟨w1, w2, w3⟩ := wk i as2 H2 h2 l2 r2 st2
  have l12 := l1.trans l2
  by_cases hlt : i < xs.length
  · refine .inr ⟨w1 hlt, fun σ' H' => i + 1 ≤ xs.length ∧ ∃ as' ρ' h', Later as1 H1 as' H' ∧ HeapR X.K as' H' h' ∧ EnvR X.K as' H' ρ' σ' ∧ st h' ∧ forGo g f D st (xs.drop (i + 1)) ρ' h',
      fun σ' H' z => ⟨xs.length - (i + 1), by omega, rfl, z.1, z.2⟩, fun v H3 y => ?_⟩
    obtain ⟨l3, r3, rv⟩ := w3 v H3 y xs[i] (List.getElem?_eq_getElem hlt)
    rw [List.drop_eq_getElem_cons hlt] at fg
    unfold forGo at fg
    split at fg
    · rename_i ρ3 e3
      have l23 := l2.trans l3
      have l13 := l12.trans l3
      refine sg v _ σ2 H3 as2 ρ2 h2 ρ3 _ (eR2.later l3) r3 rv e3 fun σ3 eR3 _ => ?_
      refine sb σ3 H3 as2 ρ3 h2 _ _ eR3 r3 fg ⟨?_, ?_, ?_, ?_, ?_⟩
      · rintro ρ4 h4 σ4 as4 H4 ⟨q1, q2⟩ l4 r4 eR4
        exact ⟨hlt, as4, ρ4, h4, l23.trans l4, r4, eR4, q1, q2⟩
      · intro ρ4 h4 σ4 as4 H4 q l4 r4 eR4
        exact k.nx _ _ _ _ _ q (l13.trans l4) r4 eR4
      · rintro ρ4 h4 σ4 as4 H4 ⟨q1, q2⟩ l4 r4 eR4
        exact ⟨hlt, as4, ρ4, h4, l23.trans l4, r4, eR4, q1, q2⟩
      · intro y h4 v as4 H4 q l4 r4 rv
        exact k.rt _ _ _ _ _ q (l13.trans l4) r4 rv
      · intro x ρ4 h4 cls dd σ4 as4 H4 q l4 r4 eR4 xr
        exact k.ex _ _ _ _ _ _ _ _ q (l13.trans l4) r4 eR4 xr
    · exact fg.elim
  · have e : i = xs.length := by omega
    subst e
    rw [List.drop_length] at fg
    unfold forGo at fg
    exact .inl ⟨w2 (Nat.le_refl _), k.nx _ _ _ _ _ fg l12 r2 eR2⟩
end
end V2
set_option Elab.async false
set_option linter.all false
set_option maxRecDepth 100000
set_option maxHeartbeats 4000000
namespace V2
open PySem PySem.Spec PyProof.Rows L2
open PySem.W (Frag)

/-! ### defs and their calls -/
abbrev WF := List D → Ho → KD → XD → Prop
/-- the promise over data -/
def spD (K : Frag) (mg : Str → Option Value) (m : Nat) (F : WF) : Sp := fun vs H Q E => ∃ as xs h Q0 E0, vs.length = m ∧ RelAll K as H vs xs ∧ HeapR K as H h ∧ F xs h Q0 E0 ∧
  (∀ y h' v as1 H1, Q0 y h' → Later as H as1 H1 → HeapR K as1 H1 h' → Rel K as1 H1 v y → Q v H1) ∧
  (∀ x h' cls dd as1 H1, E0 x h' → Later as H as1 H1 → HeapR K as1 H1 h' → ExR K mg as1 H1 cls dd x → E cls dd H1)
structure FnG (P : Program) (w : World) (K : Frag) (mg : Str → Option Value) (base : Heap) (k : Nat) (f : Addr) (fd : FuncData) (ps : List Str) (F : WF) : Prop where
  run : ∀ (A : Around) (outer : List Env) (s : Shared) (H : Hp) (args : Args) (us : List Value) (vs : List V) (Q : VK) (E : XK), Room k A → A.guards = some [] → Env0 P w K mg base A outer s H → BindsTo s fd args (ps.zip us) → Vals vs us →
    spD K mg ps.length F vs H Q E → codeAny (model P w) A (.call (.ref f) args) (CR (L2.CX P w) outer P w H s Q E) s
theorem FnG.mono {P : Program} {w : World} {K : Frag} {mg : Str → Option Value} {base : Heap} {j k : Nat} {f : Addr} {fd : FuncData} {ps : List Str} {F : WF} (g : FnG P w K mg base j f fd ps F) (h : j ≤ k) : FnG P w K mg base k f fd ps F :=
  ⟨fun A outer s H args us vs Q E hr => g.run A outer s H args us vs Q E (hr.mono h)⟩
/-- another reading that asks more -/
theorem FnG.imp {P : Program} {w : World} {K : Frag} {mg : Str → Option Value} {base : Heap} {k : Nat} {f : Addr} {fd : FuncData} {ps : List Str} {F G : WF} (g : FnG P w K mg base k f fd ps F) (h : ∀ xs ho Q E, G xs ho Q E → F xs ho Q E) : FnG P w K mg base k f fd ps G :=
  ⟨fun A outer s H args us vs Q E hr hg e0 hb hv ⟨as, xs, ho, Q0, E0, h1, h2, h3, h4, h5, h6⟩ => g.run A outer s H args us vs Q E hr hg e0 hb hv ⟨as, xs, ho, Q0, E0, h1, h2, h3, h _ _ _ _ h4, h5, h6⟩⟩
def bodyN (rt : KD) (E : XD) : Nx := { nx := fun _ h => rt (.d .none) h, rt := rt, bk := fun _ _ => False, ct := fun _ _ => False, ex := fun x _ h => E x h }
/-- a def of n names, m of them parameters -/
def mir (n m : Nat) (f : WS) : WF := fun xs h Q E => xs.length = m ∧ f (xs.map some ++ List.replicate (n - m) none) h (bodyN Q E)
theorem env_start {K : Frag} {as : List Addr} {H : Hp} {N : List Str} {vs : List V} {xs : List D} (r : RelAll K as H vs xs) : EnvR K as H (xs.map some ++ List.replicate (N.length - xs.length) none) (L2.start N vs) := by
  unfold L2.start
  refine ⟨by simp [r.length], fun i x e => ?_⟩
  have hl := r.length
  by_cases hi : i < xs.length
  · rw [List.getElem?_append_left (by simpa using hi), List.getElem?_map] at e
    cases q : xs[i]? with
    | none => rw [q] at e; cases e
    | some y =>
      rw [q] at e
      cases e
      obtain ⟨v, e1, e2⟩ := r.get q
      exact ⟨v, by rw [List.getElem?_append_left (by simpa [hl] using hi), List.getElem?_map, e1]; rfl, e2⟩
  · rw [List.getElem?_append_right (by simpa using hi), List.getElem?_replicate] at e
    split at e <;> cases e
section
variable {P : Program} {w : World} {K : Frag} {mg : Str → Option Value} {base : Heap}
theorem fnG_of {x qual : Str} {st : Stmt} {f : Addr} {fd : FuncData} {N ps : List Str} {k : Nat} {fb : WS} (F : Fun K x qual st f fd) (S : FnScope N ps (defScope st))
    (hb : ∀ (cdv : Value) (A : Around) (outer : List Env) (s : Shared) (H : Hp) (E : XK), Room k (A.deeper (envOfC qual (defScope st) s.heap.objs.size f cdv)) → A.guards = some [] →
      SB (cxOf (L2.CX P w) P w K mg base N qual (defScope st) f cdv A outer s H E) (fun cls d _ H => E cls d H) (defBody st) fb) :
    FnG P w K mg base (k + 1) f fd ps (mir N.length ps.length fb) := by
  obtain ⟨oc, od, kV, doc, pm, an, cdv, ct, osl, rfl, lk, hcd⟩ := F.ex
  refine ⟨fun A outer s H args us vs Q E hr hgu e0 hbind rv hsp => ?_⟩
  obtain ⟨as, xs, ho, Q0, E0, hm, rel, hp, ⟨hxl, hf⟩, kq, kx⟩ := hsp
  have hpar : ∀ y ∈ ps.zip us, (defScope st).names.lookup y.1 = some .local ∨ ((defScope st).names.lookup y.1 = some .cell ∧ ((cellsFrom (s.heap.objs.size + 1) (defScope st).names []).lookup y.1).isSome = true) := by
    intro y hy
    rcases S.par y.1 (List.of_mem_zip hy).1 with q | q
    · exact .inl q
    · exact .inr ⟨q, PySem.W.cellsFrom_some _ _ _ (.inl q)⟩
  have inK := e0.mod.kin.keeps (fun b o e => (e0.bs b o e).1)
  refine codeAny_call_function hr.depth (inK _ _ lk) rfl S.co S.gen rfl (PySem.W.codeRec_of inK hcd) (hbind _ _ _ _ ?_)
  refine wpAny_newFunctionEnv_cells S.kind hpar fun env eenv s1 ic => ?_
  subst eenv
  refine ⟨(e0.mod.nolimit.keeps fun b o e => (e0.bs b o e).1).keeps ic.toInCall.keep, codeAny_func ?_⟩
  obtain ⟨t, pt, spt⟩ := hb cdv A outer s H E (hr.deeper _) hgu
  have J : Inv (cxOf (L2.CX P w) P w K mg base N qual (defScope st) f cdv A outer s H E) [] (L2.start N vs) H s1 := inv_start S hr.hd e0 hm rv ic
  have en := env_start (N := N) rel
  rw [hxl] at en
  refine wpAny_mono (pt.run [] s1 _ H { nx := fun _ H' => Q .non H', rt := Q } J (spt _ H as _ ho _ _ en hp hf ⟨?_, ?_, ?_, ?_, ?_⟩)) (fun fl s' hs => ?_) fun e s' hs => hs
  · intro ρ h' σ as1 H1 q l r _
    exact kq _ _ _ _ _ q l r (.d .non)
  · exact fun _ _ _ _ _ q _ _ _ => q.elim
  · exact fun _ _ _ _ _ q _ _ _ => q.elim
  · exact fun y h' v as1 H1 q l r rr => kq _ _ _ _ _ q l r rr
  · exact fun x ρ h' cls dd σ as1 H1 q l r _ xr => kx _ _ _ _ _ _ q l r xr
  · cases fl with
    | ret u =>
      obtain ⟨v, σ', H', J', rv', q⟩ := hs
      exact ⟨v, H', J'.os, J'.bare, J'.base, J'.hok, rv', q⟩
    | next =>
      obtain ⟨σ', H', J', q⟩ := hs
      exact ⟨.non, H', J'.os, J'.bare, J'.base, J'.hok, rfl, q⟩
    | brk =>
      obtain ⟨_, _, _, q⟩ := hs
      exact False.elim q
    | cont =>
      obtain ⟨_, _, _, q⟩ := hs
      exact False.elim q
end
def fFn (F : WF) (ga : WA) : WE := fun ρ h Q E => ga ρ h (fun xs h1 => F xs h1 Q E) E
section
variable {X : Cx} {W : WX} {k : Nat} {f : Addr} {fd : FuncData} {ps : List Str} {F : WF} {x : Str} {p pos : Pos} {e : Expr} {es : List Expr} {ga : WA}
theorem run_fnG {pins : List (Addr × Obj)} {σ : L2.St} {H : Hp} {s : Shared} {Q : VK} {args : Args} {us : List Value} {vs : List V} (G : FnG X.prog X.w X.K X.mg X.base k f fd ps F) (hr : Room k X.A) (hgu : X.A.guards = some []) (tk : Takes X W)
    (I : Inv X pins σ H s) (hb : BindsTo s fd args (ps.zip us)) (r : Vals vs us) (h : spD X.K X.mg ps.length F vs H Q (fun cls d H' => W cls d σ H')) : wpAny (model X.prog X.w) X.A (call (.ref f) args.pos args.kw) (EP X pins σ Q) X.xe s := by
  refine wpAny_call (codeAny_mono (G.run X.A X.stack s H args us vs Q _ hr hgu I.env0 hb r h) fun r s' hq => ?_)
  cases r with
  | error e => exact passAt tk σ pins H s e s' I hq
  | ok fl =>
    cases fl with
    | ret u => exact I.after hq
    | next => exact hq.elim
    | brk => exact hq.elim
    | cont => exact hq.elim
def tFn (X : Cx) (W : WX) (m : Nat) (F : WF) (t : TA) : TE := fun σ H Q => t σ H fun vs H1 => spD X.K X.mg m F vs H1 Q (fun cls d H' => W cls d σ H')
theorem sp_fn {t : TA} {m : Nat} (hlen : ∀ xs ho Q E, F xs ho Q E → xs.length = m) (sa : SpA X W t ga) : SpE X W (tFn X W m F t) (fFn F ga) := by
  intro σ H as ρ h Q E QV eR hR hq kq kx
  refine sa σ H as ρ h _ E _ eR hR hq (fun xs h1 vs as1 H1 hq1 l1 r1 rv => ?_) kx
  exact ⟨as1, xs, h1, Q, E, by rw [rv.length]; exact hlen _ _ _ _ hq1, rv, r1, hq1, fun y h' v as2 H2 q l r rr => kq.later l1 y h' v as2 H2 q l r rr, fun x h' cls dd as2 H2 q l r xr => kx.later l1 x h' cls dd as2 H2 q l r xr⟩
/-- f(e, ..) -/
theorem SE.call (G : FnG X.prog X.w X.K X.mg X.base k f fd ps F) (hlen : ∀ xs ho Q E, F xs ho Q E → xs.length = ps.length) (hr : Room k X.A) (hgu : X.A.guards = some []) (tk : Takes X W) (hg : Gl X x) (hm : X.mg x = some (.ref f)) (hk : PySem.W.keepIn X.K (.ref f) = true)
    (hb : Binds X.K fd ps []) (ha : SA X W (e :: es) ga) (hdb : (x == ("__debug__" : Str)) = false := by decide) (he : starEach (e :: es) X.env = (false, eval e X.env) :: starEach es X.env := by rfl)
    (hpl : (backTo pos (starEach es X.env)).any (·.1) = false := by rfl) : SE X W (.Call (.Name x p) (e :: es) [] pos) (fFn F ga) := by
  obtain ⟨t, pa, sa⟩ := ha
  refine ⟨tFn X W ps.length F t, ⟨fun pins s σ H Q I hw => ?_⟩, sp_fn hlen sa⟩
  refine wpAny_Call_Name_kw (ld_glob I hg hm ?_ hdb)
  refine PySem.W.callWith_K (h₀ := X.base) I.ok.mod.kin hk (thn (pa.run pos pins s σ H _ I hw) fun us s1 ⟨vs, H1, I1, r, q⟩ => ⟨I1.kIn, ?_⟩) he hpl
  have hl : us.length = ps.length := by
    obtain ⟨as, xs, h, Q0, E0, hm', _⟩ := q
    rw [← r.length, hm']
  have b := hb s1 us I1.kIn (by rw [List.append_nil]; exact hl)
  rw [List.append_nil] at b
  exact run_fnG (args := ⟨us, []⟩) G hr hgu tk I1 b r q
/-- f() -/
theorem SE.call0 (G : FnG X.prog X.w X.K X.mg X.base k f fd [] F) (hlen : ∀ xs ho Q E, F xs ho Q E → xs.length = 0) (hr : Room k X.A) (hgu : X.A.guards = some []) (tk : Takes X W) (hg : Gl X x) (hm : X.mg x = some (.ref f)) (hk : PySem.W.keepIn X.K (.ref f) = true)
    (hb : Binds X.K fd [] []) (hdb : (x == ("__debug__" : Str)) = false := by decide) : SE X W (.Call (.Name x p) [] [] pos) (fFn F aNil) := by
  obtain ⟨t, pa, sa⟩ := (SA.nil : SA X W [] aNil)
  refine ⟨tFn X W 0 F tNil, ⟨fun pins s σ H Q I hw => ?_⟩, sp_fn hlen (fun σ H as ρ h Q E QV eR hR hq k kx => k _ _ _ _ _ hq (Later.refl _ _) hR .nil)⟩
  refine wpAny_Call_Name_kw (ld_glob I hg hm ?_ hdb)
  refine PySem.W.callWith_K0 I.kIn hk ?_
  have b := hb s [] I.kIn rfl
  exact run_fnG (args := ⟨[], []⟩) G hr hgu tk I b .nil hw
/-! keywords -/
def SKw (X : Cx) (W : WX) (kws : List Keyword) (g : WA) : Prop := ∃ t, PK X kws t ∧ SpA X W t g
theorem SKw.nil : SKw X W [] aNil := ⟨_, pk_nil, fun _ _ _ _ _ _ _ _ _ hR hq k _ => k _ _ _ _ _ hq (Later.refl _ _) hR .nil⟩
theorem SKw.cons {nm : Option Str} {kpos : Pos} {fe : WE} {kws : List Keyword} {g : WA} (he : SE X W e fe) (hr : SKw X W kws g) : SKw X W (⟨nm, e, kpos⟩ :: kws) (aCons fe g) := by
  obtain ⟨te, pe, se⟩ := he
  obtain ⟨ta, pa, sa⟩ := hr
  refine ⟨_, pk_cons pe pa, fun σ H as ρ h Q E QV eR hR hq k kx => ?_⟩
  refine se σ H as ρ h _ E _ eR hR hq (fun x h1 v as1 H1 hq1 l1 r1 rv => ?_) kx
  refine sa σ H1 as1 ρ h1 _ E _ (eR.later l1) r1 hq1 (fun xs h2 vs as2 H2 hq2 l2 r2 rvs => ?_) (kx.later l1)
  exact k _ _ _ _ _ hq2 (l1.trans l2) r2 (.cons (rv.later l2) rvs)
/-- a permutation of the keywords into the parameters' order: place i of the parameters is keyword at ix[i] -/
def pick {α : Type} (ix : List Nat) (xs : List α) : List α := ix.filterMap fun i => xs[i]?
theorem RelAll.pick {K : Frag} {as : List Addr} {H : Hp} {vs : List V} {xs : List D} (r : RelAll K as H vs xs) : ∀ ix : List Nat, RelAll K as H (V2.pick ix vs) (V2.pick ix xs)
  | [] => .nil
  | i :: ix => by
    have ih := RelAll.pick r ix
    unfold V2.pick at ih ⊢
    rw [List.filterMap_cons, List.filterMap_cons]
    cases q : xs[i]? with
    | none =>
      have : vs[i]? = none := by
        rw [List.getElem?_eq_none_iff] at q ⊢
        rw [r.length]; exact q
      rw [this]
      exact ih
    | some y =>
      obtain ⟨v, e1, e2⟩ := r.get q
      rw [e1]
      exact .cons e2 ih
theorem vals_pick {vs : List V} {us : List Value} (r : Vals vs us) : ∀ ix : List Nat, Vals (V2.pick ix vs) (V2.pick ix us)
  | [] => .nil
  | i :: ix => by
    have ih := vals_pick r ix
    unfold V2.pick at ih ⊢
    rw [List.filterMap_cons, List.filterMap_cons]
    cases q : vs[i]? with
    | none =>
      have : us[i]? = none := by
        rw [List.getElem?_eq_none_iff] at q ⊢
        rw [← r.length]; exact q
      rw [this]
      exact ih
    | some y =>
      obtain ⟨v, e1, e2⟩ := r.get q
      rw [e1]
      exact .cons e2 ih
/-- how keywords bind: all parameters by keywords ks -/
def KwB (K : Frag) (fd : FuncData) (ps ks : List Str) (ix : List Nat) : Prop := ∀ (s : Shared) (us : List Value), K.In s.heap → us.length = ks.length → BindsTo s fd ⟨[], ks.zip us⟩ (ps.zip (V2.pick ix us))
def fFnK (ix : List Nat) (n : Nat) (F : WF) (ga : WA) : WE := fun ρ h Q E => ga ρ h (fun xs h1 => xs.length = n ∧ F (V2.pick ix xs) h1 Q E) E
/-- f(k = e, ..), all by keywords -/
theorem SE.callK {kws : List Keyword} {g : WA} {ks : List Str} {ix : List Nat} (G : FnG X.prog X.w X.K X.mg X.base k f fd ps F) (hlen : ∀ xs ho Q E, F xs ho Q E → xs.length = ps.length) (hr : Room k X.A) (hgu : X.A.guards = some []) (tk : Takes X W) (hg : Gl X x) (hm : X.mg x = some (.ref f))
    (hk : PySem.W.keepIn X.K (.ref f) = true) (hb : KwB X.K fd ps ks ix) (ha : SKw X W kws g)
    (hall : (backToKw pos (keywordEach kws X.env)).all (·.1.isSome) = true := by rfl) (hks : (backToKw pos (keywordEach kws X.env)).filterMap (·.1) = ks := by rfl)
    (hdb : (x == ("__debug__" : Str)) = false := by decide)
    (hpl : ((backTo pos (starEach [] X.env)).any (·.1) || (backToKw pos (keywordEach kws X.env)).any (·.1.isNone)) = false := by rfl) : SE X W (.Call (.Name x p) [] kws pos) (fFnK ix ks.length F g) := by
  obtain ⟨t, pa, sa⟩ := ha
  refine ⟨fun σ H Q => t σ H fun vs H1 => vs.length = ks.length ∧ spD X.K X.mg ps.length F (V2.pick ix vs) H1 Q (fun cls d H' => W cls d σ H'), ⟨fun pins s σ H Q I hw => ?_⟩, ?_⟩
  · refine wpAny_Call_Name_kw (ld_glob I hg hm ?_ hdb)
    refine PySem.W.callWith_KW0 (h₀ := X.base) I.ok.mod.kin hk hall (thn (pa.run pos pins s σ H _ I hw) fun us s1 ⟨vs, H1, I1, r, hl, q⟩ => ⟨I1.kIn, ?_⟩) hpl
    rw [hks]
    have b := hb s1 us I1.kIn (by rw [← r.length]; exact hl)
    exact run_fnG (args := ⟨[], ks.zip us⟩) G hr hgu tk I1 b (vals_pick r ix) q
  · intro σ H as ρ h Q E QV eR hR hq kq kx
    refine sa σ H as ρ h _ E _ eR hR hq (fun xs h1 vs as1 H1 hq1 l1 r1 rv => ?_) kx
    have rp := rv.pick ix
    refine ⟨by rw [rv.length, hq1.1], as1, _, h1, Q, E, by rw [rp.length]; exact hlen _ _ _ _ hq1.2, rp, r1, hq1.2, fun y h' v as2 H2 q l r rr => kq.later l1 y h' v as2 H2 q l r rr, fun x h' cls dd as2 H2 q l r xr => kx.later l1 x h' cls dd as2 H2 q l r xr⟩
end
theorem mir_len {n m : Nat} {f : WS} : ∀ xs ho Q E, mir n m f xs ho Q E → xs.length = m := fun _ _ _ _ h => h.1
end V2
set_option Elab.async false
set_option linter.all false
set_option maxRecDepth 100000
set_option maxHeartbeats 4000000
namespace V2
open PySem PySem.Spec PyProof.Rows L2
open PySem.W (Frag)

/-! ### the reading over data, as a reading of the layer (the same in every context of one K, mg) -/
def cE (K : Frag) (mg : Str → Option Value) (W : WX) (f : WE) : TE := fun σ H QV => ∃ as ρ h Q E, EnvR K as H ρ σ ∧ HeapR K as H h ∧ f ρ h Q E ∧
  (∀ y h' v as1 H', Q y h' → Later as H as1 H' → HeapR K as1 H' h' → Rel K as1 H' v y → QV v H') ∧ (∀ x h' cls dd as1 H', E x h' → Later as H as1 H' → HeapR K as1 H' h' → ExR K mg as1 H' cls dd x → W cls dd σ H')
theorem SE.c {X : Cx} {W : WX} {e : Expr} {f : WE} (h : SE X W e f) : PE X e (cE X.K X.mg W f) := by
  obtain ⟨t, pt, st⟩ := h
  exact ⟨fun pins s σ H Q I ⟨as, ρ, ho, Q0, E0, h1, h2, h3, h4, h5⟩ => pt.run pins s σ H Q I (st σ H as ρ ho Q0 E0 Q h1 h2 h3 h4 h5)⟩
def cT (K : Frag) (mg : Str → Option Value) (W : WX) (f : WT) : TT := fun σ H QV => ∃ as ρ h Q E, EnvR K as H ρ σ ∧ HeapR K as H h ∧ f ρ h Q E ∧
  (∀ y h' as1 H', Q y h' → Later as H as1 H' → HeapR K as1 H' h' → QV y H') ∧ (∀ x h' cls dd as1 H', E x h' → Later as H as1 H' → HeapR K as1 H' h' → ExR K mg as1 H' cls dd x → W cls dd σ H')
theorem ST.c {X : Cx} {W : WX} {e : Expr} {f : WT} (h : ST X W e f) : PT X e (cT X.K X.mg W f) := by
  obtain ⟨t, pt, st⟩ := h
  exact ⟨fun pins s σ H Q I ⟨as, ρ, ho, Q0, E0, h1, h2, h3, h4, h5⟩ => pt.run pins s σ H Q I (st σ H as ρ ho Q0 E0 Q h1 h2 h3 h4 h5)⟩
def cG (K : Frag) (g : WG) (sl : List Nat) : TG := fun v σ H Q => ∃ as x ρ h ρ', EnvR K as H ρ σ ∧ HeapR K as H h ∧ Rel K as H v x ∧ g x h ρ = some ρ' ∧
    (∀ σ', EnvR K as H ρ' σ' → (∀ vs : List Nat, (∀ i ∈ sl, i ∈ vs) → L2.wipe σ' vs = L2.wipe σ vs) → Q σ' H)
theorem SG.c {X : Cx} {tg : Expr} {g : WG} {sl : List Nat} (h : SG X tg g sl) : PG X tg (cG X.K g sl) := by
  obtain ⟨t, pt, st⟩ := h
  exact ⟨fun pins s σ H v u Q I r ⟨as, x, ρ, ho, ρ', h1, h2, h3, h4, h5⟩ => pt.run pins s σ H v u Q I r (st v x σ H as ρ ho ρ' Q h1 h2 h3 h4 h5)⟩

/-! ### list comprehensions of one clause -/
def noX : XD := fun _ _ => False
/-- nothing leaves -/
def WF0 : WX := fun _ _ _ _ => False
/-- the turns: the items so far stand at place n -/
def lcGo (g : WG) (tt : WT) (te : WE) (st : Ho → Prop) (n : Nat) (ρ : En) (Q : Ho → Prop) : List D → Ho → Prop
  | [], h => Q h
  | x :: xs, h => match g x h ρ with
    | some ρ1 => tt ρ1 h (fun b h1 => if b = true then te ρ1 h1 (fun y h2 => match h2[n]? with
        | some (.lst acc) => acc.length < sizeLine ∧ st (h2.set n (.lst (acc ++ [y]))) ∧ lcGo g tt te st n ρ Q xs (h2.set n (.lst (acc ++ [y])))
        | none => False) noX else st h1 ∧ lcGo g tt te st n ρ Q xs h1) noX
    | none => False
/-- the new list is a place -/
def fLcL (wi : WI) (g : WG) (tt : WT) (te : WE) (own : List Nat) : WE := fun ρ h Q E => wi ρ h (fun xs st h1 =>
  st (h1 ++ [.lst []]) ∧ lcGo g tt te st h1.length (wipeD ρ own) (fun h2 => Q (.loc h1.length) h2) xs (h1 ++ [.lst []])) E
/-- no place n stands in the store -/
def noRefD (n : Nat) : D → Bool
  | .loc m => m != n
  | _ => true
def noRef (n : Nat) (h : Ho) : Bool := h.all fun o => match o with
  | .lst xs => xs.all (noRefD n)
/-- the new list is data: the store behind is as long as ahead, and nothing in it leads to the list -/
def fLcV (wi : WI) (g : WG) (tt : WT) (te : WE) (own : List Nat) : WE := fun ρ h Q E => wi ρ h (fun xs st h1 =>
  st (h1 ++ [.lst []]) ∧ lcGo g tt te st h1.length (wipeD ρ own) (fun h2 => ∃ hh acc ps, h2 = hh ++ [.lst acc] ∧ hh.length = h1.length ∧ (hh = h1 ∨ noRef h1.length hh = true) ∧ allD acc = some ps ∧ Q (.d (.list ps)) hh) xs (h1 ++ [.lst []])) E
def tTrue : WT := fun _ h Q _ => Q true h
section
variable {X : Cx} {W : WX} {elt tg it : Expr} {ifs : List Expr} {scope : Scope} {own : List (Str × Nat)} {pos : Pos} {wi : WI} {g : WG} {sl : List Nat} {tt : WT} {te : WE}
def STs (X : Cx) (W : WX) (ifs : List Expr) (f : WT) : Prop := ∃ t, PTs X ifs t ∧ SpT X W t f
theorem STs.nil : STs X W [] tTrue := ⟨_, pts_nil, fun _ _ _ _ _ _ _ _ _ hR hq k _ => k _ _ _ _ hq (Later.refl _ _) hR⟩
theorem STs.one {c : Expr} {f : WT} (h : ST X W c f) : STs X W [c] f := let ⟨_, p, s⟩ := h; ⟨_, pts_one p, s⟩
theorem STs.c {f : WT} (h : STs X W ifs f) : PTs X ifs (cT X.K X.mg W f) := by
  obtain ⟨t, pt, st⟩ := h
  exact ⟨fun pins s σ H Q I ⟨as, ρ, ho, Q0, E0, h1, h2, h3, h4, h5⟩ => pt.run pins s σ H Q I (st σ H as ρ ho Q0 E0 Q h1 h2 h3 h4 h5)⟩
theorem wipe_wipe (σ : L2.St) (vs : List Nat) : L2.wipe (L2.wipe σ vs) vs = L2.wipe σ vs := by
  have key : ∀ (ws us : List Nat), (∀ i ∈ ws, i ∈ us) → ∀ τ, L2.wipe (L2.wipe τ ws) us = L2.wipe τ us := by
    intro ws
    induction ws with
    | nil => intro us _ τ; rfl
    | cons w ws ih =>
      intro us hs τ
      show L2.wipe ((L2.wipe τ ws).set w none) us = _
      rw [wipe_set (hs w (by simp)), ih us (fun i hi => hs i (List.mem_cons_of_mem _ hi))]
  exact key vs vs (fun _ h => h) σ
/-- the walk of the turns, in the layer -/
theorem lc_walk {K : Frag} {mg : Str → Option Value} {as1 : List Addr} {H1 : Hp} {h1 : Ho} {σ : L2.St} {ρ : En} {xs : List D} {st : Ho → Prop} {J : It} {Qf : Ho → Prop} {QV : VK} {ow : List Nat} (hsl : ∀ i ∈ sl, i ∈ ow)
    (r1 : HeapR K as1 H1 h1) (eR : EnvR K as1 H1 ρ σ) (wk : Walks K as1 H1 xs st J) (st1 : st (h1 ++ [.lst []])) (go : lcGo g tt te st h1.length (wipeD ρ ow) Qf xs (h1 ++ [.lst []]))
    (kq : ∀ p as2 H2 h2, H1 p = none → Qf h2 → Later as1 H1 as2 H2 → HeapR K as2 H2 h2 → as2[h1.length]? = some p → QV (.ref p) H2) :
    ∀ p, H1 p = none → ∃ Wm : Nat → Nat → Hp → Prop, (∃ m, Wm 0 m (upd H1 p (.lst []))) ∧ ∀ i m H, Wm i m H →
      (J.stop i H ∧ QV (.ref p) H) ∨ (J.go i H ∧ ∃ Nx : Hp → Prop, (∀ H', Nx H' → ∃ m', m' < m ∧ Wm (i + 1) m' H') ∧ ∀ x H', J.yld i H x H' → cG K g sl x (L2.wipe σ ow) H' fun σ2 H2 => L2.wipe σ2 ow = L2.wipe σ ow ∧ cT K mg WF0 tt σ2 H2 fun b H3 =>
        if b = true then cE K mg WF0 te σ2 H3 fun y H4 => ∃ acc, H4 p = some (.lst acc) ∧ acc.length < sizeLine ∧ Nx (upd H4 p (.lst (acc ++ [y]))) else Nx H3) := by
  intro p hp
  obtain ⟨rp, ep⟩ := r1.place (vs := []) (xs := []) hp .nil
  have lp : Later as1 H1 (as1 ++ [p]) (upd H1 p (.lst [])) := Later.place _ hp
  refine ⟨fun i m H => m = xs.length - i ∧ i ≤ xs.length ∧ ∃ as2 h2, Later as1 H1 as2 H ∧ as2[h1.length]? = some p ∧ HeapR K as2 H h2 ∧ st h2 ∧ lcGo g tt te st h1.length (wipeD ρ ow) Qf (xs.drop i) h2,
    ⟨xs.length, by simp, Nat.zero_le _, _, _, lp, ep, rp, st1, go⟩, ?_⟩
  rintro i m H ⟨rfl, hi, as2, h2, l2, e2, r2, st2, go2⟩
  obtain ⟨w1, w2, w3⟩ := wk i as2 H h2 l2 r2 st2
  by_cases hlt : i < xs.length
  · refine .inr ⟨w1 hlt, fun H' => i + 1 ≤ xs.length ∧ ∃ as3 h3, Later as1 H1 as3 H' ∧ as3[h1.length]? = some p ∧ HeapR K as3 H' h3 ∧ st h3 ∧ lcGo g tt te st h1.length (wipeD ρ ow) Qf (xs.drop (i + 1)) h3,
      fun H' z => ⟨xs.length - (i + 1), by omega, rfl, z.1, z.2⟩, fun v H' y => ?_⟩
    obtain ⟨l3, r3, rv⟩ := w3 v H' y xs[i] (List.getElem?_eq_getElem hlt)
    rw [List.drop_eq_getElem_cons hlt] at go2
    unfold lcGo at go2
    split at go2
    · rename_i ρ1 e1
      have l13 := l2.trans l3
      refine ⟨as2, _, _, h2, ρ1, (eR.later l13).wipe ow, r3, rv, e1, fun σ2 eR2 hw => ⟨?_, ?_⟩⟩
      · rw [hw ow hsl, wipe_wipe]
      · refine ⟨as2, ρ1, h2, _, _, eR2, r3, go2, fun b h3 as3 H3 q3 l4 r4 => ?_, fun _ _ _ _ _ _ z => z.elim⟩
        cases b with
        | false =>
          refine iteF ⟨hlt, as3, h3, l13.trans l4, l4.at e2, r4, ?_⟩
          exact q3
        | true =>
          refine iteT ⟨as3, ρ1, h3, _, _, eR2.later l4, r4, q3, fun y h4 w as4 H4 q4 l5 r5 rw' => ?_, fun _ _ _ _ _ _ z => z.elim⟩
          split at q4
          · rename_i acc ea
            have e4 := l5.at (l4.at e2)
            obtain ⟨b, hb, vs, o1, o2⟩ := r5.at ea
            rw [e4] at hb
            cases hb
            have lw : Later as4 H4 as4 (upd H4 p (.lst (vs ++ [w]))) := Later.write _ (List.mem_of_getElem? e4)
            exact ⟨vs, o1, by rw [o2.length]; exact q4.1, hlt, as4, _, ((l13.trans l4).trans l5).trans lw, e4, r5.write e4 (o2.append (.cons rw' .nil)), q4.2.1, q4.2.2⟩
          · exact q4.elim
    · exact go2.elim
  · have e : i = xs.length := by omega
    subst e
    rw [List.drop_length] at go2
    unfold lcGo at go2
    exact .inl ⟨w2 (Nat.le_refl _), kq p as2 H h2 hp go2 l2 r2 e2⟩
variable (hc : X.calm = true) (hN : X.N.Nodup) (hi : SI X W tg it wi) (ok : BlkOk X.N X.env.scope scope own) (hsl : ∀ i ∈ sl, i ∈ own.map (·.2))
    (hg : ∀ (s : Shared) (H : Hp) (C : Addr) (cl : List (Str × Addr)) (fp : List Addr), SG (X.blk s H scope (compEnvC scope cl C X.env) fp) tg g sl)
    (ht : ∀ (s : Shared) (H : Hp) (C : Addr) (cl : List (Str × Addr)) (fp : List Addr), STs (X.blk s H scope (compEnvC scope cl C X.env) fp) WF0 ifs tt)
    (he : ∀ (s : Shared) (H : Hp) (C : Addr) (cl : List (Str × Addr)) (fp : List Addr), SE (X.blk s H scope (compEnvC scope cl C X.env) fp) WF0 elt te)
include hc hN hi ok hsl hg ht he
theorem sp_lc {t : TI} (st' : ∀ σ H as ρ h Q E (R : It → Hp → Prop), EnvR X.K as H ρ σ → HeapR X.K as H h → wi ρ h Q E →
    (∀ xs st h1 as1 H1 (J : It), Q xs st h1 → st h1 → Later as H as1 H1 → HeapR X.K as1 H1 h1 → Walks X.K as1 H1 xs st J → R J H1) → XTo X W as H σ E → t σ H R) :
    SpE X W (tLc t (cG X.K g sl) (cT X.K X.mg WF0 tt) (cE X.K X.mg WF0 te) (own.map (·.2))) (fLcL wi g tt te (own.map (·.2))) ∧
    SpE X W (tLc t (cG X.K g sl) (cT X.K X.mg WF0 tt) (cE X.K X.mg WF0 te) (own.map (·.2))) (fLcV wi g tt te (own.map (·.2))) := by
  constructor
  · intro σ H as ρ h Q E QV eR hR hq k kx
    refine st' σ H as ρ h _ E _ eR hR hq (fun xs st h1 as1 H1 J q1 s1 l1 r1 wk => ?_) kx
    refine lc_walk hsl r1 (eR.later l1) wk q1.1 q1.2 fun p as2 H2 h2 hp q2 l2 r2 e2 => ?_
    exact k _ _ _ _ _ q2 (l1.trans l2) r2 (.loc e2)
  · intro σ H as ρ h Q E QV eR hR hq k kx
    refine st' σ H as ρ h _ E _ eR hR hq (fun xs st h1 as1 H1 J q1 s1 l1 r1 wk => ?_) kx
    refine lc_walk hsl r1 (eR.later l1) wk q1.1 q1.2 fun p as2 H2 h2 hp q2 l2 r2 e2 => ?_
    obtain ⟨hh, acc, ps, rfl, hlen, hno, hps, q⟩ := q2
    -- the last place is taken away
    have hal : as2.length = hh.length + 1 := by rw [r2.len]; simp
    have al1 : as1.length = h1.length := r1.len
    obtain ⟨mo, hmo⟩ := l2.more
    have hmo1 : mo.length = 1 := by
      have := congrArg List.length hmo
      rw [List.length_append] at this
      omega
    obtain ⟨p', rfl⟩ : ∃ p', mo = [p'] := by
      cases mo with
      | nil => simp at hmo1
      | cons a t => cases t with
        | nil => exact ⟨a, rfl⟩
        | cons _ _ => simp at hmo1
    have ep : p' = p := by
      rw [hmo, ← al1] at e2
      simpa using e2
    subst ep
    subst hmo
    have hpn : p' ∉ as1 := fun hm => by
      obtain ⟨u, e⟩ := r1.there hm
      rw [hp] at e
      cases e
    obtain ⟨b, hb, vs, o1, o2⟩ := r2.at (n := hh.length) (o := .lst acc) (by simp)
    have ebp : b = p' := by
      rw [hlen, ← al1] at hb
      simpa using hb.symm
    subst ebp
    have l2' : Later as1 H1 as1 H2 := ⟨⟨[], by simp⟩, fun q o e n => ⟨(l2.keep q o e n).1, n⟩⟩
    have back : Later (as1 ++ [b]) H2 as1 H2 → True := fun _ => trivial
    have dvBack : ∀ {v : V} {d : PyData}, Dv X.K (as1 ++ [b]) H2 v d → Dv X.K as1 H2 v d := by
      have key : ∀ (q : Addr) (o : HO), H2 q = some o → q ∉ as1 ++ [b] → H2 q = some o ∧ q ∉ as1 := fun q o e n => ⟨e, fun m => n (List.mem_append_left _ m)⟩
      intro v d hd
      have tupB : ∀ {a : Addr} {ys : List V}, TupR X.K (as1 ++ [b]) H2 a ys → TupR X.K as1 H2 a ys := fun z => z.elim (fun z => .inl ⟨z.1, fun m => z.2 (List.mem_append_left _ m)⟩) .inr
      have lstB : ∀ {a : Addr} {ys : List V}, LstR X.K (as1 ++ [b]) H2 a ys → LstR X.K as1 H2 a ys := fun z => z.elim (fun z => .inl ⟨z.1, fun m => z.2 (List.mem_append_left _ m)⟩) .inr
      exact Dv.rec (motive_1 := fun v d _ => Dv X.K as1 H2 v d) (motive_2 := fun vs ds _ => DvAll X.K as1 H2 vs ds) .non (fun b => .bl b) (fun i => .int i) (fun x => .str x) (fun s _ ih => .lst (lstB s) ih) (fun s _ ih => .tup (tupB s) ih) .nil (fun _ _ ih1 ih2 => .cons ih1 ih2) hd
    have relBack : ∀ {v : V} {x : D}, Rel X.K (as1 ++ [b]) H2 v x → noRefD h1.length x = true → Rel X.K as1 H2 v x := by
      intro v x rx hn
      cases rx with
      | d rx => exact .d (dvBack rx)
      | @loc a m hm =>
        simp only [noRefD, bne_iff_ne, ne_eq] at hn
        have hlt := (List.getElem?_eq_some_iff.mp hm).1
        simp at hlt
        have : m < as1.length := by omega
        rw [List.getElem?_append_left this] at hm
        exact .loc hm
    have allBack : ∀ {vs : List V} {xs : List D}, RelAll X.K (as1 ++ [b]) H2 vs xs → (∀ x ∈ xs, noRefD h1.length x = true) → RelAll X.K as1 H2 vs xs := by
      intro vs xs ra
      induction ra with
      | nil => intro _; exact .nil
      | cons r t ih => intro hn; exact .cons (relBack r (hn _ (by simp))) (ih fun x hx => hn x (List.mem_cons_of_mem _ hx))
    have hclean : ∀ (i : Nat) (ys : List D), hh[i]? = some (.lst ys) → ∀ x ∈ ys, noRefD h1.length x = true := by
      intro i ys e x hx
      rcases hno with rfl | hno
      · -- the store as it was: each place within is an old one
        obtain ⟨a, ha, us, u1, u2⟩ := r1.at e
        obtain ⟨j, hj, ej⟩ := List.mem_iff_getElem.mp hx
        obtain ⟨v, _, rvx⟩ := u2.get (i := j) (x := x) (by rw [List.getElem?_eq_getElem hj, ej])
        cases rvx with
        | d _ => rfl
        | @loc a m hm =>
          have := (List.getElem?_eq_some_iff.mp hm).1
          simp only [noRefD, bne_iff_ne, ne_eq]
          omega
      · unfold noRef at hno
        rw [List.all_eq_true] at hno
        have := hno _ (List.mem_of_getElem? e)
        simp only [List.all_eq_true] at this
        exact this x hx
    have r2' : HeapR X.K as1 H2 hh := by
      refine ⟨by omega, r1.nd, fun i o a e1 e2 => ?_⟩
      have hi' : i < as1.length := (List.getElem?_eq_some_iff.mp e2).1
      have q2 := r2.ob i o a (by rw [List.getElem?_append_left (by omega)]; exact e1) (by rw [List.getElem?_append_left hi']; exact e2)
      cases o with
      | lst ys =>
        obtain ⟨us, u1, u2⟩ := q2
        exact ⟨us, u1, allBack u2 (hclean i ys e1)⟩
    have dv := o2.ofAllD hps
    have dvl : DvAll X.K as1 H2 vs ps := by
      have := DvAll.rec (motive_1 := fun _ _ _ => True) (motive_2 := fun vs ds _ => DvAll X.K as1 H2 vs ds) (K := X.K) (as := as1 ++ [b]) (H := H2) trivial (fun _ => trivial) (fun _ => trivial) (fun _ => trivial) (fun _ _ _ => trivial) (fun _ _ _ => trivial) .nil (fun h1 _ _ ih2 => .cons (dvBack h1) ih2) dv
      exact this
    exact k _ _ _ _ _ q (l1.trans l2') r2' (.d (.lst (.inl ⟨.inl o1, hpn⟩) dvl))
theorem SE.lcL (hs : ∀ x, foldedSetIterable it X.env x = pure x := by intro _; rfl) : SE X W (.ListComp elt [⟨tg, it, ifs, 0⟩] scope pos) (fLcL wi g tt te (own.map (·.2))) := by
  obtain ⟨t, pi, st'⟩ := id hi
  exact ⟨_, pe_lc hc hN pi ok (fun s H C cl fp => (hg s H C cl fp).c) (fun s H C cl fp => (ht s H C cl fp).c) (fun s H C cl fp => (he s H C cl fp).c) hs, (sp_lc hc hN hi ok hsl hg ht he st').1⟩
theorem SE.lcV (hs : ∀ x, foldedSetIterable it X.env x = pure x := by intro _; rfl) : SE X W (.ListComp elt [⟨tg, it, ifs, 0⟩] scope pos) (fLcV wi g tt te (own.map (·.2))) := by
  obtain ⟨t, pi, st'⟩ := id hi
  exact ⟨_, pe_lc hc hN pi ok (fun s H C cl fp => (hg s H C cl fp).c) (fun s H C cl fp => (ht s H C cl fp).c) (fun s H C cl fp => (he s H C cl fp).c) hs, (sp_lc hc hN hi ok hsl hg ht he st').2⟩
/-- name = [..], on one row -/
theorem SS.setLcL {i : Nat} {y : Str} {py spos : Pos} (hy : X.N[i]? = some y) (hyl : X.env.scope.names.lookup y = some .local) (hsw : swapsWith (.ListComp elt [⟨tg, it, ifs, 0⟩] scope pos) (some (.Name y py)) spos.line X.env = pure true)
    (hs : ∀ x, foldedSetIterable it X.env x = pure x := by intro _; rfl) : SS X W (.Assign [.Name y py] (.ListComp elt [⟨tg, it, ifs, 0⟩] scope pos) spos) (sAsg (fLcL wi g tt te (own.map (·.2))) (gNm i)) := by
  obtain ⟨t, pi, st'⟩ := id hi
  refine ⟨_, ps_setLc hc hN hy hyl hsw pi ok (fun s H C cl fp => (hg s H C cl fp).c) (fun s H C cl fp => (ht s H C cl fp).c) (fun s H C cl fp => (he s H C cl fp).c) hs, sp_asg (sl := [i]) (sp_lc hc hN hi ok hsl hg ht he st').1 fun v x σ H as ρ h ρ' Q eR hR r e k => ?_⟩
  simp only [gNm, Option.some.injEq] at e
  subst e
  exact k _ (eR.set i r) fun vs hv => wipe_set (hv i (by simp))
theorem SS.setLcV {i : Nat} {y : Str} {py spos : Pos} (hy : X.N[i]? = some y) (hyl : X.env.scope.names.lookup y = some .local) (hsw : swapsWith (.ListComp elt [⟨tg, it, ifs, 0⟩] scope pos) (some (.Name y py)) spos.line X.env = pure true)
    (hs : ∀ x, foldedSetIterable it X.env x = pure x := by intro _; rfl) : SS X W (.Assign [.Name y py] (.ListComp elt [⟨tg, it, ifs, 0⟩] scope pos) spos) (sAsg (fLcV wi g tt te (own.map (·.2))) (gNm i)) := by
  obtain ⟨t, pi, st'⟩ := id hi
  refine ⟨_, ps_setLc hc hN hy hyl hsw pi ok (fun s H C cl fp => (hg s H C cl fp).c) (fun s H C cl fp => (ht s H C cl fp).c) (fun s H C cl fp => (he s H C cl fp).c) hs, sp_asg (sl := [i]) (sp_lc hc hN hi ok hsl hg ht he st').2 fun v x σ H as ρ h ρ' Q eR hR r e k => ?_⟩
  simp only [gNm, Option.some.injEq] at e
  subst e
  exact k _ (eR.set i r) fun vs hv => wipe_set (hv i (by simp))
end
end V2
set_option Elab.async false
set_option linter.all false
set_option maxRecDepth 100000
set_option maxHeartbeats 4000000
namespace V2
open PySem PySem.Spec PyProof.Rows L2
open PySem.W (Frag)
open PySem.Builtin PySem.Builtin.ObjectAttr

/-! ### own exceptions over Exception -/
/-- own classes, then Exception's chain -/
inductive Refs : List Value → Prop
  | nil : Refs [.type "Exception", .type "BaseException", .type "object"]
  | cons (c : Addr) {r : List Value} : Refs r → Refs (.ref c :: r)
theorem Refs.pass (self : Value) : ∀ {l : List Value}, Refs l → refuseLoop self "__setattr__" l = pure ()
  | _, .nil => F.store_Exception.passes self
  | _, .cons _ r => by rw [refuseLoop_ref]; exact Refs.pass self r
theorem Refs.has (n : String) : ∀ {l : List Value}, Refs l → l.contains (.type n) = ([.type "Exception", .type "BaseException", .type "object"] : List Value).contains (.type n)
  | _, .nil => rfl
  | _, .cons _ r => by rw [List.contains_cons, Refs.has n r]; rfl
theorem Refs.ne : ∀ {l : List Value}, Refs l → l.isEmpty = false
  | _, .nil => rfl
  | _, .cons _ _ => rfl
section
variable {prog : Program} {w : World} {A : Around} {E : Value → Shared → Prop} {R : Result → Shared → Prop} {hp : Heap} {g : Array GenState} {d : Drawn} {t : Nat} {os : OsState}
/-- self.name = v on an exception that has no dict yet -/
theorem refs_osa {K : Frag} {name : Str} {tk : Tok} {v : Value} {x C : Addr} {fv : Array Value} {cd : ClassData} (inK : K.In hp) (ox : hp.get? x = some { cls := .ref C, data := .fields fv }) (ecd : PySem.W.clsIn K C = some cd) (rf : Refs cd.mro)
    (edict : cd.hasDict = true) (noF : PySem.W.findIn K (.ref C) name = some none)
    (fin : ∀ h' tk' dx, (∀ b o, b ≠ x → hp.get? b = some o → h'.get? b = some o) → hp.objs.size ≤ dx → dx ≠ x → h'.get? x = some { cls := .ref C, dict := some dx, data := .fields fv } →
      h'.Ns1 dx (fun y => if y = name then some v else none) → R (.ok (.ret .none)) ⟨h', g, d, tk', os⟩) :
    codeAny (model prog w) A (.call (.builtin "object.__setattr__") ⟨[.ref x, .str name tk, v], []⟩) R ⟨hp, g, d, t, os⟩ := by
  have inst : PySem.W.InstAt hp x { cls := .ref C, data := .fields fv } C none := ⟨ox, rfl, rfl, trivial⟩
  have so := F.store_object
  have isob : cd.mro.contains (.type "object") = true := (rf.has "object").trans (by decide +kernel)
  have apart : x ≠ hp.objs.size := Nat.ne_of_lt (Heap.lt_size ox)
  have lob : PySem.W.Looks (model prog w) hp (isInstance (.ref x) (.type "object")) true := inst.type.andThen (PySem.W.looks_mroIn inK (by unfold PySem.W.mroIn; rw [ecd, Option.bind_some, if_neg (by rw [rf.ne]; decide), isob]))
  refine codeAny_call_builtin so.slot.plain so.entry (@PySem.W.check_slot (model prog w) _ _ ⟨hp, g, d, t, os⟩ "object.__setattr__" "object" "__setattr__" (.ref x) [.str name tk, v] [] _ so.kind so.split lob (so.args (.ref x) (.str name tk) v) ?_)
  have lm : PySem.W.Looks (model prog w) hp (mroOf (.ref C)) cd.mro := (PySem.W.looks_clsIn inK ecd).andThen .now
  have l3 : PySem.W.Looks (model prog w) hp (storeTaker? none) none := .now
  have lcd : PySem.W.Looks (model prog w) hp (classData C) cd := PySem.W.looks_clsIn inK ecd
  rw [PySem.W.osa_eq, refuse_eq]
  refine wpAny_bind (wpAny_bind (inst.type.at (wpAny_bind (lm.at ?_))))
  rw [rf.pass _]
  refine wpAny_pure (wpAny_bind (inst.type.at (wpAny_bind ((PySem.W.looks_findIn inK noF).at (wpAny_bind (l3.at ?_))))))
  show wpAny _ _ (storeInOwnDict (.ref x) (.ref C) (.str name tk) name v false) _ _ _
  obtain ⟨cn, cb, cm, cns, cq, chd, csn, csb, cab, ccol, cdel⟩ := cd
  dsimp only at edict
  subst edict
  unfold storeInOwnDict ownDictForStores
  repeat (first | with_reducible refine HandSPX.store_in_new ?_ ?_ | with_reducible refine wpAny_loadPart_at ox ?_ | with_reducible refine lcd.at ?_ | wp_step)
  · exact ⟨_, #[], _, (Heap.get?_update_ne _ _ _ _ apart.symm).trans (Heap.get?_push_at rfl rfl), rfl, fun e he => absurd he (by simp), fun _ => rfl⟩
  · intro h' tk' hn' hs
    have ox1 : (hp.push { cls := .type "dict", data := .dict #[] }).get? x = some { cls := .ref C, data := .fields fv } := Heap.get?_push_of_some _ ox
    refine fin h' tk' hp.objs.size (fun b o hb ho => ?_) (Nat.le_refl _) apart.symm ?_ hn'
    · exact (hs.2 b (Nat.ne_of_lt (Heap.lt_size ho))).trans ((Heap.get?_update_ne _ _ _ _ hb).trans (Heap.get?_push_of_some _ ho))
    · exact (hs.2 x apart).trans (Heap.get?_update_self _ ox1 rfl)
end
/-- what __init__(self, fld) leaves of a fresh exception at x -/
structure InitBehind (fld : Str) (h h' : Heap) (x C dx t1 : Addr) (v : Value) : Prop where
  keep : ∀ b o, b ≠ x → h.get? b = some o → h'.get? b = some o
  obj : h'.get? x = some { cls := .ref C, dict := some dx, data := .fields #[.ref t1, .none, .none, .none, .bool false, .none] }
  dbig : h.objs.size ≤ dx
  dne : dx ≠ x
  ns : h'.Ns1 dx (fun y => if y = fld then some v else none)
/-- a made exception -/
structure MadeX (fld : Str) (h h' : Heap) (e C d : Addr) (v : Value) : Prop where
  keep : ∀ b o, h.get? b = some o → h'.get? b = some o
  new : h.objs.size ≤ e
  obj : ∃ oe vs, h'.get? e = some oe ∧ oe.cls = .ref C ∧ oe.dict = some d ∧ oe.data = .fields vs ∧ vs[1]? = some .none
  dbig : h.objs.size ≤ d
  dne : d ≠ e
  ns : h'.Ns1 d (fun y => if y = fld then some v else none)
/-- what the written part says of a class -/
structure XCls (K : Frag) (mg : Str → Option Value) (cn : Str) (C : Addr) : Prop where
  gC : mg cn = some (.ref C)
  cls : ∃ nm q N bs bm sn sub ab col dd k0 k1 k2 k3 k5, K.lookup C = some (excClassObj nm q C N bs bm true sn sub ab col dd k0 k1 k2 k3 k5 "Exception.__new__") ∧ Refs bm
  kC : PySem.W.keepIn K (.ref C) = true
  exC : PySem.W.subIn K (.ref C) (.type "BaseException") = some true
  tyC : PySem.W.typeIn K (.ref C) = some (.type "type")
  hdC : PySem.W.hasDictIn K C = true
/-- with an __init__ at fI that stores one field -/
structure XOwn (K : Frag) (mg : Str → Option Value) (cn : Str) (C fI : Addr) (fld : Str) : Prop extends XCls K mg cn C where
  sa : PySem.W.findIn K (.ref C) "__setattr__" = some (some (.builtin "object.__setattr__"))
  noN : PySem.W.findIn K (.ref C) fld = some none
  iC : PySem.W.findIn K (.ref C) "__init__" = some (some (.ref fI))
  tC : PySem.W.typeIn K (.ref fI) = some (.type "function")
  init : ∀ {prog : Program} {w : World} {A : Around} {R : Result → Shared → Prop} {s : Shared} {x t0 : Addr} {v : Value}, K.In s.heap → s.heap.NoLimit → s.heap.get? x = some (HandSPX.excO C t0) → A.depth < recursionLimit →
    (∀ h' tk dx, InitBehind fld s.heap h' x C dx t0 v → R (.ok (.ret .none)) { s with heap := h', toks := tk }) → codeAny (model prog w) A (.call (.ref fI) ⟨[.ref x, v], []⟩) R s
theorem one_fits (v : Value) : [v].length ≤ sizeLine := by
  rw [sizeLine_eq]
  exact (by decide : 1 ≤ 16777216)
section
variable {prog : Program} {w : World} {A : Around} {E : Value → Shared → Prop} {R : Result → Shared → Prop} {s : Shared} {K : Frag} {mg : Str → Option Value} {C fI : Addr} {cn fld : Str}
theorem x_made (T : XOwn K mg cn C fI fld) {v : Value} (inK : K.In s.heap) (hlim : s.heap.NoLimit) (hroom : A.depth + 1 < recursionLimit)
    (hq : ∀ h' tk e d, MadeX fld s.heap h' e C d v → R (.ok (.ret (.ref e))) { s with heap := h', toks := tk }) : codeAny (model prog w) A (.call (.ref C) ⟨[v], []⟩) R s := by
  obtain ⟨nm, q, N, bs, bm, sn, sub, ab, col, dd, k0, k1, k2, k3, k5, hC, hbm⟩ := T.cls
  obtain ⟨hp, gg, dr, tk, os⟩ := s
  have up : ∀ b o, hp.get? b = some o → ((hp.push (PySem.W.kdv_tup [v])).push (HandSPX.excO C hp.objs.size)).get? b = some o := fun b o e => Heap.get?_push_of_some _ (Heap.get?_push_of_some _ e)
  have there : ((hp.push (PySem.W.kdv_tup [v])).push (HandSPX.excO C hp.objs.size)).get? (hp.objs.size + 1) = some (HandSPX.excO C hp.objs.size) := by heap_get
  refine HandSPX.call_own F.excBase_Exception (fun n => hbm.has n) (inK _ _ hC) (PySem.W.looks_findIn inK T.iC) (fun self => PySem.W.bind_fn inK self T.tC) (one_fits v) ?_
  refine T.init (s := ⟨(hp.push (PySem.W.kdv_tup [v])).push (HandSPX.excO C hp.objs.size), gg, dr, tk, os⟩) (inK.keeps up) (hlim.keeps up) there ?_ fun h' tk' dx ⟨k', hx, dn, dne, hns⟩ => ?_
  · show A.depth + 1 < recursionLimit
    exact hroom
  · have old : ∀ b o, hp.get? b = some o → h'.get? b = some o := fun b o e => k' b o (Nat.ne_of_lt (Nat.lt_succ_of_lt (Heap.lt_size e))) (up b o e)
    have z : hp.objs.size + 1 + 1 ≤ dx := by
      have q := dn
      simp only [Heap.size_push] at q
      exact q
    exact ⟨rfl, hq h' tk' (hp.objs.size + 1) dx ⟨old, Nat.le_succ _, ⟨_, _, hx, rfl, rfl, rfl, rfl⟩, (by show hp.objs.size ≤ dx; omega), dne, hns⟩⟩
end
theorem relO_one {v : V} {v' : Value} {fld : Str} (r : RelV v v') (f : Str) : RelO (List.lookup f [(fld, v)]) (if f = fld then some v' else none) := by
  by_cases hw : f = fld
  · subst hw
    rw [if_pos rfl]
    have q : List.lookup f [(f, v)] = some v := by simp [List.lookup]
    rw [q]
    exact r
  · rw [if_neg hw]
    have qw : (f == fld) = false := by simpa using hw
    have q2 : List.lookup f [(fld, v)] = none := by simp [List.lookup, qw]
    rw [q2]
    trivial
section
variable {X : Cx} {W : WX} {C fI : Addr} {cn fld : Str}
def tMkX (C : Addr) (fld : Str) (ta : TA) : L2.St → Hp → XK → Prop := fun σ H Q => ta σ H fun vs H1 => ∃ v, vs = [v] ∧ ∀ d, H1 d = none → Q (.ref C) (some d) (upd H1 d (.xd [(fld, v)]))
theorem pmk_x {a : Expr} {ta : TA} {p pos : Pos} {k : Nat} (T : XOwn X.K X.mg cn C fI fld) (hr : Room k X.A) (ha : PA X [a] ta) (hg : Gl X cn) (hdb : (cn == ("__debug__" : Str)) = false := by decide)
    (he : starEach (a :: []) X.env = (false, eval a X.env) :: starEach [] X.env := by rfl) (hpl : (backTo pos (starEach [] X.env)).any (·.1) = false := by rfl) : PMk X (.Call (.Name cn p) [a] [] pos) (tMkX C fld ta) := by
  intro pins s σ H Q I h
  refine wpAny_Call_Name_kw (ld_glob I hg T.gC ?_ hdb)
  refine PySem.W.callWith_K (h₀ := X.base) I.ok.mod.kin T.kC (thn (ha.run pos pins s σ H _ I h) fun us s1 hh => ?_) he hpl
  obtain ⟨vs, H1, I1, r1, v, ev, q1⟩ := hh
  subst ev
  refine ⟨I1.kIn, ?_⟩
  obtain ⟨u, rfl, rv⟩ := vals1 r1
  show wpAny _ _ (call (.ref C) [u]) _ _ _
  have nol := I1.nolimit
  obtain ⟨hp, g, dr, tk, os⟩ := s1
  refine wpAny_call (x_made T I1.kIn nol (by have := hr.dp; omega) fun h' tk' e d M => ?_)
  show MkP X pins σ Q (.ref e) ⟨h', g, dr, tk', os⟩
  obtain ⟨oe, fv, hoe, hc, hd, hdat, h1⟩ := M.obj
  obtain ⟨G', g1, g2⟩ := restrict h' fun b => decide (b ≠ e)
  have gk : ∀ b, b ≠ e → G'.get? b = h'.get? b := fun b hb => g1 b (decide_eq_true hb)
  have ge : G'.get? e = none := g2 e (by simp)
  have old : ∀ b o, hp.get? b = some o → G'.get? b = some o := fun b o q => (gk b (Nat.ne_of_lt (Nat.lt_of_lt_of_le (Heap.lt_size q) M.new))).trans (M.keep b o q)
  have ob : ObjOk X.prog X.w (upd H1 d (.xd [(fld, v)])) G' d (.xd [(fld, v)]) := ⟨_, M.ns.at (fun o q => (gk d M.dne).trans q), fun f => relO_one rv f⟩
  have J : Inv X pins σ (upd H1 d (.xd [(fld, v)])) ⟨G', g, dr, tk', os⟩ := I1.laid (t' := tk') old M.dbig ob
  refine ⟨e, oe, fv, ⟨G', g, dr, tk', os⟩, _, .ref C, some d, rfl, J, fun b o q => ?_, ge, hoe, ⟨hc, hd⟩, hdat, h1, ?_, rfl, I1.bare, raises_own T.exC T.tyC, q1 d (I1.hok.fresh M.dbig)⟩
  · by_cases hb : b = e
    · have q' : G'.get? b = some o := q
      rw [hb, ge] at q'
      cases q'
    · exact (gk b hb).symm.trans q
  · rw [upd_ne (Ne.symm M.dne)]
    exact I1.hok.fresh M.new
/-- raise C(e) -/
def sRaise (cn fld : Str) (ga : WA) : WS := fun ρ h D => ga ρ h (fun xs h1 => match xs with
  | [y] => D.ex ⟨cn, some (fld, y)⟩ ρ h1
  | _ => False) (exOf D ρ)
theorem SS.raise {a : Expr} {ga : WA} {p pos pos2 : Pos} {k : Nat} (hc : X.calm = true) (T : XOwn X.K X.mg cn C fI fld) (hr : Room k X.A) (tk : Takes X W) (ha : SA X W [a] ga) (hg : Gl X cn) (hdb : (cn == ("__debug__" : Str)) = false := by decide)
    (he : starEach (a :: []) X.env = (false, eval a X.env) :: starEach [] X.env := by rfl) (hpl : (backTo pos (starEach [] X.env)).any (·.1) = false := by rfl) :
    SS X W (.Raise (some (.Call (.Name cn p) [a] [] pos)) none pos2) (sRaise cn fld ga) := by
  obtain ⟨ta, pa, sa⟩ := ha
  refine ⟨_, ps_raise hc tk (pmk_x T hr pa hg hdb he hpl), fun σ H as ρ h D D' eR hR hq k => ?_⟩
  refine sa σ H as ρ h _ _ _ eR hR hq (fun xs h1 vs as1 H1 hq1 l1 r1 rv => ?_) (k.x eR)
  split at hq1
  · obtain ⟨v, rfl, r⟩ := relAll1 rv
    refine ⟨v, rfl, fun d hd => ?_⟩
    have l2 : Later as1 H1 as1 (upd H1 d (.xd [(fld, v)])) := Later.new _ hd
    have hda : d ∉ as1 := fun hm => by
      obtain ⟨u, e⟩ := r1.there hm
      rw [hd] at e
      cases e
    exact k.ex _ _ _ _ _ _ _ _ hq1 (l1.trans l2) (r1.new _ hd) (eR.later (l1.trans l2)) ⟨C, T.gC, rfl, d, v, rfl, hda, upd_same, r.later l2⟩
  · exact hq1.elim
end
/-! ### def __init__(self, fld): self.fld = fld -/
namespace XI
def iA (fld : Str) (p1 p2 : Pos) : Arguments := { posonlyargs := [], args := [{ arg := "self", annotation := none, pos := p1 }, { arg := fld, annotation := none, pos := p2 }], vararg := none, kwonlyargs := [], kw_defaults := [], kwarg := none, defaults := [] }
def iB (fld : Str) (q1 q2 q3 q4 : Pos) : List Stmt := [.Assign [.Attribute (.Name "self" q1) fld q2] (.Name fld q3) q4]
def iS (fld : Str) : Scope := { kind := .function, names := [(PySem.Str.ofString "self", .local), (fld, .local)], isGenerator := false, isCoroutine := false, more := [] }
end XI
def XInit (K : Frag) (fI : Addr) (fld qn : Str) : Prop := ∃ (oc : Value) (od : Option Addr) (doc pm : Value) (an : Option Addr) (cdv ct : Value) (osl : Array (Option Value)) (p1 p2 q1 q2 q3 q4 : Pos),
  K.lookup fI = some ⟨oc, od, .func (PySem.W.fnOf "__init__" qn (XI.iA fld p1 p2) (XI.iB fld q1 q2 q3 q4) (XI.iS fld) .none .none doc pm an cdv ct), osl⟩ ∧ PySem.W.codeIn K cdv qn = true
def XBind (fld : Str) : Prop := ∀ (qn : Str) (p1 p2 q1 q2 q3 q4 : Pos) (doc pm : Value) (an : Option Addr) (cdv ct a b : Value),
  bindArgs (PySem.W.fnOf "__init__" qn (XI.iA fld p1 p2) (XI.iB fld q1 q2 q3 q4) (XI.iS fld) .none .none doc pm an cdv ct) ⟨[a, b], []⟩ = pure ([(("self" : Str), a), (fld, b)] : List (Str × Value))
theorem xbind_at : XBind "at" := fun _ _ _ _ _ _ _ _ _ _ _ _ _ _ => by first | rfl | with_unfolding_all rfl
theorem xbind_word : XBind "word" := fun _ _ _ _ _ _ _ _ _ _ _ _ _ _ => by first | rfl | with_unfolding_all rfl
theorem xbind_name : XBind "name" := fun _ _ _ _ _ _ _ _ _ _ _ _ _ _ => by first | rfl | with_unfolding_all rfl
theorem read_local {M : Model} {s : Shared} {name : Str} {scope : Scope} {L a : Addr} {cd : Value} {m : Str → Option Value} {x : Str} {pos : Pos} {v : Value} {Q : Value → Shared → Prop} {A : Around} {E : Value → Shared → Prop} (hn : s.heap.Ns L m) (hv : m x = some v) (h : Q v s)
    (hk : scope.kind = .function) (hl : (envOfC name scope L a cd).kindOf x = some .local) (hd : (x == ("__debug__" : Str)) = false) : wpAny M A (eval (.Name x pos) (envOfC name scope L a cd)) Q E s :=
  wpAny_Name (wpAny_loadName_local hk hl hn hv h) hd
theorem x_init {K : Frag} {mg : Str → Option Value} {cn : Str} {C fI : Addr} {fld qn : Str} (T : XCls K mg cn C) (sa : PySem.W.findIn K (.ref C) "__setattr__" = some (some (.builtin "object.__setattr__"))) (noN : PySem.W.findIn K (.ref C) fld = some none)
    (fn : XInit K fI fld qn) (hbA : XBind fld) (hne : fld ≠ "self") (hdbg : (fld == ("__debug__" : Str)) = false)
    {prog : Program} {w : World} {A : Around} {R : Result → Shared → Prop} {s : Shared} {x t0 : Addr} {v : Value} (inK : K.In s.heap) (hlim : s.heap.NoLimit) (hx : s.heap.get? x = some (HandSPX.excO C t0)) (hroom : A.depth < recursionLimit)
    (hq : ∀ h' tk dx, InitBehind fld s.heap h' x C dx t0 v → R (.ok (.ret .none)) { s with heap := h', toks := tk }) : codeAny (model prog w) A (.call (.ref fI) ⟨[.ref x, v], []⟩) R s := by
  obtain ⟨oc, od, doc, pm, an, cdv, ct, osl, p1, p2, q1, q2, q3, q4, ho, hcd⟩ := fn
  obtain ⟨nm, q, N, bs, bm, sn, sub, ab, col, dd, k0, k1, k2, k3, k5, hC, hbm⟩ := T.cls
  have hcl : PySem.W.clsIn K C = some { name := nm, bases := bs, mro := .ref C :: bm, ns := N, qualname := q, hasDict := true, slotNames := sn, subclasses := sub, abstract := ab, collection := col, hasDel := false } := by unfold PySem.W.clsIn; rw [hC] <;> rfl
  have hns' : (("self" : Str) == fld) = false := by simpa using fun e => hne e.symm
  have hns2 : (fld == ("self" : Str)) = false := by simpa using hne
  have kS : (envOfC qn (XI.iS fld) s.heap.objs.size fI cdv).kindOf ("self" : Str) = some .local := rfl
  have kF : (envOfC qn (XI.iS fld) s.heap.objs.size fI cdv).kindOf fld = some .local := by
    show List.lookup fld [(PySem.Str.ofString "self", NameKind.local), (fld, NameKind.local)] = some .local
    have e2 : (fld == PySem.Str.ofString "self") = false := hns2
    simp [List.lookup, e2]
  refine Att.call_fn (binds := [("self", .ref x), (fld, v)]) inK hlim ho hcd hroom (BindsTo.of_eq ?b1) ?b2 (fun s₁ IC => ?_) rfl rfl rfl
  case b1 => exact hbA qn p1 p2 q1 q2 q3 q4 doc pm an cdv ct (.ref x) v
  case b2 =>
    have e1 : List.lookup (PySem.Str.ofString "self") (XI.iS fld).names = some .local := rfl
    have e2 : List.lookup fld (XI.iS fld).names = some .local := kF
    simp [e1, e2]
  obtain ⟨h₁, tk₁, rfl⟩ := IC.toInCall.same
  have kp : ∀ b o, s.heap.get? b = some o → h₁.get? b = some o := IC.toInCall.keep
  have hn := IC.toInCall.ns
  have inK1 : K.In h₁ := inK.keeps kp
  show wpAny _ _ (execs _ _) _ _ _
  refine wpAny_execs_cons (plainObj_wpAny_Assign_Attribute ?_)
  refine read_local (v := v) hn ?v1 (read_local (v := .ref x) hn ?v2 ?_ rfl kS (by decide)) rfl kF hdbg
  case v1 => simp [bindL, kS, kF]
  case v2 =>
    have e1 : ¬ PySem.Str.ofString "self" = fld := fun e => hne e.symm
    simp [bindL, kS, kF, e1]
  refine PySem.W.set_plain inK1 (ox := HandSPX.excO C t0) (od := none) ⟨kp _ _ hx, rfl, rfl, trivial⟩ sa ?_
  refine refs_osa inK1 (kp _ _ hx) hcl (.cons C hbm) rfl noN (fun h₃ tk₃ dx k₃ dn dne hx₃ hn₃ => ?_)
  show wpAny _ _ (execs _ _) _ _ _
  have z : s.heap.objs.size < h₁.objs.size := hn.lt
  exact wpAny_execs_nil (hq h₃ tk₃ dx ⟨fun b o hb e => k₃ b o hb (kp b o e), hx₃, by show s.heap.objs.size ≤ dx; have : h₁.objs.size ≤ dx := dn; omega, dne, hn₃⟩)

/-- all that is asked of a class with such an __init__ -/
theorem XOwn.mk' {K : Frag} {mg : Str → Option Value} {cn : Str} {C fI : Addr} {fld qn : Str} (T : XCls K mg cn C) (sa : PySem.W.findIn K (.ref C) "__setattr__" = some (some (.builtin "object.__setattr__"))) (noN : PySem.W.findIn K (.ref C) fld = some none)
    (iC : PySem.W.findIn K (.ref C) "__init__" = some (some (.ref fI))) (tC : PySem.W.typeIn K (.ref fI) = some (.type "function")) (fn : XInit K fI fld qn) (hbA : XBind fld) (hne : fld ≠ "self") (hdbg : (fld == ("__debug__" : Str)) = false) : XOwn K mg cn C fI fld :=
  { T with sa := sa, noN := noN, iC := iC, tC := tC, init := x_init T sa noN fn hbA hne hdbg }
end V2
set_option Elab.async false
set_option linter.all false
set_option maxRecDepth 100000
set_option maxHeartbeats 4000000
namespace V2
open PySem PySem.Spec PyProof.Rows L2
open PySem.W (Frag)

/-! ### try: body, except c as n: suite -/
theorem EnvR.none {K : Frag} {as : List Addr} {H : Hp} {ρ : En} {σ : L2.St} (h : EnvR K as H ρ σ) (i : Nat) (o : Option V) : EnvR K as H (ρ.set i none) (σ.set i o) := by
  refine ⟨by rw [List.length_set, List.length_set]; exact h.1, fun j y e => ?_⟩
  by_cases hj : i = j
  · subst hj
    by_cases hl : i < ρ.length
    · rw [List.getElem?_set_self hl] at e; cases e
    · rw [List.getElem?_eq_none (by simpa using hl)] at e; cases e
  · rw [List.getElem?_set_ne hj] at e
    obtain ⟨w, h1, h2⟩ := h.2 j y e
    exact ⟨w, by rw [List.getElem?_set_ne hj]; exact h1, h2⟩
/-- what a suite wants behind: nothing may leave it -/
def sufN (i : Nat) (D : Nx) : Nx := { nx := fun ρ h => D.nx (ρ.set i none) h, rt := D.rt, bk := fun ρ h => D.bk (ρ.set i none) h, ct := fun ρ h => D.ct (ρ.set i none) h, ex := fun _ _ _ => False }
/-- m: of a class's name, whether the clause takes it -/
def sTry (i : Nat) (m : Str → Option Bool) (f : WS) (sf : Ex → WS) : WS := fun ρ h D => f ρ h { D with ex := fun x ρ1 h1 => match m x.cls with
  | some true => i < ρ1.length ∧ sf x (ρ1.set i none) h1 (sufN i D)
  | some false => D.ex x ρ1 h1
  | none => False }
/-- the suite's soundness: slot i holds the exception x, at a -/
def SSuite (X : Cx) (i : Nat) (suite : List Stmt) (sf : Ex → WS) : Prop :=
  ∀ (a : Addr) (oe : Obj) (cls : Value) (d : Option Addr) (pn : List (Addr × Obj)), Zc cls d oe → (∃ vs, oe.data = .fields vs) →
    ∃ t, PSs (X.suite a ((a, oe) :: pn)) suite t ∧ ∀ x σ H as ρ h D D', EnvR X.K as H ρ σ → σ[i]? = some (some (.ref a)) → HeapR X.K as H h → ExR X.K X.mg as H cls d x → sf x ρ h D → STo X WF0 as H D D' → t D' σ H
/-- the canonical reading of a suite -/
def cSu (K : Frag) (mg : Str → Option Value) (i : Nat) (sf : Ex → WS) (X : Cx) (a : Addr) (cls : Value) (d : Option Addr) : TS := fun D' σ H => ∃ x as ρ h D, EnvR K as H ρ σ ∧ σ[i]? = some (some (.ref a)) ∧ HeapR K as H h ∧ ExR K mg as H cls d x ∧ sf x ρ h D ∧ STo X WF0 as H D D'
theorem pss_mono {X : Cx} {b : List Stmt} {t u : TS} (h : PSs X b t) (i : ∀ D σ H, u D σ H → t D σ H) : PSs X b u := ⟨fun pins s σ H D I q => h.run pins s σ H D I (i D σ H q)⟩
section
variable {X : Cx} {W : WX} {x n : Str} {c : Value} {i : Nat} {body suite : List Stmt} {b₀ : Stmt} {np pos pos' : Pos} {f : WS} {sf : Ex → WS} {m : Str → Option Bool}
theorem SS.tryAs (hs : X.stack = X.env :: X.outer) (hf : X.env.frame = some X.env.locals) (hN : X.N.Nodup) (hi : X.N[i]? = some n) (hln : X.env.kindOf n = some .local) (hc : Names X x c) (tk : Takes X W)
    (hm : ∀ nm C b, X.mg nm = some (.ref C) → m nm = some b → PySem.W.exmOne X.K (.ref C) c = some b)
    (hb : ∀ (W' : WX) (pn : List (Addr × Obj)) (xe : Value → Shared → Prop), Takes (X.tr pn xe) W' → PassesOwn (model X.prog X.w) X.A X.env xe → SB (X.tr pn xe) W' body f) (hsu : SSuite X i (b₀ :: suite) sf) :
    SS X W (.Try body [.ExceptHandler (some (.Name x np)) (some n) (b₀ :: suite) pos'] [] [] pos) (sTry i m f sf) := by
  -- the body's reading, for each wish
  let tb : WX → TS := fun W' => fun D' σ H => ∃ as ρ h D, EnvR X.K as H ρ σ ∧ HeapR X.K as H h ∧ f ρ h D ∧ STo X W' as H D D'
  refine ⟨_, ps_try_as (tb := tb) (ts := cSu X.K X.mg i sf X) (Wout := W) hs hf hN hi hln hc tk (fun W' pn xe tk' ho => ?_) (fun a oe cls d pn hz hd => ?_), fun σ H as ρ h D D' eR hR hq k => ?_⟩
  · obtain ⟨t, pt, st⟩ := hb W' pn xe tk' ho
    exact pss_mono pt fun D' σ H ⟨as, ρ, h, D, h1, h2, h3, h4⟩ => st σ H as ρ h D D' h1 h2 h3 ⟨h4.nx, h4.bk, h4.ct, h4.rt, h4.ex⟩
  · obtain ⟨t, pt, st⟩ := hsu a oe cls d pn hz hd
    exact pss_mono pt fun D' σ H ⟨x, as, ρ, h, D, h1, h2, h3, h4, h5, h6⟩ => st x σ H as ρ h D D' h1 h2 h3 h4 h5 h6
  · refine ⟨as, ρ, h, _, eR, hR, hq, ⟨k.nx, k.bk, k.ct, k.rt, ?_⟩⟩
    intro x ρ1 h1 cls dd σ1 as1 H1 q l1 r1 eR1 xr
    obtain ⟨C, g1, rfl, g3⟩ := id xr
    have q : (match m x.cls with
      | some true => i < ρ1.length ∧ sf x (ρ1.set i none) h1 (sufN i D)
      | some false => D.ex x ρ1 h1
      | none => False) := q
    split at q
    · rename_i em
      refine ⟨true, hm _ _ _ g1 em, fun _ a ha => ?_, fun z => Bool.noConfusion z⟩
      have hl : i < σ1.length := by rw [← eR1.1]; exact q.1
      refine ⟨x, as1, ρ1.set i none, h1, _, eR1.none i _, by rw [List.getElem?_set_self hl], r1, xr, q.2, ⟨?_, ?_, ?_, ?_, ?_⟩⟩
      · intro ρ2 h2 σ2 as2 H2 q2 l2 r2 eR2
        exact k.nx _ _ _ _ _ q2 (l1.trans l2) r2 (eR2.none i none)
      · intro ρ2 h2 σ2 as2 H2 q2 l2 r2 eR2
        exact k.bk _ _ _ _ _ q2 (l1.trans l2) r2 (eR2.none i none)
      · intro ρ2 h2 σ2 as2 H2 q2 l2 r2 eR2
        exact k.ct _ _ _ _ _ q2 (l1.trans l2) r2 (eR2.none i none)
      · intro y h2 v as2 H2 q2 l2 r2 rv
        exact k.rt _ _ _ _ _ q2 (l1.trans l2) r2 rv
      · intro x2 ρ2 h2 cls2 dd2 σ2 as2 H2 q2
        exact q2.elim
    · rename_i em
      exact ⟨false, hm _ _ _ g1 em, fun z => Bool.noConfusion z, fun _ => k.ex _ _ _ _ _ _ _ _ q l1 r1 eR1 xr⟩
    · exact q.elim
end

/-! ### in a suite: the held exception's field, and what it is one of -/
abbrev XE' := Ex → WE
section
variable (X : Cx) (i : Nat)
/-- slot i holds the exception -/
def Hold (a : Addr) (cls : Value) (d : Option Addr) (x : Ex) (σ : L2.St) (as : List Addr) (H : Hp) : Prop := σ[i]? = some (some (.ref a)) ∧ ExR X.K X.mg as H cls d x
def SXE (e : Expr) (fe : XE') : Prop := ∀ (a : Addr) (oe : Obj) (cls : Value) (d : Option Addr) (pn : List (Addr × Obj)), Zc cls d oe → (∃ vs, oe.data = .fields vs) →
  ∃ t, PE (X.suite a ((a, oe) :: pn)) e t ∧ ∀ x σ H as ρ h Q E QV, EnvR X.K as H ρ σ → HeapR X.K as H h → Hold X i a cls d x σ as H → fe x ρ h Q E → KTo X as H Q QV → t σ H QV
def SXT (e : Expr) (fe : Ex → WT) : Prop := ∀ (a : Addr) (oe : Obj) (cls : Value) (d : Option Addr) (pn : List (Addr × Obj)), Zc cls d oe → (∃ vs, oe.data = .fields vs) →
  ∃ t, PT (X.suite a ((a, oe) :: pn)) e t ∧ ∀ x σ H as ρ h Q E QV, EnvR X.K as H ρ σ → HeapR X.K as H h → Hold X i a cls d x σ as H → fe x ρ h Q E → TTo X as H Q QV → t σ H QV
def SXW (e : Expr) (fe : Ex → WT) : Prop := ∀ (a : Addr) (oe : Obj) (cls : Value) (d : Option Addr) (pn : List (Addr × Obj)), Zc cls d oe → (∃ vs, oe.data = .fields vs) →
  ∃ t, PW (X.suite a ((a, oe) :: pn)) e t ∧ ∀ x σ H as ρ h Q E QV, EnvR X.K as H ρ σ → HeapR X.K as H h → Hold X i a cls d x σ as H → fe x ρ h Q E → TTo X as H Q QV → t σ H QV
def SXA (e : List Expr) (fe : Ex → WA) : Prop := ∀ (a : Addr) (oe : Obj) (cls : Value) (d : Option Addr) (pn : List (Addr × Obj)), Zc cls d oe → (∃ vs, oe.data = .fields vs) →
  ∃ t, PA (X.suite a ((a, oe) :: pn)) e t ∧ ∀ x σ H as ρ h Q E QV, EnvR X.K as H ρ σ → HeapR X.K as H h → Hold X i a cls d x σ as H → fe x ρ h Q E → ATo X as H Q QV → t σ H QV
end
section
variable {X : Cx} {i : Nat} {a' : Expr} {n : Str} {pos p : Pos} {e b : Expr} {es rest : List Expr} {fe fb : XE'} {ga : Ex → WA} {ft gt : Ex → WT}
theorem Hold.later {a : Addr} {cls : Value} {d : Option Addr} {x : Ex} {σ : L2.St} {as as1 : List Addr} {H H1 : Hp} (l : Later as H as1 H1) (h : Hold X i a cls d x σ as H) : Hold X i a cls d x σ as1 H1 := ⟨h.1, h.2.later l⟩
/-- an expression without it -/
theorem SXE.lift {f : WE} (h : ∀ (a : Addr) (oe : Obj) (pn : List (Addr × Obj)), SE (X.suite a ((a, oe) :: pn)) WF0 e f) : SXE X i e (fun _ => fun ρ h Q E => f ρ h Q noX) := by
  intro a oe cls d pn hz hd
  obtain ⟨t, pt, st⟩ := h a oe pn
  exact ⟨t, pt, fun x σ H as ρ h Q E QV eR hR _ hq k => st σ H as ρ h Q noX QV eR hR hq k fun _ _ _ _ _ _ z => z.elim⟩
theorem suite_ret (he : SXE X i e fe) : SSuite X i [.Return (some e) pos] (fun x => sRet (fe x)) := by
  intro a oe cls d pn hz hd
  obtain ⟨t, pt, st⟩ := he a oe cls d pn hz hd
  refine ⟨_, pss_one (ps_ret pt), fun x σ H as ρ h D D' eR hs hR xr hq k => ?_⟩
  exact st x σ H as ρ h D.rt (exOf D ρ) D'.rt eR hR ⟨hs, xr⟩ hq fun y h' v as1 H' q l r rr => k.rt _ _ _ _ _ q l r rr
theorem suite_plain {st : List Stmt} {f : WS} (h : ∀ (a : Addr) (oe : Obj) (pn : List (Addr × Obj)), SB (X.suite a ((a, oe) :: pn)) WF0 st f) : SSuite X i st (fun _ => f) := by
  intro a oe cls d pn hz hd
  obtain ⟨t, pt, st⟩ := h a oe pn
  exact ⟨t, pt, fun x σ H as ρ h D D' eR hs hR xr hq k => st σ H as ρ h D D' eR hR hq ⟨k.nx, k.bk, k.ct, k.rt, k.ex⟩⟩
/-- e.f, e of the class cn -/
def xFld (cn f : Str) : XE' := fun x _ h Q _ => x.cls = cn ∧ ∃ y, x.fld = some (f, y) ∧ Q y h
theorem SXE.fld {C : Addr} {cn : Str} (T : XfC X.K C) (gC : X.mg cn = some (.ref C)) (f : Str) (hno : PySem.W.findIn X.K (.ref C) f = some none) (hN : X.N[i]? = some n) (hv : Vis X.env.scope n) (hd : (n == ("__debug__" : Str)) = false := by decide) (hcd : (n == ("__classdict__" : Str)) = false := by decide)
    (hb : attributeBase (.Name n p) f X.env (eval (.Name n p) X.env) = eval (.Name n p) X.env := by rfl) : SXE X i (.Attribute (.Name n p) f pos) (xFld cn f) := by
  intro a oe cls d pn hz hf
  refine ⟨_, pe_xf T hno hz hf (pe_var (i := i) hN hv hd hcd) hb, fun x σ H as ρ h Q E QV eR hR ho hq k => ?_⟩
  obtain ⟨ec, y, ef, q⟩ := hq
  obtain ⟨C', g1, g2, g3⟩ := ho.2
  rw [ec, gC] at g1
  cases g1
  rw [ef] at g3
  obtain ⟨dd, v, e1, e2, e3, e4⟩ := g3
  refine ⟨.ref a, ho.1, rfl, g2, dd, _, v, e1, e3, by simp [List.lookup], k.q hR q e4⟩
/-- isinstance(e, c), e of the class cn: b -/
structure XIs (K : Frag) (C : Addr) : Prop where
  ga : PySem.W.findIn K (.ref C) "__getattribute__" = some (some (.builtin "BaseException.__getattribute__"))
  gg : PySem.W.findIn K (.ref C) "__getattr__" = some none
  exC : PySem.W.subIn K (.ref C) (.type "BaseException") = some true
  hdC : PySem.W.hasDictIn K C = true
  ha : PySem.W.findIn K (.ref C) "__class__" = some (some (.builtin "object.__class__"))
  hn : PySem.W.specialIn K (.builtin "object.__class__") "__get__" = some (some (.builtin "getset_descriptor.__get__"))
  ht : PySem.W.takesIn K (.builtin "object.__class__") = some true
  hm : PySem.W.mroIn K C (.type "object") = some true
def xIsi (cn : Str) (b : Bool) : XE' := fun x _ h Q _ => x.cls = cn ∧ (x.fld.isSome = true) ∧ Q (.d (.bool b)) h
theorem SXE.isi {C : Addr} {cn c : Str} {cv : Value} {vc : V} {b : Bool} {p1 p2 p3 : Pos} (T : XIs X.K C) (gC : X.mg cn = some (.ref C)) (hg : Gl X "isinstance") (hm : X.mg "isinstance" = none) (hgc : Gl X c) (hmc : X.mg c = some cv) (rc : RelV vc cv) (uc : ∀ u, RelV vc u → u = cv) (ek : PySem.W.kitOne X.K (.ref C) cv = some b)
    (hN : X.N[i]? = some n) (hv : Vis X.env.scope n) (hd : (n == ("__debug__" : Str)) = false := by decide) (hcd : (n == ("__classdict__" : Str)) = false := by decide) (hdc : (c == ("__debug__" : Str)) = false := by decide)
    (he : starEach [.Name n p2, .Name c p3] X.env = (false, eval (.Name n p2) X.env) :: starEach [.Name c p3] X.env := by rfl) (he2 : starEach [.Name c p3] X.env = (false, eval (.Name c p3) X.env) :: starEach [] X.env := by rfl)
    (hpl : (backTo pos (starEach [.Name c p3] X.env)).any (·.1) = false := by rfl) : SXE X i (.Call (.Name "isinstance" p1) [.Name n p2, .Name c p3] [] pos) (xIsi cn b) := by
  intro a oe cls d pn hz hf
  have isi : CallR (X.suite a ((a, oe) :: pn)) (.builtin "isinstance") (fun xs H Q => xs = [.ref a, vc] ∧ cls = .ref C ∧ (∃ dd fs, d = some dd ∧ H dd = some (.xd fs)) ∧ Q (.bl b) H) := by
    intro pins s σ H xs us Q I r h
    obtain ⟨rfl, rfl, ⟨dd, fs, rfl, hx⟩, q⟩ := h
    obtain ⟨u1, u2, rfl, r1, r2⟩ := vals2 r
    cases r1
    have e2 := uc _ r2
    subst e2
    obtain ⟨hget, _⟩ := I.pin (a, oe) (List.mem_append_left _ List.mem_cons_self)
    obtain ⟨vs, hvs⟩ := hf
    have ox : ObjOk X.prog X.w H s.heap dd (.xd fs) := I.hok dd _ hx
    obtain ⟨mA, hns, _⟩ := ox
    obtain ⟨od, ho, _⟩ := lookIn_ns hns
    have J : PySem.W.InstAt s.heap a oe C (some od) := ⟨hget, hz.1, by unfold PySem.W.notCls; rw [hvs] <;> rfl, by rw [hz.2]; exact ho⟩
    exact PySem.W.kia_one (PySem.W.kitx_exc (by obtain ⟨cd, hc, _⟩ := PySem.W.any_some T.hdC; rw [hc]; rfl) T.ga T.gg T.exC T.ha T.hn T.ht T.hm) I.kIn J ek (fun z => nomatch z) fun tk => ⟨.bl b, H, I.kept (t' := tk) fun _ _ z => z, rfl, q⟩
  refine ⟨_, pe_callB isi hg hm (by decide +kernel) (pa_cons (pe_var (i := i) hN hv hd hcd) (pa_cons (pe_glob hgc hmc rc hdc) pa_nil he2) he) (hpl := hpl) (he := he), fun x σ H as ρ h Q E QV eR hR ho hq k => ?_⟩
  obtain ⟨ec, ef, q⟩ := hq
  obtain ⟨C', g1, g2, g3⟩ := ho.2
  rw [ec, gC] at g1
  cases g1
  obtain ⟨f, y⟩ := x.fld.get ef
  cases efx : x.fld with
  | none => rw [efx] at ef; cases ef
  | some fy =>
    obtain ⟨f, y⟩ := fy
    rw [efx] at g3
    obtain ⟨dd, v, e1, e2, e3, e4⟩ := g3
    exact ⟨.ref a, ho.1, rfl, g2, ⟨dd, _, e1, e3⟩, k.qd hR q (.bl b)⟩
theorem SXA.nil : SXA X i [] (fun _ => aNil) := fun a oe cls d pn hz hd => ⟨_, pa_nil, fun x σ H as ρ h Q E QV eR hR _ hq k => k _ _ _ _ _ hq (Later.refl _ _) hR .nil⟩
theorem SXA.cons (he : SXE X i e fe) (ha : SXA X i es ga) (hs : starEach (e :: es) X.env = (false, eval e X.env) :: starEach es X.env := by rfl) : SXA X i (e :: es) (fun x => aCons (fe x) (ga x)) := by
  intro a oe cls d pn hz hd
  obtain ⟨_, pe, se⟩ := he a oe cls d pn hz hd
  obtain ⟨_, pa, sa⟩ := ha a oe cls d pn hz hd
  refine ⟨_, pa_cons pe pa hs, fun x σ H as ρ h Q E QV eR hR ho hq k => ?_⟩
  refine se x σ H as ρ h _ E _ eR hR ho hq (fun y h1 v as1 H1 hq1 l1 r1 rv => ?_)
  refine sa x σ H1 as1 ρ h1 _ E _ (eR.later l1) r1 (ho.later l1) hq1 (fun xs h2 vs as2 H2 hq2 l2 r2 rvs => ?_)
  exact k _ _ _ _ _ hq2 (l1.trans l2) r2 (.cons (rv.later l2) rvs)
theorem SXE.tup {x1} (ha : SXA X i es ga) : SXE X i (.Tuple es x1 pos) (fun x => fTup (ga x)) := by
  intro a oe cls d pn hz hd
  obtain ⟨_, pa, sa⟩ := ha a oe cls d pn hz hd
  refine ⟨_, pe_tup pa, fun x σ H as ρ h Q E QV eR hR ho hq k => ?_⟩
  refine sa x σ H as ρ h _ E _ eR hR ho hq (fun xs h1 vs as1 H1 hq1 l1 r1 rv => ?_)
  split at hq1
  · rename_i ps ep
    have dv := rv.ofAllD ep
    exact ⟨by rw [dv.length]; exact hq1.1, fun p hp => (k.later l1).newTup r1 hq1.2 dv hp⟩
  · exact hq1.elim
theorem SXE.lst (ha : SXA X i es ga) : SXE X i (.List es pos) (fun x => fLst (ga x)) := by
  intro a oe cls d pn hz hd
  obtain ⟨_, pa, sa⟩ := ha a oe cls d pn hz hd
  refine ⟨_, pe_lst pa, fun x σ H as ρ h Q E QV eR hR ho hq k => ?_⟩
  refine sa x σ H as ρ h _ E _ eR hR ho hq (fun xs h1 vs as1 H1 hq1 l1 r1 rv => ?_)
  split at hq1
  · rename_i ps ep
    have dv := rv.ofAllD ep
    exact ⟨by rw [dv.length]; exact hq1.1, fun p hp => (k.later l1).newLst r1 hq1.2 dv hp⟩
  · exact hq1.elim
theorem SXT.val (he : SXE X i e fe) (hp : ∀ whole, isTrue e X.env whole = (do let v ← whole; standAt e.pos; holding [v] (truthy v)) := by intro _; rfl) : SXT X i e (fun x => tVal (fe x)) := by
  intro a oe cls d pn hz hd
  obtain ⟨_, pe, se⟩ := he a oe cls d pn hz hd
  refine ⟨_, pt_val pe hp, fun x σ H as ρ h Q E QV eR hR ho hq k => ?_⟩
  refine se x σ H as ρ h _ E _ eR hR ho hq (fun y h1 v as1 H1 hq1 l1 r1 rv => ?_)
  split at hq1
  · rw [rel_bl rv]
    exact ⟨_, rfl, k _ _ _ _ hq1 l1 r1⟩
  · exact hq1.elim
theorem SXT.not (he : SXT X i e ft) : SXT X i (.UnaryOp .Not e pos) (fun x => tNot2 (ft x)) := by
  intro a oe cls d pn hz hd
  obtain ⟨_, pe, se⟩ := he a oe cls d pn hz hd
  refine ⟨_, pt_not pe, fun x σ H as ρ h Q E QV eR hR ho hq k => ?_⟩
  exact se x σ H as ρ h _ E _ eR hR ho hq (fun y h1 as1 H1 hq1 l1 r1 => k _ _ _ _ hq1 l1 r1)
theorem SXW.and1 (he : SXT X i e ft) : SXW X i (.BoolOp .And [e] pos) ft := by
  intro a oe cls d pn hz hd
  obtain ⟨_, pe, se⟩ := he a oe cls d pn hz hd
  exact ⟨_, pw_and1 pe, se⟩
theorem SXW.and (he : SXT X i e ft) (hb : SXW X i (.BoolOp .And (b :: rest) pos) gt) : SXW X i (.BoolOp .And (e :: b :: rest) pos) (fun x => tAnd2 (ft x) (gt x)) := by
  intro a oe cls d pn hz hd
  obtain ⟨_, pe, se⟩ := he a oe cls d pn hz hd
  obtain ⟨_, pb, sb⟩ := hb a oe cls d pn hz hd
  refine ⟨_, pw_and pe pb, fun x σ H as ρ h Q E QV eR hR ho hq k => ?_⟩
  refine se x σ H as ρ h _ E _ eR hR ho hq (fun c h1 as1 H1 hq1 l1 r1 => ?_)
  cases c with
  | true => exact iteT (sb x σ H1 as1 ρ h1 Q E QV (eR.later l1) r1 (ho.later l1) hq1 (k.later l1))
  | false => exact iteF (k _ _ _ _ hq1 l1 r1)
theorem SXW.pt (h : SXW X i e ft) : SXT X i e ft := fun a oe cls d pn hz hd => let ⟨_, p, s⟩ := h a oe cls d pn hz hd; ⟨_, p.pt, s⟩
theorem SXE.ifE {c : Expr} (hc : SXT X i c ft) (he : SXE X i e fe) (hb : SXE X i b fb) : SXE X i (.IfExp c e b pos) (fun x => fIf (ft x) (fe x) (fb x)) := by
  intro a oe cls d pn hz hd
  obtain ⟨_, pc, sc⟩ := hc a oe cls d pn hz hd
  obtain ⟨_, pe, se⟩ := he a oe cls d pn hz hd
  obtain ⟨_, pb, sb⟩ := hb a oe cls d pn hz hd
  refine ⟨_, pe_ifExp pc pe pb, fun x σ H as ρ h Q E QV eR hR ho hq k => ?_⟩
  refine sc x σ H as ρ h _ E _ eR hR ho hq (fun c h1 as1 H1 hq1 l1 r1 => ?_)
  cases c with
  | true => exact iteT (se x σ H1 as1 ρ h1 Q E QV (eR.later l1) r1 (ho.later l1) hq1 (k.later l1))
  | false => exact iteF (sb x σ H1 as1 ρ h1 Q E QV (eR.later l1) r1 (ho.later l1) hq1 (k.later l1))
theorem SXE.bin {op : CmpOp} {rV : Cx → R2} {r : WR2} (ho' : ∀ X', OpR X' (compareOp op) (rV X')) (c : Cp2 X (rV X) r) (hK : ∀ X' : Cx, X'.K = X.K → rV X' = rV X) (he : SXE X i e fe) (hb : SXE X i b fb) (hm : behindInMarks op b = false) : SXE X i (.Compare e [op] [b] pos) (fun x => fBin r (fe x) (fb x)) := by
  intro a oe cls d pn hz hd
  obtain ⟨_, pe, se⟩ := he a oe cls d pn hz hd
  obtain ⟨_, pb, sb⟩ := hb a oe cls d pn hz hd
  refine ⟨_, pe_cmpR (ho' _) pe pb hm, fun x σ H as ρ h Q E QV eR hR ho hq k => ?_⟩
  rw [hK (X.suite a ((a, oe) :: pn)) rfl]
  refine se x σ H as ρ h _ E _ eR hR ho hq (fun y h1 v as1 H1 hq1 l1 r1 rv => ?_)
  refine sb x σ H1 as1 ρ h1 _ E _ (eR.later l1) r1 (ho.later l1) hq1 (fun z h2 w as2 H2 hq2 l2 r2 rw' => ?_)
  exact c y z h2 Q v w as2 H2 QV (rv.later l2) rw' r2 hq2 (k.later (l1.trans l2))
end
end V2
set_option Elab.async false
set_option linter.all false
set_option maxRecDepth 100000
set_option maxHeartbeats 4000000
namespace V2
open PySem PySem.Spec PyProof.Rows L2
open PySem.W (Frag)
/-- the script as data -/
def scriptD (ns : List Int) : D := .d (.list (ns.map PyData.int))
/-- the law over data: it says True, nothing is raised -/
def Says (F : WF) (ns : List Int) : Prop := F [scriptD ns] [] (fun y _ => y = .d (.bool true)) noX
theorem law_endG {P : Program} {w : World} {K : Frag} {mg mb : Str → Option Value} {k : Nat} {fa a : Addr} {fd : FuncData} {x : Str} {F : WF} {s₁ : Shared} {vs : List Value} {ns : List Int}
    (inK : K.In s₁.heap) (gns : s₁.heap.Ns mainGlobals mg) (gb : s₁.heap.Ns builtinsNs mb) (gbb : ∀ x : Str, x ≠ "__name__" → mb x = bootBuiltins x) (nol : s₁.heap.NoLimit) (gen : s₁.gens = #[])
    (oa : s₁.heap.get? a = some { cls := .type "list", data := .seq vs.toArray }) (hints : IntsAre vs ns) (hl : ns.length ≤ sizeLine) (hr : Room k callerA)
    (G : ∀ base : Heap, K.In base → base.Ns mainGlobals mg → FnG P w K mg base k fa fd [x] F) (bind1 : ∀ (s : Shared) (u : Value), BindsTo s fd ⟨[u], []⟩ [(x, u)]) (says : Says F ns) :
    codeAny (model P w) callerA (.call (.ref fa) ⟨[.ref a], []⟩) (fun r s' => r = .ok (.ret (.bool true)) ∧ OldK s₁.heap s'.heap ∧ s'.os = s₁.os ∧ AllBare s'.gens) s₁ := by
  have rv := vals_ints hints
  have main : ∀ H : Hp, Only H → LstR K [] H a (ns.map V.int) → HOk P w H s₁.heap → (∀ b, H b ≠ none → b = a) → (H a ≠ none → K.lookup a = none) →
      codeAny (model P w) callerA (.call (.ref fa) ⟨[.ref a], []⟩) (fun r s' => r = .ok (.ret (.bool true)) ∧ OldK s₁.heap s'.heap ∧ s'.os = s₁.os ∧ AllBare s'.gens) s₁ := by
    intro H only lst ok onlyA notK
    have noDict : ∀ {b : Addr} {o : Obj} {es : Array DictEntry} {ep : Nat}, s₁.heap.get? b = some o → o.data = .dict es ep → H b = none := by
      intro b o es ep e d
      refine Classical.byContradiction fun z => ?_
      rw [onlyA b z, oa] at e
      cases e
      cases d
    have nsH : ∀ {b : Addr} {m : Str → Option Value}, s₁.heap.Ns b m → (hidT s₁.heap H).Ns b m := by
      rintro b m ⟨o, es, ep, e, d, r⟩
      exact ⟨o, es, ep, hidT_get e (noDict e d), d, r⟩
    have baseK : K.In (hidT s₁.heap H) := by
      intro b o e
      refine hidT_get (inK b o e) (Classical.byContradiction fun z => ?_)
      have eb := onlyA b z
      subst eb
      rw [notK z] at e
      cases e
    obtain ⟨mc, nol1, nol2⟩ := id nol
    have md : Mod K mg (hidT s₁.heap H) := ⟨baseK, nsH gns, ⟨mb, nsH gb, gbb⟩, ⟨mc, nsH nol1, nol2⟩⟩
    have e0 : Env0 P w K mg (hidT s₁.heap H) callerA [] s₁ H := ⟨rfl, md, fun b o e => of_hidT e, Nat.le_of_eq (hidT_size _ _), trivial, fun b hb => absurd (show b ∈ ([] : List Addr) from hb) (by simp), ok, .of_eq gen⟩
    have sp : spD K mg 1 F [.ref a] H (fun v _ => v = .bl true) (fun _ _ _ => False) := by
      refine ⟨[], [scriptD ns], [], _, _, rfl, .cons (.d (.lst lst (DvAll.ints ns))) .nil, ⟨rfl, List.nodup_nil, fun i o b e => by simp at e⟩, says, fun y h' v as1 H1 q l r rr => ?_, fun x h' cls dd as1 H1 q => q.elim⟩
      subst q
      exact rel_bl rr
    refine codeAny_mono ((G _ baseK (nsH gns)).run callerA [] s₁ H ⟨[.ref a], []⟩ [.ref a] [.ref a] _ _ hr rfl e0 (bind1 s₁ (.ref a)) (.cons rfl .nil) sp) fun r s' h => ?_
    cases r with
    | error e =>
      obtain ⟨_, _, _, _, _, _, _, _, _, _, _, _, z⟩ := h
      exact z.elim
    | ok fl =>
      cases fl with
      | next => exact h.elim
      | brk => exact h.elim
      | cont => exact h.elim
      | ret u =>
        obtain ⟨v, H', os, bare, un, ok', r', q⟩ := h
        have q' : v = .bl true := q
        subst q'
        obtain rfl : u = Value.bool true := r'
        refine ⟨rfl, OldK.of_keep fun b o e => ?_, os, bare⟩
        rcases only b with z | ⟨ob, xs, z⟩
        · exact un.keep b o e z (by intro y; exact absurd (show b ∈ ([] : List Addr) from y) (by simp)) (by simp)
        · have z2 := un.frzs b ob _ z
          obtain ⟨e1, _⟩ := ok b _ z
          obtain ⟨e2, _⟩ := ok' b _ z2
          rw [e] at e1
          cases e1
          exact e2
  cases hk : K.lookup a with
  | some o =>
    have e := inK a o hk
    rw [oa] at e
    cases e
    refine main (fun _ => none) (fun _ => .inl rfl) (.inr ⟨_, vs.toArray, _, hk, rfl, rfl, rfl, by rw [List.size_toArray, hints.length]; exact hl, by simpa using rv⟩) (fun b u z => nomatch z) (fun b z => absurd rfl z) (fun z => absurd rfl z)
  | none =>
    have self : (fun b => if b = a then some (HO.frz { cls := .type "list", data := .seq vs.toArray } (.lst (ns.map V.int))) else none : Hp) a = some (.frz { cls := .type "list", data := .seq vs.toArray } (.lst (ns.map V.int))) := if_pos rfl
    refine main (fun b => if b = a then some (.frz { cls := .type "list", data := .seq vs.toArray } (.lst (ns.map V.int))) else none) (fun b => ?_) (.inl ⟨.inr ⟨_, self⟩, by simp⟩) (fun b u z => ?_) (fun b z => ?_) (fun _ => hk)
    · by_cases hb : b = a
      · subst hb; exact .inr ⟨_, _, self⟩
      · exact .inl (if_neg hb)
    · by_cases hb : b = a
      · subst hb
        rw [self] at z
        cases z
        exact ⟨oa, by rw [List.length_map]; exact hl, vs, _, rv, oa⟩
      · have z' : (none : Option HO) = some u := (if_neg hb).symm.trans z
        cases z'
    · exact Classical.byContradiction fun hb => z (if_neg hb)
/-- the goal that k_head leaves, from the law's reading over data -/
theorem walkG {l : PySem.W.OpenLaw} {n k : Nat} {q : Program} {loose : List Str} {XP : (Str → Option Value) → Heap → Prop} {YP : World → Heap → Prop} {d : DefRec} {K : Params → Frag} {F : WF} {x : Str}
    (hn : l.most = some n) (hn2 : n ≤ sizeLine) (hdf : d.params.defaults = []) (hr : Room k callerA) (hY : ∀ (w : World) (h : Heap), YP w h → (K w.params).In h)
    (all : ∀ (w : World) (mg : Str → Option Value) (fa : Addr) (h : Heap), (K w.params).In h → h.Ns mainGlobals mg → mg d.name = some (.ref fa) →
      ∃ fd : FuncData, (∀ (s : Shared) (u : Value), BindsTo s fd ⟨[u], []⟩ [(x, u)]) ∧ ∀ base : Heap, (K w.params).In base → base.Ns mainGlobals mg → FnG l.prog w (K w.params) mg base k fa fd [x] F)
    (says : ∀ ns : List Int, ns.length ≤ n → (∀ i ∈ ns, Builtin.Int.intBits i ≤ 1048576) → Says F ns) : PySem.W.WalkO q loose XP YP l.row.toRowW d [] (fun f vs => PySem.call f vs) := by
  refine Att.attach_callB hn hdf fun w s₀ s₁ mg mb fa o pm cd doc a vs ns G Y ho hd hcd hmg hobj hints hlen hbits hg => ?_
  have inK := hY w _ Y
  obtain ⟨fd, hb, hF⟩ := all w mg fa _ inK G.T.g hmg
  exact law_endG inK G.T.g G.T.b G.T.builtins G.T.nolimit hg hobj hints (Nat.le_trans hlen hn2) hr hF hb (says ns hlen hbits)
end V2
set_option Elab.async false
set_option linter.all false
set_option maxRecDepth 100000
set_option maxHeartbeats 4000000
namespace V2
open PySem PySem.Spec PyProof.Rows L2
open PySem.W (Frag)
section
variable {X : Cx} {W : WX} {a b c : Expr} {fa fb fc : WE} {pos : Pos} {ga : WA}
theorem relAll3 {K : Frag} {as : List Addr} {H : Hp} {vs : List V} {x y z : D} (r : RelAll K as H vs [x, y, z]) : ∃ u v w, vs = [u, v, w] ∧ Rel K as H u x ∧ Rel K as H v y ∧ Rel K as H w z := by
  cases r with | cons r t => cases t with | cons r2 t => cases t with | cons r3 t => cases t; exact ⟨_, _, _, rfl, r, r2, r3⟩
theorem SS.par3 (i j l : Nat) {x y z : Str} {px py pz pt : Pos} {kt k2 pt2} (hc : X.calm = true) (hN : X.N.Nodup) (hi : X.N[i]? = some x) (hj : X.N[j]? = some y) (hl : X.N[l]? = some z) (hij : i ≠ j) (hil : i ≠ l) (hjl : j ≠ l)
    (hx : X.env.scope.names.lookup x = some .local) (hy : X.env.scope.names.lookup y = some .local) (hz : X.env.scope.names.lookup z = some .local) (ha : SA X W [a, b, c] ga)
    (hw : swappedStores [.Tuple [.Name x px, .Name y py, .Name z pz] kt pt] (.Tuple [a, b, c] k2 pt2) X.env = pure (some [x, y, z]))
    (hs : swapsWithSole [.Tuple [.Name x px, .Name y py, .Name z pz] kt pt] (.Tuple [a, b, c] k2 pt2) pos.line X.env = pure false := by rfl) :
    SS X W (.Assign [.Tuple [.Name x px, .Name y py, .Name z pz] kt pt] (.Tuple [a, b, c] k2 pt2) pos) (sPar3 i j l ga) := by
  obtain ⟨_, p, s⟩ := ha
  refine ⟨_, ps_par3 hc hN hi hj hl hij hil hjl hx hy hz p hw hs, fun σ H as ρ h D D' eR hR hq k => ?_⟩
  refine s σ H as ρ h _ _ _ eR hR hq (fun xs h1 vs as1 H1 hq1 l1 r1 rv => ?_) (k.x eR)
  split at hq1
  · obtain ⟨u, v, w, rfl, r, r', r''⟩ := relAll3 rv
    exact ⟨u, v, w, rfl, k.nx _ _ _ _ _ hq1 l1 r1 ((((eR.later l1).set i r).set j r').set l r'')⟩
  · exact hq1.elim
/-- x += e, ints -/
theorem SS.augAdd {e : Expr} {fe : WE} (i : Nat) {x : Str} {pos' : Pos} (hN : X.N.Nodup) (hi : X.N[i]? = some x) (hx : Loc X.env.scope x) (he : SE X W e fe) (hf : X.fn x = true ∨ X.env.scope.names.lookup x = some .local := by first | exact .inl rfl | exact .inr rfl | assumption) :
    SS X W (.AugAssign (.Name x pos') .Add e pos) (sAug i (rInts (fun _ _ => True) fun i j => .int (i + j)) fe) := .aug i hN hi hx he iop_add (cp_ints0 fun _ _ _ _ _ => .int _) hf
theorem SS.augSub {e : Expr} {fe : WE} (i : Nat) {x : Str} {pos' : Pos} (hN : X.N.Nodup) (hi : X.N[i]? = some x) (hx : Loc X.env.scope x) (he : SE X W e fe) (hf : X.fn x = true ∨ X.env.scope.names.lookup x = some .local := by first | exact .inl rfl | exact .inr rfl | assumption) :
    SS X W (.AugAssign (.Name x pos') .Sub e pos) (sAug i (rInts (fun _ _ => True) fun i j => .int (i - j)) fe) := .aug i hN hi hx he iop_sub (cp_ints0 fun _ _ _ _ _ => .int _) hf
end
/-- a def's facts as they are found in the written part -/
structure DefAt (K : Frag) (mg : Str → Option Value) (x : Str) (st : Stmt) (f : Addr) (fd : FuncData) : Prop where
  F : Fun K x x st f fd
  gl : mg x = some (.ref f)
  kp : PySem.W.keepIn K (.ref f) = true
section
variable {P : Program} {w : World} {K : Frag} {mg : Str → Option Value} {base : Heap}
/-- a call's facts in short -/
theorem SE.fn {X : Cx} {W : WX} {k j : Nat} {f : Addr} {fd : FuncData} {ps : List Str} {F : WF} {x : Str} {st : Stmt} {p pos : Pos} {e : Expr} {es : List Expr} {ga : WA} (D : DefAt X.K X.mg x st f fd) (G : FnG X.prog X.w X.K X.mg X.base j f fd ps F)
    (hlen : ∀ xs ho Q E, F xs ho Q E → xs.length = ps.length) (hr : Room k X.A) (hj : j ≤ k) (hgu : X.A.guards = some []) (tk : Takes X W) (hg : Gl X x) (hb : Binds X.K fd ps []) (ha : SA X W (e :: es) ga) (hdb : (x == ("__debug__" : Str)) = false := by decide)
    (he : starEach (e :: es) X.env = (false, eval e X.env) :: starEach es X.env := by rfl) (hpl : (backTo pos (starEach es X.env)).any (·.1) = false := by rfl) : SE X W (.Call (.Name x p) (e :: es) [] pos) (fFn F ga) :=
  .call G hlen (hr.mono hj) hgu tk hg D.gl D.kp hb ha hdb he hpl
theorem SE.fnK {X : Cx} {W : WX} {k j : Nat} {f : Addr} {fd : FuncData} {ps : List Str} {F : WF} {x : Str} {st : Stmt} {p pos : Pos} {kws : List Keyword} {g : WA} {ks : List Str} {ix : List Nat} (D : DefAt X.K X.mg x st f fd) (G : FnG X.prog X.w X.K X.mg X.base j f fd ps F)
    (hlen : ∀ xs ho Q E, F xs ho Q E → xs.length = ps.length) (hr : Room k X.A) (hj : j ≤ k) (hgu : X.A.guards = some []) (tk : Takes X W) (hg : Gl X x) (hb : KwB X.K fd ps ks ix) (ha : SKw X W kws g)
    (hall : (backToKw pos (keywordEach kws X.env)).all (·.1.isSome) = true := by rfl) (hks : (backToKw pos (keywordEach kws X.env)).filterMap (·.1) = ks := by rfl) (hdb : (x == ("__debug__" : Str)) = false := by decide)
    (hpl : ((backTo pos (starEach [] X.env)).any (·.1) || (backToKw pos (keywordEach kws X.env)).any (·.1.isNone)) = false := by rfl) : SE X W (.Call (.Name x p) [] kws pos) (fFnK ix ks.length F g) :=
  .callK G hlen (hr.mono hj) hgu tk hg D.gl D.kp hb ha hall hks hdb hpl
end
end V2
namespace V2
open PySem PySem.Spec PyProof.Rows L2
open PySem.W (Frag)
section
variable {P : Program} {w : World} {K : Frag} {mg : Str → Option Value} {base : Heap} {N : List Str} {qual : Str} {sc : Scope} {f : Addr} {cdv : Value} {A : Around} {outer : List Env} {s : Shared} {H : Hp} {E : XK}
/-- in a def's body: what it lets out is taken; nothing stands in a loop's way -/
theorem tkD : Takes (cxOf (L2.CX P w) P w K mg base N qual sc f cdv A outer s H E) (fun cls d _ H' => E cls d H') := takes_of rfl rfl rfl rfl
theorem poD : PassesOwn (model P w) (cxOf (L2.CX P w) P w K mg base N qual sc f cdv A outer s H E).A (cxOf (L2.CX P w) P w K mg base N qual sc f cdv A outer s H E).env (cxOf (L2.CX P w) P w K mg base N qual sc f cdv A outer s H E).xe := passes_of rfl
theorem tk0 {X : Cx} : Takes X WF0 := takes0
end
end V2
namespace V2
open PySem PySem.Spec PyProof.Rows L2
open PySem.W (Frag)
/-- a clause that takes one class, and is reached by it alone -/
def only (cn : Str) (s : Str) : Option Bool := if s = cn then some true else none
theorem only_exm {K : Frag} {mg : Str → Option Value} {cn : Str} {C : Addr} (g : mg cn = some (.ref C)) (e : PySem.W.exmOne K (.ref C) (.ref C) = some true) : ∀ nm D b, mg nm = some (.ref D) → only cn nm = some b → PySem.W.exmOne K (.ref D) (.ref C) = some b := by
  intro nm D b h1 h2
  unfold only at h2
  split at h2
  · rename_i q
    subst q
    rw [g] at h1
    cases h1
    cases h2
    exact e
  · cases h2
end V2
set_option Elab.async false
set_option linter.all false
set_option maxRecDepth 100000
set_option maxHeartbeats 4000000
/-! ## Going through a reading, step by step -/
namespace V2
open PySem PySem.Spec PyProof.Rows L2
open PySem.W (Frag)

inductive GetAt : Nat → En → D → Prop
  | zero {d : D} {l : En} : GetAt 0 (some d :: l) d
  | succ {n : Nat} {a : Option D} {l : En} {d : D} : GetAt n l d → GetAt (n + 1) (a :: l) d
inductive SetAt : Nat → En → D → En → Prop
  | zero {a : Option D} {d : D} {l : En} : SetAt 0 (a :: l) d (some d :: l)
  | succ {n : Nat} {a : Option D} {d : D} {l l' : En} : SetAt n l d l' → SetAt (n + 1) (a :: l) d (a :: l')
theorem GetAt.eq {n : Nat} {l : En} {d : D} (h : GetAt n l d) : l[n]? = some (some d) := by
  induction h with
  | zero => rfl
  | succ _ ih => rw [List.getElem?_cons_succ]; exact ih
theorem SetAt.eq {n : Nat} {l l' : En} {d : D} (h : SetAt n l d l') : l.set n (some d) = l' := by
  induction h with
  | zero => rfl
  | succ _ ih => rw [List.set_cons_succ, ih]

inductive Pad : Nat → En → Prop
  | zero : Pad 0 []
  | succ {n : Nat} {l : En} : Pad n l → Pad (n + 1) (none :: l)
inductive Pre : List D → En → En → Prop
  | nil {l : En} : Pre [] l l
  | cons {x : D} {xs : List D} {l l' : En} : Pre xs l l' → Pre (x :: xs) l (some x :: l')
theorem Pad.eq {n : Nat} {l : En} (p : Pad n l) : l = List.replicate n none := by
  induction p with
  | zero => rfl
  | succ _ ih => rw [List.replicate_succ, ih]
theorem Pre.eq {xs : List D} {l l' : En} (p : Pre xs l l') : xs.map some ++ l = l' := by
  induction p with
  | nil => rfl
  | cons _ ih => rw [List.map_cons, List.cons_append, ih]

section
variable {ρ ρ1 ρ2 ρ3 : En} {h : Ho} {Q : KD} {E : XD} {d x y z : D} {fa fb : WE} {ga : WA} {r : WR2} {nx : En → Ho → Prop} {rt : KD} {bk ct : En → Ho → Prop} {ex : Ex → En → Ho → Prop} {f g : WS} {i j : Int} {t u : WT} {b : Bool} {QA : List D → Ho → Prop} {QT : Bool → Ho → Prop}
theorem i_var {n : Nat} (e : GetAt n ρ d) (k : Q d h) : fVar n ρ h Q E := by
  unfold fVar
  rw [e.eq]
  exact k
theorem i_c {p : PyData} (k : Q (.d p) h) : fC p ρ h Q E := k
theorem i_nil (k : QA [] h) : aNil ρ h QA E := k
theorem i_cons (k : fa ρ h (fun x h1 => ga ρ h1 (fun xs h2 => QA (x :: xs) h2) E) E) : aCons fa ga ρ h QA E := k
theorem i_bin (k : fa ρ h (fun x h1 => fb ρ h1 (fun y h2 => r x y h2 Q) E) E) : fBin r fa fb ρ h Q E := k
theorem i_ints {C : Int → Int → Prop} {gg : Int → Int → PyData} (c : C i j) (k : Q (.d (gg i j)) h) : rInts C gg (.d (.int i)) (.d (.int j)) h Q := ⟨c, k⟩
theorem i_ints0 {gg : Int → Int → PyData} (k : Q (.d (gg i j)) h) : rInts (fun _ _ => True) gg (.d (.int i)) (.d (.int j)) h Q := ⟨trivial, k⟩
theorem i_add (k : Q (.d (.int (i + j))) h) : rAdd2 (.d (.int i)) (.d (.int j)) h Q := k
theorem i_eqi (k : Q (.d (.bool (decide (i = j)))) h) : rEq2 (.d (.int i)) (.d (.int j)) h Q := k
theorem i_nei (k : Q (.d (.bool (!decide (i = j)))) h) : rNe2 (.d (.int i)) (.d (.int j)) h Q := k
theorem i_eqs {i j : Str} (k : Q (.d (.bool (decide (i = j)))) h) : rEq2 (.d (.str i)) (.d (.str j)) h Q := k
theorem i_nes {i j : Str} (k : Q (.d (.bool (!decide (i = j)))) h) : rNe2 (.d (.str i)) (.d (.str j)) h Q := k
theorem i_eqd {p q : PyData} (ex : datum h x = some p) (ey : datum h y = some q) (hp : SeqAt.shaped p = true) (hq : SeqAt.shaped q = true) (ni : (∀ i, x ≠ .d (.int i)) ∧ ∀ i, x ≠ .d (.str i)) (k : Q (.d (.bool (PyData.eqv p q))) h) : rEq2 x y h Q := by
  unfold rEq2
  split
  · exact (ni.1 _ rfl).elim
  · exact (ni.2 _ rfl).elim
  · rw [ex, ey]
    exact ⟨hp, hq, k⟩
theorem i_ned {p q : PyData} (ex : datum h x = some p) (ey : datum h y = some q) (hp : SeqAt.shaped p = true) (hq : SeqAt.shaped q = true) (ni : (∀ i, x ≠ .d (.int i)) ∧ ∀ i, x ≠ .d (.str i)) (k : Q (.d (.bool (!PyData.eqv p q))) h) : rNe2 x y h Q := by
  unfold rNe2
  split
  · exact (ni.1 _ rfl).elim
  · exact (ni.2 _ rfl).elim
  · rw [ex, ey]
    exact ⟨hp, hq, k⟩
theorem i_un {gg : Int → PyData} (k : fa ρ h (fun x h1 => ∃ i, x = .d (.int i) ∧ Q (.d (gg i)) h1) E) : fUn gg fa ρ h Q E := by
  have e : (fun (x : D) (h1 : Ho) => ∃ i, x = .d (.int i) ∧ Q (.d (gg i)) h1) = (fun x h1 => match x with
      | .d (.int i) => Q (.d (gg i)) h1
      | _ => False) := by
    funext x h1
    apply propext
    constructor
    · rintro ⟨i, rfl, q⟩; exact q
    · split
      · exact fun q => ⟨_, rfl, q⟩
      · exact False.elim
  rw [e] at k
  exact k
theorem i_val (k : fa ρ h (fun x h1 => ∃ b, x = .d (.bool b) ∧ QT b h1) E) : tVal fa ρ h QT E := by
  have e : (fun (x : D) (h1 : Ho) => ∃ b, x = .d (.bool b) ∧ QT b h1) = (fun x h1 => match x with
      | .d (.bool b) => QT b h1
      | _ => False) := by
    funext x h1
    apply propext
    constructor
    · rintro ⟨i, rfl, q⟩; exact q
    · split
      · exact fun q => ⟨_, rfl, q⟩
      · exact False.elim
  rw [e] at k
  exact k
theorem i_isb {P : Bool → Prop} (k : P b) : ∃ b', D.d (.bool b) = .d (.bool b') ∧ P b' := ⟨b, rfl, k⟩
theorem i_isi {P : Int → Prop} (k : P i) : ∃ i', D.d (.int i) = .d (.int i') ∧ P i' := ⟨i, rfl, k⟩
theorem i_isr {P : Int → Prop} (k : P i) : ∃ i', [D.d (.int i)] = [.d (.int i')] ∧ P i' := ⟨i, rfl, k⟩
theorem i_and2 (k : t ρ h (fun b h1 => if b = true then u ρ h1 QT E else QT false h1) E) : tAnd2 t u ρ h QT E := k
theorem i_or2 (k : t ρ h (fun b h1 => if b = true then QT true h1 else u ρ h1 QT E) E) : tOr2 t u ρ h QT E := k
theorem i_not2 (k : t ρ h (fun b h1 => QT (!b) h1) E) : tNot2 t ρ h QT E := k
theorem i_fif (k : t ρ h (fun b h1 => if b = true then fa ρ h1 Q E else fb ρ h1 Q E) E) : fIf t fa fb ρ h Q E := k
theorem i_ifT {p q : Prop} (e : b = true) (k : p) : if b = true then p else q := by rw [if_pos e]; exact k
theorem i_ifF {p q : Prop} (e : b = false) (k : q) : if b = true then p else q := by rw [e, if_neg (by decide)]; exact k
theorem i_ite {p q : Prop} (k1 : b = true → p) (k2 : b = false → q) : if b = true then p else q := by
  cases b with
  | true => rw [if_pos rfl]; exact k1 rfl
  | false => rw [if_neg (by decide)]; exact k2 rfl
theorem i_iteC {p C : Prop} (hC : C) (k : b = true → C → p) : if b = true then p else C := by
  cases b with
  | true => rw [if_pos rfl]; exact k rfl hC
  | false => rw [if_neg (by decide)]; exact hC
inductive AllD : List D → List PyData → Prop
  | nil : AllD [] []
  | cons {p : PyData} {xs : List D} {ps : List PyData} : AllD xs ps → AllD (.d p :: xs) (p :: ps)
theorem AllD.eq {xs : List D} {ps : List PyData} (a : AllD xs ps) : allD xs = some ps := by
  induction a with
  | nil => rfl
  | cons _ ih => simp only [allD, ih, Option.map_some, Option.bind_some]
theorem allD_iff : ∀ {xs : List D} {ps : List PyData}, allD xs = some ps → AllD xs ps
  | [], ps, e => by cases e; exact .nil
  | .d p :: xs, ps, e => by
    simp only [allD, Option.map_eq_some_iff] at e
    obtain ⟨qs, e1, rfl⟩ := e
    exact .cons (allD_iff e1)
  | .loc _ :: xs, ps, e => by cases e
theorem m_allD {P : List PyData → Ho → Prop} : (fun (xs : List D) (h1 : Ho) => ∃ ps, AllD xs ps ∧ P ps h1) = (fun xs h1 => match allD xs with
    | some ps => P ps h1
    | none => False) := by
  funext xs h1
  apply propext
  constructor
  · rintro ⟨ps, a, q⟩
    rw [a.eq]
    exact q
  · split
    · rename_i ps e
      exact fun q => ⟨ps, allD_iff e, q⟩
    · exact False.elim
theorem i_tup (k : ga ρ h (fun xs h1 => ∃ ps, AllD xs ps ∧ ps.length ≤ sizeLine ∧ Q (.d (.tuple ps)) h1) E) : fTup ga ρ h Q E := by
  rw [m_allD (P := fun ps h1 => ps.length ≤ sizeLine ∧ Q (.d (.tuple ps)) h1)] at k
  exact k
theorem i_lst (k : ga ρ h (fun xs h1 => ∃ ps, AllD xs ps ∧ ps.length ≤ sizeLine ∧ Q (.d (.list ps)) h1) E) : fLst ga ρ h Q E := by
  rw [m_allD (P := fun ps h1 => ps.length ≤ sizeLine ∧ Q (.d (.list ps)) h1)] at k
  exact k
theorem i_all {xs : List D} {ps : List PyData} {P : List PyData → Prop} (a : AllD xs ps) (l : ps.length ≤ sizeLine) (k : P ps) : ∃ ps, AllD xs ps ∧ ps.length ≤ sizeLine ∧ P ps := ⟨ps, a, l, k⟩
theorem i_loc (k : ga ρ h (fun xs h1 => xs.length ≤ sizeLine ∧ Q (.loc h1.length) (h1 ++ [.lst xs])) E) : fLoc ga ρ h Q E := k
/-- subscripts -/
theorem i_ix {xs : List D} (e : items h x = some xs) (ea : L2.atI xs i = some y) (k : Q y h) : rIx2 x (.d (.int i)) h Q := by
  simp only [rIx2, e, ea]
  exact k
/-- calls -/
theorem i_call {r : WR} (k : ga ρ h (fun xs h1 => r xs h1 Q) E) : fCall r ga ρ h Q E := k
theorem i_fn {F : WF} (k : ga ρ h (fun xs h1 => F xs h1 Q E) E) : fFn F ga ρ h Q E := k
theorem i_fnk {F : WF} {ix : List Nat} {n : Nat} (k : ga ρ h (fun xs h1 => xs.length = n ∧ ∃ ys, V2.pick ix xs = ys ∧ F ys h1 Q E) E) : fFnK ix n F ga ρ h Q E := by
  have e : (fun (xs : List D) (h1 : Ho) => xs.length = n ∧ ∃ ys, V2.pick ix xs = ys ∧ F ys h1 Q E) = (fun xs h1 => xs.length = n ∧ F (V2.pick ix xs) h1 Q E) := by
    funext xs h1
    apply propext
    exact ⟨fun ⟨a, ys, e, q⟩ => ⟨a, by rw [e]; exact q⟩, fun ⟨a, q⟩ => ⟨a, _, rfl, q⟩⟩
  rw [e] at k
  exact k
theorem i_pk1 {P : List D → Prop} (k : P [x]) : [x].length = 1 ∧ ∃ ys, V2.pick [0] [x] = ys ∧ P ys := ⟨rfl, _, rfl, k⟩
theorem i_pk2 {P : List D → Prop} (k : P [y, x]) : [x, y].length = 2 ∧ ∃ ys, V2.pick [1, 0] [x, y] = ys ∧ P ys := ⟨rfl, _, rfl, k⟩
theorem i_abs (k : Q (.d (.int (if i < 0 then -i else i))) h) : rAbs [.d (.int i)] h Q := k
theorem i_toint (k : Q (.d (.int i)) h) : rInt1 [.d (.int i)] h Q := k
theorem i_gcd (k : Q (.d (.int (Nat.gcd i.natAbs j.natAbs : Nat))) h) : rGcd2 [.d (.int i), .d (.int j)] h Q := k
theorem i_len {xs : List D} (e : items h x = some xs) (k : Q (.d (.int xs.length)) h) : rLen [x] h Q := by
  simp only [rLen, e]
  exact k
theorem i_repr {p : PyData} (hs : p.showable = true) (hd : p.depth < 60) (hz : p.shown.length ≤ sizeLine) (k : Q (.d (.str p.shown)) h) : rRepr [.d p] h Q := ⟨hs, hd, hz, k⟩
theorem i_fand (k : fa ρ h (fun x h1 => ∃ b, x = .d (.bool b) ∧ if b = true then fb ρ h1 Q E else Q (.d (.bool false)) h1) E) : fAnd fa fb ρ h Q E := by
  have e : (fun (x : D) (h1 : Ho) => ∃ b, x = .d (.bool b) ∧ if b = true then fb ρ h1 Q E else Q (.d (.bool false)) h1) = (fun x h1 => match x with
      | .d (.bool true) => fb ρ h1 Q E
      | .d (.bool false) => Q (.d (.bool false)) h1
      | _ => False) := by
    funext x h1
    apply propext
    constructor
    · rintro ⟨b, rfl, q⟩
      cases b with
      | true => simpa using q
      | false => simpa using q
    · split
      · exact fun q => ⟨true, rfl, by simpa using q⟩
      · exact fun q => ⟨false, rfl, by simpa using q⟩
      · exact False.elim
  rw [e] at k
  exact k
/-- statements -/
theorem i_mir {xs : List D} {n m : Nat} {l : En} (hl : xs.length = m) (p : Pad (n - m) l) (q : Pre xs l ρ) (k : f ρ h ⟨fun _ h => Q (.d .none) h, Q, fun _ _ => False, fun _ _ => False, fun x _ h => E x h⟩) : mir n m f xs h Q E := by
  refine ⟨hl, ?_⟩
  rw [← p.eq, q.eq]
  exact k
theorem i_seq (k : f ρ h ⟨fun ρ1 h1 => g ρ1 h1 ⟨nx, rt, bk, ct, ex⟩, rt, bk, ct, ex⟩) : sSeq f g ρ h ⟨nx, rt, bk, ct, ex⟩ := k
theorem i_next (k : nx ρ h) : sNext ρ h ⟨nx, rt, bk, ct, ex⟩ := k
theorem i_ret (k : fa ρ h rt (fun x h => ex x ρ h)) : sRet fa ρ h ⟨nx, rt, bk, ct, ex⟩ := k
theorem i_drop (k : fa ρ h (fun _ h1 => nx ρ h1) (fun x h => ex x ρ h)) : sDrop fa ρ h ⟨nx, rt, bk, ct, ex⟩ := k
theorem i_brk (k : bk ρ h) : sBrk ρ h ⟨nx, rt, bk, ct, ex⟩ := k
theorem i_cnt (k : ct ρ h) : sCnt ρ h ⟨nx, rt, bk, ct, ex⟩ := k
theorem i_if (k : t ρ h (fun b h1 => if b = true then f ρ h1 ⟨nx, rt, bk, ct, ex⟩ else g ρ h1 ⟨nx, rt, bk, ct, ex⟩) (fun x h => ex x ρ h)) : sIf t f g ρ h ⟨nx, rt, bk, ct, ex⟩ := k
theorem i_asgn {n : Nat} (k : fa ρ h (fun x h1 => ∃ ρ1, SetAt n ρ x ρ1 ∧ nx ρ1 h1) (fun x h => ex x ρ h)) (hn : n < ρ.length) : sAsg fa (gNm n) ρ h ⟨nx, rt, bk, ct, ex⟩ := by
  have e : (fun (x : D) (h1 : Ho) => ∃ ρ1, SetAt n ρ x ρ1 ∧ nx ρ1 h1) = fun x h1 => nx (ρ.set n (some x)) h1 := by
    funext x h1
    apply propext
    constructor
    · rintro ⟨ρ1, s, q⟩
      rw [s.eq]
      exact q
    · intro q
      refine ⟨_, ?_, q⟩
      clear k q
      induction n generalizing ρ with
      | zero =>
        cases ρ with
        | nil => exact absurd hn (by simp)
        | cons a l => exact .zero
      | succ n ih =>
        cases ρ with
        | nil => exact absurd hn (by simp)
        | cons a l => exact .succ (ih (by simpa using hn))
  rw [e] at k
  exact k
theorem i_set {n : Nat} {P : En → Prop} (s : SetAt n ρ x ρ1) (k : P ρ1) : ∃ ρ1, SetAt n ρ x ρ1 ∧ P ρ1 := ⟨ρ1, s, k⟩
/-- a, b = a pair -/
theorem i_asg2 {n m : Nat} (k : fa ρ h (fun x h1 => ∃ p q ρ1 ρ2, x = .d (.tuple [p, q]) ∧ SetAt n ρ (.d p) ρ1 ∧ SetAt m ρ1 (.d q) ρ2 ∧ nx ρ2 h1) (fun x h => ex x ρ h)) (mo : ∀ (P P' : KD), (∀ x h, P x h → P' x h) → fa ρ h P (fun x h => ex x ρ h) → fa ρ h P' (fun x h => ex x ρ h)) : sAsg fa (gTp 2 (gsCons (gNm n) (gsCons (gNm m) gsNil))) ρ h ⟨nx, rt, bk, ct, ex⟩ := by
  refine mo _ _ (fun x h1 => ?_) k
  rintro ⟨p, q, ρ1, ρ2, rfl, s1, s2, hq⟩
  have e : gTp 2 (gsCons (gNm n) (gsCons (gNm m) gsNil)) (.d (.tuple [p, q])) h1 ρ = some ρ2 := by
    simp only [gTp, items, List.map_cons, List.map_nil, List.length_cons, List.length_nil, if_true, gsCons, gNm, gsNil, Option.bind_some, s1.eq, s2.eq]
  rw [e]
  exact hq
theorem mo_var {n : Nat} (P P' : KD) (p : ∀ x h, P x h → P' x h) : fVar n ρ h P E → fVar n ρ h P' E := by
  unfold fVar
  split
  · exact p _ _
  · exact id
theorem i_asg2v {n m l : Nat} {p q : PyData} (e : GetAt l ρ (.d (.tuple [p, q]))) (s1 : SetAt n ρ (.d p) ρ1) (s2 : SetAt m ρ1 (.d q) ρ2) (k : nx ρ2 h) : sAsg (fVar l) (gTp 2 (gsCons (gNm n) (gsCons (gNm m) gsNil))) ρ h ⟨nx, rt, bk, ct, ex⟩ :=
  i_asg2 (i_var e ⟨p, q, ρ1, ρ2, rfl, s1, s2, k⟩) fun P P' hp => mo_var P P' hp
theorem i_par {n m : Nat} (k : ga ρ h (fun xs h1 => ∃ x y ρ1 ρ2, xs = [x, y] ∧ SetAt n ρ x ρ1 ∧ SetAt m ρ1 y ρ2 ∧ nx ρ2 h1) (fun x h => ex x ρ h)) (hn : n < ρ.length) (hm : m < ρ.length) : sPar n m ga ρ h ⟨nx, rt, bk, ct, ex⟩ := by
  have st : ∀ (n : Nat) (ρ : En) (x : D), n < ρ.length → SetAt n ρ x (ρ.set n (some x)) := by
    intro n
    induction n with
    | zero =>
      intro ρ x hn
      cases ρ with
      | nil => exact absurd hn (by simp)
      | cons a l => exact .zero
    | succ n ih =>
      intro ρ x hn
      cases ρ with
      | nil => exact absurd hn (by simp)
      | cons a l => exact .succ (ih _ _ (by simpa using hn))
  have e : (fun (xs : List D) (h1 : Ho) => ∃ x y ρ1 ρ2, xs = [x, y] ∧ SetAt n ρ x ρ1 ∧ SetAt m ρ1 y ρ2 ∧ nx ρ2 h1) = (fun xs h1 => match xs with
      | [x, y] => nx ((ρ.set n (some x)).set m (some y)) h1
      | _ => False) := by
    funext xs h1
    apply propext
    constructor
    · rintro ⟨x, y, ρ1, ρ2, rfl, s1, s2, hq⟩
      simp only
      rw [s1.eq, s2.eq]
      exact hq
    · split
      · intro hq
        exact ⟨_, _, _, _, rfl, st _ _ _ hn, st _ _ _ (by simpa using hm), hq⟩
      · exact False.elim
  rw [e] at k
  exact k
theorem i_pair {n m : Nat} {P : En → Prop} (s1 : SetAt n ρ x ρ1) (s2 : SetAt m ρ1 y ρ2) (k : P ρ2) : ∃ x' y' ρ1 ρ2, [x, y] = [x', y'] ∧ SetAt n ρ x' ρ1 ∧ SetAt m ρ1 y' ρ2 ∧ P ρ2 := ⟨x, y, ρ1, ρ2, rfl, s1, s2, k⟩
theorem i_par3 {n m l : Nat} (k : ga ρ h (fun xs h1 => ∃ x y z ρ1 ρ2 ρ3, xs = [x, y, z] ∧ SetAt n ρ x ρ1 ∧ SetAt m ρ1 y ρ2 ∧ SetAt l ρ2 z ρ3 ∧ nx ρ3 h1) (fun x h => ex x ρ h)) (hn : n < ρ.length) (hm : m < ρ.length) (hl : l < ρ.length) : sPar3 n m l ga ρ h ⟨nx, rt, bk, ct, ex⟩ := by
  have st : ∀ (n : Nat) (ρ : En) (x : D), n < ρ.length → SetAt n ρ x (ρ.set n (some x)) := by
    intro n
    induction n with
    | zero =>
      intro ρ x hn
      cases ρ with
      | nil => exact absurd hn (by simp)
      | cons a l => exact .zero
    | succ n ih =>
      intro ρ x hn
      cases ρ with
      | nil => exact absurd hn (by simp)
      | cons a l => exact .succ (ih _ _ (by simpa using hn))
  have e : (fun (xs : List D) (h1 : Ho) => ∃ x y z ρ1 ρ2 ρ3, xs = [x, y, z] ∧ SetAt n ρ x ρ1 ∧ SetAt m ρ1 y ρ2 ∧ SetAt l ρ2 z ρ3 ∧ nx ρ3 h1) = (fun xs h1 => match xs with
      | [x, y, z] => nx (((ρ.set n (some x)).set m (some y)).set l (some z)) h1
      | _ => False) := by
    funext xs h1
    apply propext
    constructor
    · rintro ⟨x, y, z, ρ1, ρ2, ρ3, rfl, s1, s2, s3, hq⟩
      simp only
      rw [s1.eq, s2.eq, s3.eq]
      exact hq
    · split
      · intro hq
        exact ⟨_, _, _, _, _, _, rfl, st _ _ _ hn, st _ _ _ (by simpa using hm), st _ _ _ (by simpa using hl), hq⟩
      · exact False.elim
  rw [e] at k
  exact k
theorem i_trip {n m l : Nat} {P : En → Prop} (s1 : SetAt n ρ x ρ1) (s2 : SetAt m ρ1 y ρ2) (s3 : SetAt l ρ2 z ρ3) (k : P ρ3) : ∃ x' y' z' ρ1 ρ2 ρ3, [x, y, z] = [x', y', z'] ∧ SetAt n ρ x' ρ1 ∧ SetAt m ρ1 y' ρ2 ∧ SetAt l ρ2 z' ρ3 ∧ P ρ3 := ⟨x, y, z, ρ1, ρ2, ρ3, rfl, s1, s2, s3, k⟩
theorem i_raise {cn fld : Str} (k : ga ρ h (fun xs h1 => ∃ y, xs = [y] ∧ ex ⟨cn, some (fld, y)⟩ ρ h1) (fun x h => ex x ρ h)) : sRaise cn fld ga ρ h ⟨nx, rt, bk, ct, ex⟩ := by
  have e : (fun (xs : List D) (h1 : Ho) => ∃ y, xs = [y] ∧ ex ⟨cn, some (fld, y)⟩ ρ h1) = (fun xs h1 => match xs with
      | [y] => ex ⟨cn, some (fld, y)⟩ ρ h1
      | _ => False) := by
    funext xs h1
    apply propext
    constructor
    · rintro ⟨j, rfl, hq⟩; exact hq
    · split
      · exact fun hq => ⟨_, rfl, hq⟩
      · exact False.elim
  rw [e] at k
  exact k
theorem i_one {P : D → Prop} (k : P x) : ∃ y, [x] = [y] ∧ P y := ⟨x, rfl, k⟩
/-- for -/
theorem for_ind {st : Ho → Prop} {wg : WG} {xs : List D} (I : Nat → En → Ho → Prop)
    (hs : ∀ k x ρ h (G : En → Ho → Prop), xs[k]? = some x → I k ρ h → (∀ ρ2 h2, I (k + 1) ρ2 h2 → G ρ2 h2) → ∃ ρ1, wg x h ρ = some ρ1 ∧ f ρ1 h ⟨fun ρ2 h2 => st h2 ∧ G ρ2 h2, rt, nx, fun ρ2 h2 => st h2 ∧ G ρ2 h2, ex⟩)
    (he : ∀ ρ h, I xs.length ρ h → nx ρ h) (h0 : I 0 ρ h) : forGo wg f ⟨nx, rt, bk, ct, ex⟩ st xs ρ h := by
  have aux : ∀ (ys : List D) (k : Nat), (∀ j, ys[j]? = xs[k + j]?) → k + ys.length = xs.length → ∀ ρ h, I k ρ h → forGo wg f ⟨nx, rt, bk, ct, ex⟩ st ys ρ h := by
    intro ys
    induction ys with
    | nil => intro k _ hl ρ h hi; exact he ρ h (by rw [← hl]; simpa using hi)
    | cons y ys ih =>
      intro k hj hl ρ h hi
      obtain ⟨ρ1, e1, e2⟩ := hs k y ρ h (fun ρ2 h2 => forGo wg f ⟨nx, rt, bk, ct, ex⟩ st ys ρ2 h2) (by rw [← Nat.add_zero k, ← hj 0]; rfl) hi (fun ρ2 h2 i2 => ih (k + 1) (fun j => by rw [Nat.add_assoc, Nat.add_comm 1 j, ← hj (j + 1)]; rfl) (by rw [← hl, List.length_cons]; omega) ρ2 h2 i2)
      unfold forGo
      rw [e1]
      exact e2
  exact aux xs 0 (fun j => by rw [Nat.zero_add]) (by simp) ρ h h0
theorem i_for {wi : WI} {wg : WG} (k : wi ρ h (fun xs st h1 => forGo wg f ⟨nx, rt, bk, ct, ex⟩ st xs ρ h1) (fun x h => ex x ρ h)) : sFor wi wg f ρ h ⟨nx, rt, bk, ct, ex⟩ := k
theorem i_range1 {QI : List D → (Ho → Prop) → Ho → Prop} (k : ga ρ h (fun ys h1 => ∃ j, ys = [.d (.int j)] ∧ -(2 ^ 62) ≤ j ∧ j < 2 ^ 62 ∧ QI (rangeD 0 j.toNat) (fun _ => True) h1) E) : iRange1 ga ρ h QI E := by
  have e : (fun (ys : List D) (h1 : Ho) => ∃ j, ys = [.d (.int j)] ∧ -(2 ^ 62) ≤ j ∧ j < 2 ^ 62 ∧ QI (rangeD 0 j.toNat) (fun _ => True) h1) = (fun ys h1 => match ys with
      | [.d (.int j)] => -(2 ^ 62) ≤ j ∧ j < 2 ^ 62 ∧ QI (rangeD 0 j.toNat) (fun _ => True) h1
      | _ => False) := by
    funext ys h1
    apply propext
    constructor
    · rintro ⟨j, rfl, hq⟩; exact hq
    · split
      · exact fun hq => ⟨_, rfl, hq⟩
      · exact False.elim
  rw [e] at k
  exact k
theorem i_iseq {QI : List D → (Ho → Prop) → Ho → Prop} {xs : List D} {n : Nat} (e : GetAt n ρ x) (ei : items h x = some xs) (k : QI xs (stay x xs) h) : iSeq (fVar n) ρ h QI E := by
  refine i_var e ?_
  simp only [ei]
  exact k
/-- comprehensions whose list is data: test and item leave the store alone -/
theorem lc_ind {st : Ho → Prop} {wg : WG} {tt : WT} {te : WE} {hb : Ho} {QH : Ho → Prop} {xs : List D} (I : Nat → List D → Prop) (hst : ∀ h, st h)
    (hs : ∀ k x acc, xs[k]? = some x → I k acc → ∃ ρ1 b, wg x (hb ++ [.lst acc]) ρ = some ρ1 ∧ (∀ P : Bool → Ho → Prop, P b (hb ++ [.lst acc]) → tt ρ1 (hb ++ [.lst acc]) P noX) ∧
      (b = true → ∃ y, (∀ P : KD, P y (hb ++ [.lst acc]) → te ρ1 (hb ++ [.lst acc]) P noX) ∧ acc.length < sizeLine ∧ I (k + 1) (acc ++ [y])) ∧ (b = false → I (k + 1) acc))
    (he : ∀ acc, I xs.length acc → QH (hb ++ [.lst acc])) (h0 : I 0 []) : lcGo wg tt te st hb.length ρ QH xs (hb ++ [.lst []]) := by
  have aux : ∀ (ys : List D) (k : Nat), (∀ j, ys[j]? = xs[k + j]?) → k + ys.length = xs.length → ∀ acc, I k acc → lcGo wg tt te st hb.length ρ QH ys (hb ++ [.lst acc]) := by
    intro ys
    induction ys with
    | nil => intro k _ hl acc hi; exact he acc (by rw [← hl]; simpa using hi)
    | cons y ys ih =>
      intro k hj hl acc hi
      obtain ⟨ρ1, b, e1, e2, e3, e4⟩ := hs k y acc (by rw [← Nat.add_zero k, ← hj 0]; rfl) hi
      have ihk := ih (k + 1) (fun j => by rw [Nat.add_assoc, Nat.add_comm 1 j, ← hj (j + 1)]; rfl) (by rw [← hl, List.length_cons]; omega)
      unfold lcGo
      rw [e1]
      refine e2 _ ?_
      cases b with
      | true =>
        rw [if_pos rfl]
        obtain ⟨z, f1, f2, f3⟩ := e3 rfl
        refine f1 _ ?_
        have g1 : (hb ++ [O.lst acc])[hb.length]? = some (.lst acc) := by simp
        have g2 : (hb ++ [O.lst acc]).set hb.length (.lst (acc ++ [z])) = hb ++ [.lst (acc ++ [z])] := by simp
        simp only [g1, g2]
        exact ⟨f2, hst _, ihk _ f3⟩
      | false =>
        rw [if_neg (by decide)]
        exact ⟨hst _, ihk _ (e4 rfl)⟩
  exact aux xs 0 (fun j => by rw [Nat.zero_add]) (by simp) [] h0
end
end V2
set_option Elab.async false
set_option linter.all false
set_option maxRecDepth 100000
set_option maxHeartbeats 4000000
/-! ## Fractions as data -/
namespace V2
open PySem PySem.Spec PyProof.Rows L2
abbrev fr (q : Rat) : PyData := .tuple [.int q.num, .int q.den]
theorem fr_shaped (q : Rat) : SeqAt.shaped (fr q) = true := rfl
theorem fr_noint (q : Rat) : ∀ i, fr q ≠ .int i := fun i e => by cases e
theorem fr_inj {a b : Rat} (h1 : a.num = b.num) (h2 : (a.den : Int) = b.den) : a = b := Rat.ext h1 (by exact_mod_cast h2)
theorem fr_eqv (a b : Rat) : PyData.eqv (fr a) (fr b) = decide (a = b) := by
  by_cases e : a = b
  · subst e
    simp [fr, PyData.eqv, PyData.eqvAll]
  · rw [decide_eq_false e]
    have : ¬ (a.num = b.num ∧ (a.den : Int) = b.den) := fun z => e (fr_inj z.1 z.2)
    simp only [fr, PyData.eqv, PyData.eqvAll, Bool.and_true, Bool.and_eq_false_iff, beq_eq_false_iff_ne, ne_eq]
    by_cases h1 : a.num = b.num
    · exact .inr fun z => this ⟨h1, z⟩
    · exact .inl h1
/-- no greater than n binary figures -/
def Sz (n : Nat) (q : Rat) : Prop := q.num.natAbs < 2 ^ n ∧ q.den < 2 ^ n
theorem log2_lt {k n : Nat} (hk : 0 < n) (h : k < 2 ^ n) : k.log2 < n := by
  by_cases z : k = 0
  · subst z; have e : Nat.log2 0 = 0 := by decide
    rw [e]; exact hk
  · exact (Nat.log2_lt z).mpr h
theorem Sz.mono {n m : Nat} {q : Rat} (s : Sz n q) (h : n ≤ m) : Sz m q :=
  ⟨Nat.lt_of_lt_of_le s.1 (Nat.pow_le_pow_right (by decide) h), Nat.lt_of_lt_of_le s.2 (Nat.pow_le_pow_right (by decide) h)⟩
theorem Sz.neg {n : Nat} {q : Rat} (s : Sz n q) : Sz n (-q) := ⟨by rw [Rat.neg_num, Int.natAbs_neg]; exact s.1, by rw [Rat.neg_den]; exact s.2⟩
theorem mul_lt_pow {a b n m : Nat} (h1 : a < 2 ^ n) (h2 : b < 2 ^ m) : a * b < 2 ^ (n + m) := by
  rw [Nat.pow_add]
  exact Nat.mul_lt_mul'' h1 h2
theorem Sz.mk' {n : Nat} {p : Int} {q : Nat} (z : q ≠ 0) (h1 : p.natAbs < 2 ^ n) (h2 : q < 2 ^ n) : Sz n (mkRat p q) := by
  unfold Sz
  rw [Rat.num_mkRat, Rat.den_mkRat, if_neg z, if_neg z]
  refine ⟨?_, Nat.lt_of_le_of_lt (Nat.div_le_self _ _) h2⟩
  rw [Int.natAbs_ediv_of_dvd (Int.ofNat_dvd_left.2 (Nat.gcd_dvd_right _ _)), Int.natAbs_natCast]
  exact Nat.lt_of_le_of_lt (Nat.div_le_self _ _) h1
theorem den_mul_ne (a b : Rat) : a.den * b.den ≠ 0 := Nat.mul_ne_zero a.den_nz b.den_nz
theorem add_mk (a b : Rat) : a + b = mkRat (a.num * b.den + b.num * a.den) (a.den * b.den) := by
  conv => lhs; rw [← Rat.mkRat_self a, ← Rat.mkRat_self b, Rat.mkRat_add_mkRat _ _ a.den_nz b.den_nz]
theorem mul_mk (a b : Rat) : a * b = mkRat (a.num * b.num) (a.den * b.den) := by
  conv => lhs; rw [← Rat.mkRat_self a, ← Rat.mkRat_self b, Rat.mkRat_mul_mkRat]
theorem Sz.mul {n m : Nat} {a b : Rat} (s : Sz n a) (t : Sz m b) : Sz (n + m) (a * b) := by
  rw [mul_mk]
  exact .mk' (den_mul_ne a b) (by rw [Int.natAbs_mul]; exact mul_lt_pow s.1 t.1) (mul_lt_pow s.2 t.2)
theorem Sz.add {n m : Nat} {a b : Rat} (s : Sz n a) (t : Sz m b) : Sz (n + m + 1) (a + b) := by
  rw [add_mk]
  have h1 : (a.num * b.den).natAbs < 2 ^ (n + m) := by rw [Int.natAbs_mul]; exact mul_lt_pow s.1 t.2
  have h2 : (b.num * a.den).natAbs < 2 ^ (n + m) := by rw [Int.natAbs_mul, Nat.mul_comm]; exact mul_lt_pow s.2 t.1
  have h3 := Int.natAbs_add_le (a.num * b.den) (b.num * a.den)
  have h4 := mul_lt_pow s.2 t.2
  exact .mk' (den_mul_ne a b) (by rw [Nat.pow_succ]; omega) (by rw [Nat.pow_succ]; omega)
theorem Sz.sub {n m : Nat} {a b : Rat} (s : Sz n a) (t : Sz m b) : Sz (n + m + 1) (a - b) := by
  rw [Rat.sub_eq_add_neg]
  exact s.add t.neg
/-! ### the text of data made of ints -/
theorem shown_int_len {i : Int} {n : Nat} (h0 : 0 < n) (h : i.natAbs < 2 ^ n) : (PyData.int i).shown.length ≤ n + 1 := by
  have e := int_text_length_le10 (k := n) h0 (Nat.lt_of_lt_of_le h (Nat.pow_le_pow_left (by decide) n))
  show (Str.ofString (toString i)).length ≤ n + 1
  rw [PySem.ofString_length]; exact e
theorem fr_leaves {q : Rat} {n : Nat} (h0 : 0 < n) (s : Sz n q) : PyData.leavesShort (n + 1) (fr q) = true := by
  simp only [fr, PyData.leavesShort, PyData.leavesShortAll, Bool.and_true, Bool.and_eq_true, decide_eq_true_eq]
  exact ⟨shown_int_len h0 s.1, shown_int_len h0 (by simpa using s.2)⟩
theorem fr_showable {q : Rat} {n : Nat} (h0 : 0 < n) (hn : n ≤ 1920) (s : Sz n q) : (fr q).showable = true := by
  have h1 := log2_lt h0 s.1
  have h2 := log2_lt h0 s.2
  simp only [fr, PyData.showable, PyData.showableAll, Bool.and_true, Bool.and_eq_true, decide_eq_true_eq, Int.natAbs_natCast]
  omega
theorem fr_len {q : Rat} {n : Nat} (h0 : 8 ≤ n) (hn : n ≤ 1920) (s : Sz n q) : (fr q).shown.length ≤ sizeLine := by
  have h := PyData.shown_le_bulk (n + 1) (by omega) (fr q) (fr_leaves (by omega) s)
  have e : (fr q).bulk = 2 := rfl
  rw [e] at h
  have : sizeLine = 2 ^ 24 := rfl
  omega
/-! ### quotients -/
theorem fdiv_nat (i : Int) (k : Nat) : i.fdiv k = i / (k : Int) := Int.fdiv_eq_ediv_of_nonneg i (Int.natCast_nonneg k)
theorem natAbs_div_le (i : Int) {k : Nat} (h : (k : Int) ∣ i) : (i / (k : Int)).natAbs ≤ i.natAbs := by
  rw [Int.natAbs_ediv_of_dvd h, Int.natAbs_natCast]
  exact Nat.div_le_self _ _
theorem cdiv_nat {i : Int} {k n : Nat} (h0 : k ≠ 0) (hn : 0 < n) (h : k < 2 ^ n) (h2 : n ≤ 9000) : CDivA i (k : Int) := by
  refine ⟨by exact_mod_cast h0, ?_⟩
  rw [Int.natAbs_natCast]
  exact Nat.lt_of_lt_of_le (log2_lt hn h) h2
theorem cmul {i j : Int} {n : Nat} (hn : 0 < n) (h1 : i.natAbs < 2 ^ n) (h2 : j.natAbs < 2 ^ n) (h : n ≤ 9000) : CMulW i j := by
  have a := log2_lt hn h1
  have b := log2_lt hn h2
  unfold CMulW
  omega
/-- what is told as top and bottom, in lowest terms -/
theorem low_eq {p : Int} {q : Nat} (h : q ≠ 0) : fr (mkRat p q) = .tuple [.int (p.fdiv (Nat.gcd p.natAbs q : Nat)), .int ((q : Int).fdiv (Nat.gcd p.natAbs q : Nat))] := by
  unfold fr
  rw [Rat.num_mkRat, Rat.den_mkRat, if_neg h, if_neg h, fdiv_nat, fdiv_nat, Nat.gcd_comm q p.natAbs, Int.natCast_ediv]
end V2
set_option Elab.async false
set_option linter.all false
set_option maxRecDepth 100000
set_option maxHeartbeats 4000000
namespace V2
def big : Nat := 4000
open PySem PySem.Spec PyProof.Rows L2
theorem plus_eq (a b : Rat) {g g2 : Nat} {t s' top : Int} (hg : g = Nat.gcd a.den b.den) (ht : t = (a.den : Int).fdiv (g : Nat)) (hs : s' = (b.den : Int).fdiv (g : Nat)) (htop : top = a.num * s' + b.num * t) (hg2 : g2 = Nat.gcd top.natAbs g) :
    fr (a + b) = .tuple [.int (top.fdiv (g2 : Nat)), .int (t * (b.den : Int).fdiv (g2 : Nat))] := by
  have hq := Nat.pos_of_ne_zero a.den_nz
  have hb := Nat.pos_of_ne_zero b.den_nz
  have gp : 0 < g := by rw [hg]; exact Nat.gcd_pos_of_pos_left _ hq
  obtain ⟨q', eq⟩ : g ∣ a.den := by rw [hg]; exact Nat.gcd_dvd_left _ _
  obtain ⟨r', er⟩ : g ∣ b.den := by rw [hg]; exact Nat.gcd_dvd_right _ _
  have e1 : a.den / g = q' := by rw [eq, Nat.mul_div_cancel_left _ gp]
  have e2 : b.den / g = r' := by rw [er, Nat.mul_div_cancel_left _ gp]
  have t1 : t = (q' : Int) := by rw [ht, fdiv_nat, ← Int.natCast_ediv, e1]
  have s1 : s' = (r' : Int) := by rw [hs, fdiv_nat, ← Int.natCast_ediv, e2]
  have aux := Rat.add.aux a b hg rfl rfl
  rw [e1, e2] at aux
  simp only at aux
  have htop' : top = a.num * (r' : Int) + b.num * (q' : Int) := by rw [htop, s1, t1]
  rw [← htop', ← hg2] at aux
  have q'p : 0 < q' := Nat.pos_of_ne_zero fun z => by subst z; simp at eq; omega
  have dn : q' * b.den ≠ 0 := Nat.mul_ne_zero (by omega) (by omega)
  have ev : a + b = mkRat top (q' * b.den) := by
    rw [add_mk, Rat.mkRat_eq_iff (den_mul_ne a b) dn, htop', eq, er]
    simp only [Int.natCast_mul]
    grind
  rw [ev, low_eq dn, ← aux, t1]
  congr 3
  have d2 : g2 ∣ b.den := by rw [hg2]; exact Nat.dvd_trans (Nat.gcd_dvd_right _ _) ⟨r', er⟩
  rw [fdiv_nat, fdiv_nat, ← Int.natCast_ediv, ← Int.natCast_ediv, Nat.mul_div_assoc _ d2, Int.natCast_mul]
theorem divExact_eq (i : Int) {k : Int} (h : k ∣ i) : i.divExact k h = i / k := by
  exact Int.divExact_eq_ediv h
theorem times_eq (a b : Rat) {g1 g2 : Nat} (h1 : g1 = Nat.gcd a.num.natAbs b.den) (h2 : g2 = Nat.gcd b.num.natAbs a.den) :
    fr (a * b) = .tuple [.int ((a.num.fdiv (g1 : Nat)) * (b.num.fdiv (g2 : Nat))), .int (((a.den : Int).fdiv (g2 : Nat)) * ((b.den : Int).fdiv (g1 : Nat)))] := by
  show fr (Rat.mul a b) = _
  rw [Rat.mul.eq_1]
  unfold fr
  simp only [Int.divExact_eq_ediv, Nat.divExact_eq_div, fdiv_nat, ← h1, ← h2, Int.natCast_mul, Int.natCast_ediv]
theorem neg_eq (a : Rat) : fr (-a) = .tuple [.int (-a.num), .int a.den] := by
  unfold fr
  rw [Rat.neg_num, Rat.neg_den]
theorem inv_pos (b : Rat) (h : 0 < b.num) : fr b⁻¹ = .tuple [.int b.den, .int b.num] := by
  show fr (Rat.inv b) = _
  rw [Rat.inv.eq_1, dif_neg (by omega), dif_pos h]
  unfold fr
  simp only [Int.natAbs_of_nonneg (Int.le_of_lt h)]
theorem inv_neg (b : Rat) (h : b.num < 0) : fr b⁻¹ = .tuple [.int (-b.den), .int (-b.num)] := by
  show fr (Rat.inv b) = _
  rw [Rat.inv.eq_1, dif_pos h]
  unfold fr
  simp only [Int.ofNat_natAbs_of_nonpos (Int.le_of_lt h)]
theorem Sz.inv {n : Nat} {b : Rat} (s : Sz n b) (h : b ≠ 0) : Sz n b⁻¹ := by
  have hz : b.num ≠ 0 := fun z => h (Rat.num_eq_zero.1 z)
  show Sz n (Rat.inv b)
  rw [Rat.inv.eq_1]
  by_cases c : b.num < 0
  · rw [dif_pos c]
    exact ⟨by show (-(b.den : Int)).natAbs < _; rw [Int.natAbs_neg, Int.natAbs_natCast]; exact s.2, s.1⟩
  · rw [dif_neg c, dif_pos (by omega)]
    exact ⟨by show ((b.den : Int)).natAbs < _; rw [Int.natAbs_natCast]; exact s.2, s.1⟩
theorem Sz.div {n m : Nat} {a b : Rat} (s : Sz n a) (t : Sz m b) (h : b ≠ 0) : Sz (n + m) (a / b) := by
  rw [Rat.div_def]
  exact s.mul (t.inv h)
theorem num_zero {b : Rat} : b.num = 0 ↔ b = 0 := Rat.num_eq_zero
theorem v_fdiv_le (i : Int) (k : Nat) : (i.fdiv (k : Int)).natAbs ≤ i.natAbs := by
  rw [fdiv_nat]
  exact Int.natAbs_ediv_le_natAbs i k
theorem cmulw {i j : Int} {n : Nat} (hn : 0 < n) (h1 : i.natAbs < 2 ^ n) (h2 : j.natAbs < 2 ^ n) (h : n ≤ 9000) : CMulW i j := by
  have a := log2_lt hn h1
  have b := log2_lt hn h2
  unfold CMulW
  omega
theorem cdiv_gr {i : Int} {m k n : Nat} (h0 : k ≠ 0) (hn : 0 < n) (h : k < 2 ^ n) (h2 : n ≤ 9000) : CDivA i ((Nat.gcd m k : Nat) : Int) :=
  cdiv_nat (fun z => h0 (Nat.eq_zero_of_gcd_eq_zero_right z)) hn (Nat.lt_of_le_of_lt (Nat.gcd_le_right m (Nat.pos_of_ne_zero h0)) h) h2
theorem gcd_ne {m k : Nat} (h0 : k ≠ 0) : Nat.gcd m k ≠ 0 := fun z => h0 (Nat.eq_zero_of_gcd_eq_zero_right z)
theorem gcd_lt {m k n : Nat} (h0 : k ≠ 0) (h : k < 2 ^ n) : Nat.gcd m k < 2 ^ n := Nat.lt_of_le_of_lt (Nat.gcd_le_right m (Nat.pos_of_ne_zero h0)) h
theorem nab (k : Nat) : (k : Int).natAbs = k := Int.natAbs_natCast k
end V2
set_option Elab.async false
set_option linter.all false
set_option maxRecDepth 100000
set_option maxHeartbeats 4000000
/-! ## The drawn numbers -/
namespace V2
open PySem PySem.Spec PyProof.Rows L2
abbrev cell (i : Int) : D := .d (.int i)
/-- the store behind the start of a law: the drawn numbers, and the number that is mixed -/
structure Deal (rest : Ho) (h : Ho) : Prop where
  is : ∃ (cs : List Int) (mix : Int), h = .lst (cs.map cell) :: .lst [.loc 0, cell mix] :: rest ∧ cs.length ≤ 63 ∧ (∀ c ∈ cs, 0 ≤ c) ∧ 0 ≤ mix ∧ mix < 2 ^ 31
theorem shaped_ints (cs : List Int) : SeqAt.shaped (.list (cs.map PyData.int)) = true := by
  have h1 : ∀ cs : List Int, PyData.canLayAll0 (cs.map PyData.int) = true := by
    intro cs
    induction cs with
    | nil => rfl
    | cons c cs ih => simp only [List.map_cons, PyData.canLayAll0, PyData.canLay0, ih, Bool.and_self]
  have h2 : ∀ cs : List Int, PyData.depthAll (cs.map PyData.int) ≤ 63 := by
    intro cs
    induction cs with
    | nil => exact Nat.zero_le _
    | cons c cs ih => simp only [List.map_cons, PyData.depthAll, PyData.depth]; omega
  unfold SeqAt.shaped
  simp only [PyData.canLay0, PyData.depth, Bool.and_eq_true]
  exact ⟨h1 cs, decide_eq_true (Nat.succ_le_succ (h2 cs))⟩
theorem datum_cells {cs : List Int} {rest : Ho} : datum (.lst (cs.map cell) :: rest) (.loc 0) = some (.list (cs.map PyData.int)) := by
  have e : cs.map cell = (cs.map PyData.int).map D.d := by rw [List.map_map]; rfl
  show (allD (cs.map cell)).map PyData.list = _
  rw [e, allD_map]
  rfl
theorem atI_last {α : Type} {xs : List α} {y : α} : L2.atI (xs ++ [y]) (-1) = some y := by
  unfold L2.atI ixN
  rw [if_neg (by decide), if_pos (by rw [List.length_append, List.length_singleton]; omega)]
  simp only [Option.bind_some]
  have : ((-1 : Int) + ((xs ++ [y]).length : Nat)).toNat = xs.length := by rw [List.length_append, List.length_singleton]; omega
  rw [this]
  simp
section
variable {ρ : En} {h hb : Ho} {Q : KD} {E : XD} {fa : WE} {wi : WI} {wg : WG} {tt : WT} {te : WE} {own : List Nat} {st : Ho → Prop} {xs : List D}
theorem i_sl0 {i : Nat} {j : Int} {ps : List PyData} (e : GetAt i ρ (.d (.list ps))) (k : Q (.d (.list (cut ps none (some j)))) h) : fSl (fVar i) oNone (oSome (fC (.int j))) ρ h Q E := i_var e k
theorem i_iseqG {QI : List D → (Ho → Prop) → Ho → Prop} (k : fa ρ h (fun x h1 => ∃ xs, items h1 x = some xs ∧ QI xs (stay x xs) h1) E) : iSeq fa ρ h QI E := by
  have e1 : (fun (x : D) (h1 : Ho) => ∃ xs, items h1 x = some xs ∧ QI xs (stay x xs) h1) = (fun x h1 => match items h1 x with
      | some xs => QI xs (stay x xs) h1
      | none => False) := by
    funext x h1
    apply propext
    constructor
    · rintro ⟨xs, e2, q⟩
      rw [e2]
      exact q
    · split
      · rename_i xs e3
        exact fun q => ⟨_, e3, q⟩
      · exact False.elim
  rw [e1] at k
  exact k
theorem i_lcv (k : wi ρ h (fun xs st h1 => st (h1 ++ [.lst []]) ∧ lcGo wg tt te st h1.length (wipeD ρ own) (fun h2 => ∃ hh acc ps, h2 = hh ++ [.lst acc] ∧ hh.length = h1.length ∧ (hh = h1 ∨ noRef h1.length hh = true) ∧ allD acc = some ps ∧ Q (.d (.list ps)) hh) xs (h1 ++ [.lst []])) E) : fLcV wi wg tt te own ρ h Q E := k
theorem lcv_ind {QL : List PyData → Ho → Prop} (I : Nat → List D → Prop) (hst : ∀ h, st h)
    (hs : ∀ k x acc, xs[k]? = some x → I k acc → ∃ ρ1 b, wg x (hb ++ [.lst acc]) ρ = some ρ1 ∧ (∀ P : Bool → Ho → Prop, P b (hb ++ [.lst acc]) → tt ρ1 (hb ++ [.lst acc]) P noX) ∧
      (b = true → ∃ y, (∀ P : KD, P y (hb ++ [.lst acc]) → te ρ1 (hb ++ [.lst acc]) P noX) ∧ acc.length < sizeLine ∧ I (k + 1) (acc ++ [y])) ∧ (b = false → I (k + 1) acc))
    (he : ∀ acc, I xs.length acc → ∃ ps, AllD acc ps ∧ QL ps hb) (h0 : I 0 []) :
    st (hb ++ [.lst []]) ∧ lcGo wg tt te st hb.length ρ (fun h2 => ∃ hh acc ps, h2 = hh ++ [.lst acc] ∧ hh.length = hb.length ∧ (hh = hb ∨ noRef hb.length hh = true) ∧ allD acc = some ps ∧ QL ps hh) xs (hb ++ [.lst []]) := by
  refine ⟨hst _, lc_ind I hst hs (fun acc hi => ?_) h0⟩
  obtain ⟨ps, a, q⟩ := he acc hi
  exact ⟨hb, acc, ps, rfl, rfl, .inl rfl, a.eq, q⟩
theorem stay_d {p : PyData} {xs : List D} (h : Ho) : stay (.d p) xs h := trivial
def revK (Q : KD) : KD := fun x h1 => match litems h1 x with
  | some xs => Q (.loc h1.length) (h1 ++ [.lst xs.reverse])
  | none => False
theorem i_revloc (k : fa ρ h (revK Q) E) : fRevLoc fa ρ h Q E := k
theorem revK_lst {ps : List PyData} (k : Q (.loc h.length) (h ++ [.lst (ps.map D.d).reverse])) : revK Q (.d (.list ps)) h := k
theorem allD_cells (cs : List Int) : AllD (cs.map cell) (cs.map PyData.int) := by
  induction cs with
  | nil => exact .nil
  | cons c cs ih => exact .cons ih
end
theorem i_asgG {ρ : En} {h : Ho} {fa : WE} {g : WG} {nx : En → Ho → Prop} {rt : KD} {bk ct : En → Ho → Prop} {ex : Ex → En → Ho → Prop} (k : fa ρ h (fun x h1 => ∃ ρ1, g x h1 ρ = some ρ1 ∧ nx ρ1 h1) (fun x h => ex x ρ h)) : sAsg fa g ρ h ⟨nx, rt, bk, ct, ex⟩ := by
  have e1 : (fun (x : D) (h1 : Ho) => ∃ ρ1, g x h1 ρ = some ρ1 ∧ nx ρ1 h1) = (fun x h1 => match g x h1 ρ with
      | some ρ1 => nx ρ1 h1
      | none => False) := by
    funext x h1
    apply propext
    constructor
    · rintro ⟨xs, e2, q⟩
      rw [e2]
      exact q
    · split
      · rename_i xs e3
        exact fun q => ⟨_, e3, q⟩
      · exact False.elim
  rw [e1] at k
  exact k
def tryK (i : Nat) (m : Str → Option Bool) (sf : Ex → WS) (D : Nx) : Ex → En → Ho → Prop := fun x ρ1 h1 => match m x.cls with
  | some true => i < ρ1.length ∧ sf x (ρ1.set i none) h1 (sufN i D)
  | some false => D.ex x ρ1 h1
  | none => False
theorem i_try {ρ : En} {h : Ho} {i : Nat} {m : Str → Option Bool} {f : WS} {sf : Ex → WS} {nx : En → Ho → Prop} {rt : KD} {bk ct : En → Ho → Prop} {ex : Ex → En → Ho → Prop} (k : f ρ h ⟨nx, rt, bk, ct, tryK i m sf ⟨nx, rt, bk, ct, ex⟩⟩) : sTry i m f sf ρ h ⟨nx, rt, bk, ct, ex⟩ := k
theorem nil_or_snoc {α : Type} (xs : List α) : xs = [] ∨ ∃ l c, xs = l ++ [c] := by
  rcases List.eq_nil_or_concat xs with h | ⟨l, c, h⟩
  · exact .inl h
  · exact .inr ⟨l, c, by rw [h, List.concat_eq_append]⟩
theorem mix_mul {mix : Int} (h0 : 0 ≤ mix) (h1 : mix < 2 ^ 31) : CMulW mix 48271 := cmulw (n := 31) (by decide) (by omega) (by decide) (by decide)
theorem ni_loc {n : Nat} : (∀ i, D.loc n ≠ .d (.int i)) ∧ ∀ i, D.loc n ≠ .d (.str i) := ⟨fun _ e => (by cases e), fun _ e => (by cases e)⟩
theorem ni_tup {xs : List PyData} : (∀ i, D.d (.tuple xs) ≠ .d (.int i)) ∧ ∀ i, D.d (.tuple xs) ≠ .d (.str i) := ⟨fun _ e => (by cases e), fun _ e => (by cases e)⟩
theorem ints_ne {cs : List Int} (h : cs ≠ []) : PyData.eqv (.list (cs.map PyData.int)) (.list []) = false := by
  cases cs with
  | nil => exact absurd rfl h
  | cons c cs => simp [PyData.eqv, PyData.eqvAll]
section
variable {ρ : En} {h h2 : Ho} {Q : KD} {E : XD} {fo fi fe : WE} {ga : WA} {nx : En → Ho → Prop} {rt : KD} {bk ct : En → Ho → Prop} {ex : Ex → En → Ho → Prop} {f : WS} {t : WT}
theorem i_while (I : Nat → En → Ho → Prop) {m0 : Nat} (h0 : I m0 ρ h) (he : ∀ m ρ h, I m ρ h → nx ρ h)
    (hs : (∀ m ρ h, I m ρ h → nx ρ h) → ∀ m ρ h, I m ρ h → t ρ h (fun b h1 => if b = true then f ρ h1 ⟨fun ρ' h' => ∃ m', m' < m ∧ I m' ρ' h', rt, nx, fun ρ' h' => ∃ m', m' < m ∧ I m' ρ' h', ex⟩ else nx ρ h1) (fun x h => ex x ρ h)) : sWhile t f ρ h ⟨nx, rt, bk, ct, ex⟩ :=
  ⟨I, ⟨m0, h0⟩, hs he⟩
def popK (Q : KD) : KD := fun x h1 => match x with
  | .loc n => match h1[n]? with
    | some (.lst xs) => match xs[xs.length - 1]? with
      | some y => Q y (h1.set n (.lst xs.dropLast))
      | none => False
    | none => False
  | _ => False
theorem i_pop (k : fo ρ h (popK Q) E) : fPop fo ρ h Q E := k
theorem popK_loc {n : Nat} {xs : List D} {y : D} (e : h[n]? = some (.lst (xs ++ [y]))) (es : h.set n (.lst xs) = h2) (k : Q y h2) : popK Q (.loc n) h := by
  have e1 : (xs ++ [y])[(xs ++ [y]).length - 1]? = some y := by simp
  simp only [popK, e, e1, List.dropLast_concat, es]
  exact k
def appK (ga : WA) (ρ : En) (Q : KD) (E : XD) : KD := fun x h1 => match x with
  | .loc n => match h1[n]? with
    | some (.lst _) => ga ρ h1 (fun ys h2 => match ys, h2[n]? with
      | [y], some (.lst xs) => xs.length < sizeLine ∧ Q (.d .none) (h2.set n (.lst (xs ++ [y])))
      | _, _ => False) E
    | none => False
  | _ => False
theorem i_append (k : fo ρ h (appK ga ρ Q E) E) : fAppend fo ga ρ h Q E := k
theorem appK_loc {n : Nat} {xs0 : List D} (e : h[n]? = some (.lst xs0)) (k : ga ρ h (fun ys h2 => ∃ y xs, ys = [y] ∧ h2[n]? = some (.lst xs) ∧ xs.length < sizeLine ∧ Q (.d .none) (h2.set n (.lst (xs ++ [y])))) E) : appK ga ρ Q E (.loc n) h := by
  have e1 : (fun (ys : List D) (h2 : Ho) => ∃ y xs, ys = [y] ∧ h2[n]? = some (.lst xs) ∧ xs.length < sizeLine ∧ Q (.d .none) (h2.set n (.lst (xs ++ [y])))) = (fun ys h2 => match ys, h2[n]? with
      | [y], some (.lst xs) => xs.length < sizeLine ∧ Q (.d .none) (h2.set n (.lst (xs ++ [y])))
      | _, _ => False) := by
    funext ys h2
    apply propext
    constructor
    · rintro ⟨y, xs, rfl, e2, q⟩
      simp only [e2]
      exact q
    · split
      · rename_i y xs e3
        exact fun q => ⟨_, _, rfl, e3, q⟩
      · exact False.elim
  rw [e1] at k
  simp only [appK, e]
  exact k
def subK (nx : En → Ho → Prop) (ρ : En) (y x z : D) (h3 : Ho) : Prop := match x, z with
  | .loc n, .d (.int k) => match h3[n]? with
    | some (.lst xs) => match ixN xs.length k with
      | some j => nx ρ (h3.set n (.lst (xs.set j y)))
      | none => False
    | none => False
  | _, _ => False
theorem i_sub (k : fe ρ h (fun y h1 => fo ρ h1 (fun x h2 => fi ρ h2 (fun z h3 => subK nx ρ y x z h3) (fun x h => ex x ρ h)) (fun x h => ex x ρ h)) (fun x h => ex x ρ h)) : sSub fe fo fi ρ h ⟨nx, rt, bk, ct, ex⟩ := k
theorem subK_loc {n j : Nat} {i : Int} {xs : List D} {y : D} (e : h[n]? = some (.lst xs)) (ej : ixN xs.length i = some j) (es : h.set n (.lst (xs.set j y)) = h2) (k : nx ρ h2) : subK nx ρ y (.loc n) (.d (.int i)) h := by
  simp only [subK, e, ej, es]
  exact k
end
theorem div_pos {a b : Rat} (hb : 0 < b.num) : a / b = mkRat (a.num * b.den) (a.den * b.num.natAbs) := by
  have hz : b ≠ 0 := fun z => by rw [z] at hb; exact absurd hb (by decide)
  have e : mkRat (a.num * b.den) (a.den * b.num.natAbs) * b = a := by
    conv => lhs; rhs; rw [← Rat.mkRat_self b]
    rw [Rat.mkRat_mul_mkRat]
    conv => rhs; rw [← Rat.mkRat_self a]
    rw [Rat.mkRat_eq_iff (Nat.mul_ne_zero (Nat.mul_ne_zero a.den_nz (by omega)) b.den_nz) a.den_nz]
    simp only [Int.natCast_mul, Int.natAbs_of_nonneg (Int.le_of_lt hb)]
    grind
  rw [← e]
  grind
theorem div_neg {a b : Rat} (hb : b.num < 0) : a / b = mkRat (0 - a.num * b.den) (a.den * b.num.natAbs) := by
  have hz : b ≠ 0 := fun z => by rw [z] at hb; exact absurd hb (by decide)
  have e : mkRat (0 - a.num * b.den) (a.den * b.num.natAbs) * b = a := by
    conv => lhs; rhs; rw [← Rat.mkRat_self b]
    rw [Rat.mkRat_mul_mkRat]
    conv => rhs; rw [← Rat.mkRat_self a]
    rw [Rat.mkRat_eq_iff (Nat.mul_ne_zero (Nat.mul_ne_zero a.den_nz (by omega)) b.den_nz) a.den_nz]
    simp only [Int.natCast_mul, Int.ofNat_natAbs_of_nonpos (Int.le_of_lt hb)]
    grind
  rw [← e]
  grind
theorem sub_mk (a b : Rat) : a - b = mkRat (a.num * b.den - b.num * a.den) (a.den * b.den) := by
  rw [Rat.sub_eq_add_neg, add_mk, Rat.neg_num, Rat.neg_den, Int.neg_mul, Int.sub_eq_add_neg]
theorem half_mk (a : Rat) : a / 2 = mkRat a.num (2 * a.den) := by
  rw [Rat.mkRat_eq_div, Rat.natCast_mul]
  conv => lhs; rw [← Rat.mkRat_self a, Rat.mkRat_eq_div]
  have := a.den_nz
  grind
theorem Sz.half {n : Nat} {a : Rat} (s : Sz n a) : Sz (n + 1) (a / 2) := by
  rw [half_mk]
  exact .mk' (Nat.mul_ne_zero (by decide) a.den_nz) (Nat.lt_trans s.1 (by rw [Nat.pow_succ]; have := Nat.two_pow_pos n; omega)) (by have := s.2; rw [Nat.pow_succ]; omega)
theorem three_show {a b c : Rat} (sa : Sz 1000 a) (sb : Sz 1000 b) (sc : Sz 1000 c) : (PyData.list [fr a, fr b, fr c]).showable = true ∧ (PyData.list [fr a, fr b, fr c]).depth < 60 ∧ (PyData.list [fr a, fr b, fr c]).shown.length ≤ sizeLine := by
  refine ⟨?_, by show 2 < 60; decide, ?_⟩
  · simp only [PyData.showable, PyData.showableAll, Bool.and_true, Bool.and_eq_true]
    have := fr_showable (by decide) (by decide) sa
    have := fr_showable (by decide) (by decide) sb
    have := fr_showable (by decide) (by decide) sc
    simp only [PyData.showable, PyData.showableAll, Bool.and_true, Bool.and_eq_true] at *
    exact ⟨‹_›, ‹_›, ‹_›⟩
  · have h1 := PyData.shown_le_bulk 1001 (by decide) (PyData.list [fr a, fr b, fr c]) (by
      have := fr_leaves (by decide) sa
      have := fr_leaves (by decide) sb
      have := fr_leaves (by decide) sc
      simp only [PyData.leavesShort, PyData.leavesShortAll, Bool.and_true, Bool.and_eq_true] at *
      exact ⟨‹_›, ‹_›, ‹_›⟩)
    have e : (PyData.list [fr a, fr b, fr c]).bulk = 9 := rfl
    rw [e] at h1
    have : sizeLine = 2 ^ 24 := rfl
    omega
theorem i_nefr {x y : Rat} {h : Ho} {Q : KD} (e : x = y) (k : Q (.d (.bool false)) h) : rNe2 (.d (fr x)) (.d (fr y)) h Q := by
  subst e
  refine i_ned rfl rfl rfl rfl ni_tup ?_
  rw [fr_eqv, decide_eq_true rfl]
  exact k
def halfR : Rat := ⟨1, 2, by decide, by decide⟩
theorem halfR_eq (a : Rat) : a / 2 = halfR * a := by
  have e : halfR = 1 / 2 := by
    unfold halfR
    rw [Rat.mk_eq_mkRat, Rat.mkRat_eq_div]
    simp
  rw [e]
  grind
theorem halved {i x y : Nat} (c : 0 < y) (hp : (i = 0 ∧ x * y < 2 ^ 8000) ∨ (0 < i ∧ y < x ∧ x * y < 2 ^ (8001 - i))) : y * (x % y) < 2 ^ (8001 - (i + 1)) := by
  have e : 8001 - (i + 1) = 8000 - i := by omega
  rw [e]
  have h1 : x % y < y := Nat.mod_lt _ c
  rcases hp with ⟨rfl, hp⟩ | ⟨_, hx, hp⟩
  · have h2 : x % y ≤ x := Nat.mod_le _ _
    have := Nat.mul_le_mul_left y h2
    rw [Nat.mul_comm x y] at hp
    exact Nat.lt_of_le_of_lt this hp
  · have h3 : x % y + y ≤ x := by
      have := Nat.mod_add_div x y
      have h4 : 1 ≤ x / y := (Nat.one_le_div_iff c).2 (by omega)
      have := Nat.mul_le_mul_left y h4
      omega
    have h5 : 2 * (y * (x % y)) ≤ x * y := by
      have : y * (2 * (x % y)) ≤ y * x := Nat.mul_le_mul_left y (by omega)
      rw [Nat.mul_comm x y]
      rw [Nat.mul_left_comm] at this
      exact this
    have h6 : 2 ≤ x * y := by
      have : 2 * 1 ≤ x * y := Nat.mul_le_mul (by omega) c
      omega
    by_cases z : 8001 - i = 0
    · rw [z] at hp
      omega
    · have e2 : 8001 - i = (8000 - i) + 1 := by omega
      rw [e2, Nat.pow_succ] at hp
      omega
end V2
set_option Elab.async false
set_option linter.all false
set_option maxRecDepth 100000
set_option maxHeartbeats 4000000
/-! ## More built-in functions and comparisons over data -/
namespace V2
open PySem PySem.Spec PyProof.Rows L2
open PySem.W (Frag)
section
variable {X : Cx} {W : WX} {a b c : Expr} {es : List Expr} {ga : WA} {fa fb fc : WE} {pos p : Pos}
/-! ### list(x), tuple(x): data -/
def rList1 : WR := fun xs h Q => match xs with
  | [x] => match items h x with
    | some ys => match allD ys with
      | some ps => Q (.d (.list ps)) h
      | none => False
    | none => False
  | _ => False
theorem cp_list1 : CpA X (fun xs H Q => ∃ p ys, xs = [.ref p] ∧ (SqL X.K H p ys ∨ SqT X.K H p ys) ∧ ∀ l, H l = none → Q (.ref l) (upd H l (.lst ys))) rList1 := by
  intro xs h Q vs as H QV rv hR hq k
  unfold rList1 at hq
  split at hq
  · split at hq
    · rename_i ys e
      split at hq
      · rename_i ps e2
        obtain ⟨v, rfl, r⟩ := relAll1 rv
        obtain ⟨a, us, rfl, s, ra⟩ := items_rel r hR e
        exact ⟨a, us, rfl, s, fun l hl => k.newLst hR hq (ra.ofAllD e2) hl⟩
      · exact hq.elim
    · exact hq.elim
  · exact hq.elim
def rTup1 : WR := fun xs h Q => match xs with
  | [.d (.tuple ps)] => Q (.d (.tuple ps)) h
  | [x] => match litems h x with
    | some ys => match allD ys with
      | some ps => Q (.d (.tuple ps)) h
      | none => False
    | none => False
  | _ => False
theorem cp_tup1 : CpA X (fun xs H Q => ∃ p ys, xs = [.ref p] ∧ ((SqL X.K H p ys ∧ ∀ l, H l = none → Q (.ref l) (upd H l (.tup ys))) ∨ (SqT X.K H p ys ∧ Q (.ref p) H))) rTup1 := by
  intro xs h Q vs as H QV rv hR hq k
  unfold rTup1 at hq
  split at hq
  · obtain ⟨v, rfl, r⟩ := relAll1 rv
    cases r with | d r =>
    cases r with | tup sx ax =>
    exact ⟨_, _, rfl, .inr ⟨sx.sq, k.qd hR hq (.tup sx ax)⟩⟩
  · split at hq
    · rename_i ys e
      split at hq
      · rename_i ps e2
        obtain ⟨v, rfl, r⟩ := relAll1 rv
        obtain ⟨a, us, rfl, s, ra⟩ := litems_rel r hR e
        exact ⟨a, us, rfl, .inl ⟨s, fun l hl => k.newTup hR hq (ra.ofAllD e2) hl⟩⟩
      · exact hq.elim
    · exact hq.elim
  · exact hq.elim
theorem SE.list1 (hg : Gl X "list") (hm : X.mg "list" = none) (ha : SA X W [a] ga) (he : starEach [a] X.env = (false, eval a X.env) :: starEach [] X.env := by rfl) : SE X W (.Call (.Name "list" p) [a] [] pos) (fCall rList1 ga) := .callTy call_list_of cp_list1 hg hm (by decide +kernel) ha (he := he) (hpl := rfl)
theorem SE.tup1 (hg : Gl X "tuple") (hm : X.mg "tuple" = none) (ha : SA X W [a] ga) (he : starEach [a] X.env = (false, eval a X.env) :: starEach [] X.env := by rfl) : SE X W (.Call (.Name "tuple" p) [a] [] pos) (fCall rTup1 ga) := .callTy call_tuple_of cp_tup1 hg hm (by decide +kernel) ha (he := he) (hpl := rfl)

/-! ### isinstance(x, T), T a built-in class, x data -/
def tyName : PyData → String
  | .none => "NoneType"
  | .bool _ => "bool"
  | .int _ => "int"
  | .str _ => "str"
  | .list _ => "list"
  | .tuple _ => "tuple"
  | .dict _ => "dict"
def fIsi (T : String) (fa : WE) : WE := fun ρ h Q E => fa ρ h (fun x h1 => match x with
  | .d p => ∃ b, kitB (tyName p) T = some b ∧ Q (.d (.bool b)) h1
  | .loc n => (∃ xs, h1[n]? = some (.lst xs)) ∧ ∃ b, kitB "list" T = some b ∧ Q (.d (.bool b)) h1) E
theorem tyx_lst {K : Frag} {as : List Addr} {H : Hp} {a : Addr} {xs : List V} (h : LstR K as H a xs) : TyX K H (.ref a) (.type "list") := by
  rcases h with ⟨h | ⟨o, h⟩, _⟩ | ⟨o, its, n, e, c, _⟩
  · exact .base (.lst h)
  · exact .base (.frz h)
  · exact .kList e c
theorem tyx_tup {K : Frag} {as : List Addr} {H : Hp} {a : Addr} {xs : List V} (h : TupR K as H a xs) : TyX K H (.ref a) (.type "tuple") := by
  rcases h with ⟨h | ⟨o, h⟩, _⟩ | ⟨o, its, n, e, c, _⟩
  · exact .base (.tup h)
  · exact .fTuple h
  · exact .kTuple e c
theorem tyx_d {K : Frag} {as : List Addr} {H : Hp} {v : V} {p : PyData} (r : Dv K as H v p) : TyX K H v (.type (tyName p)) := by
  cases r with
  | non => exact .base .non
  | bl b => exact .base (.bl b)
  | int i => exact .base (.int i)
  | str x => exact .base (.str x)
  | lst s _ => exact tyx_lst s
  | tup s _ => exact tyx_tup s
theorem SE.isi {T : String} {x : Str} {p1 p2 p3 : Pos} (hg : Gl X "isinstance") (hm : X.mg "isinstance" = none) (hgc : Gl X x) (hmc : X.mg x = none) (hv : bootBuiltins x = some (.type T)) (ha : SE X W a fa)
    (hn : x ≠ "__name__" := by decide) (hdc : (x == ("__debug__" : Str)) = false := by decide)
    (he : starEach [a, .Name x p3] X.env = (false, eval a X.env) :: starEach [.Name x p3] X.env := by rfl) (he2 : starEach [.Name x p3] X.env = (false, eval (.Name x p3) X.env) :: starEach [] X.env := by rfl) (hpl : (backTo pos (starEach [.Name x p3] X.env)).any (·.1) = false := by rfl) :
    SE X W (.Call (.Name "isinstance" p1) [a, .Name x p3] [] pos) (fIsi T fa) := by
  obtain ⟨_, pa, sa⟩ := ha
  refine ⟨_, pe_callB call_isi hg hm (by decide +kernel) (pa_cons pa (pa_cons (pe_bltn (v := .ty T) hgc hmc hv rfl hn hdc) pa_nil he2) he) (he := he) (hpl := hpl), fun σ H as ρ h Q E QV eR hR hq k kx => ?_⟩
  refine sa σ H as ρ h _ E _ eR hR hq (fun y h1 v as1 H1 hq1 l1 r1 rv => ?_) kx
  cases rv with
  | d rv =>
    obtain ⟨b, e, q⟩ := hq1
    exact ⟨v, .ty T, _, _, b, rfl, .ty T, tyx_d rv, kit_ty e, (k.later l1).qd r1 q (.bl b)⟩
  | loc ha =>
    obtain ⟨⟨xs, en⟩, b, e, q⟩ := hq1
    obtain ⟨a2, ha2, ob⟩ := r1.at en
    rw [ha] at ha2
    cases ha2
    obtain ⟨vs, e2, _⟩ := ob
    exact ⟨_, .ty T, _, _, b, rfl, .ty T, .base (.lst e2), kit_ty e, (k.later l1).qd r1 q (.bl b)⟩

/-! ### a op b op c -/
def fChain (r r' : WR2) (fa fb fc : WE) : WE := fun ρ h Q E => fa ρ h (fun x h1 => fb ρ h1 (fun y h2 => r x y h2 (fun z h3 => match z with
  | .d (.bool true) => fc ρ h3 (fun w h4 => r' y w h4 Q) E
  | .d (.bool false) => Q (.d (.bool false)) h3
  | _ => False)) E) E
theorem sp_chain {rV rV' : R2} {r r' : WR2} {ta tb tc : TE} (c1 : Cp2 X rV r) (c2 : Cp2 X rV' r') (ha : SpE X W ta fa) (hb : SpE X W tb fb) (hc : SpE X W tc fc) : SpE X W (tChain rV rV' ta tb tc) (fChain r r' fa fb fc) := by
  intro σ H as ρ h Q E QV eR hR hq k kx
  refine ha σ H as ρ h _ E _ eR hR hq (fun x h1 v as1 H1 hq1 l1 r1 rv => ?_) kx
  refine hb σ H1 as1 ρ h1 _ E _ (eR.later l1) r1 hq1 (fun y h2 w as2 H2 hq2 l2 r2 rw' => ?_) (kx.later l1)
  refine c1 x y h2 _ v w as2 H2 _ (rv.later l2) rw' r2 hq2 (fun z h3 u as3 H3 hq3 l3 r3 ru => ?_)
  split at hq3
  · cases ru with | d ru =>
    cases ru
    refine ⟨true, rfl, ?_⟩
    rw [if_pos rfl]
    refine hc σ H3 as3 ρ h3 _ E _ (((eR.later l1).later l2).later l3) r3 hq3 (fun w4 h4 v4 as4 H4 hq4 l4 r4 rv4 => ?_) (((kx.later l1).later l2).later l3)
    exact c2 y w4 h4 Q w v4 as4 H4 QV ((rw'.later l3).later l4) rv4 r4 hq4 (k.later (((l1.trans l2).trans l3).trans l4))
  · cases ru with | d ru =>
    cases ru
    refine ⟨false, rfl, ?_⟩
    rw [if_neg (by decide)]
    exact (k.later ((l1.trans l2).trans l3)).qd r3 hq3 (.bl false)
  · exact hq3.elim
/-- how a comparison reads: the model's rule and ours -/
def CmpR (X : Cx) (op : CmpOp) (r : WR2) : Prop := ∃ rV, OpR X (compareOp op) rV ∧ Cp2 X rV r
theorem CmpR.lt : CmpR X .Lt (rCmp2 fun i j => decide (i < j)) := ⟨_, op_lt, cp_ints0 fun _ _ _ _ _ => .bl _⟩
theorem CmpR.le : CmpR X .LtE (rCmp2 fun i j => decide (i ≤ j)) := ⟨_, op_le, cp_ints0 fun _ _ _ _ _ => .bl _⟩
theorem CmpR.gt : CmpR X .Gt (rCmp2 fun i j => decide (j < i)) := ⟨_, op_gt, cp_ints0 fun _ _ _ _ _ => .bl _⟩
theorem CmpR.ge : CmpR X .GtE (rCmp2 fun i j => decide (j ≤ i)) := ⟨_, op_ge, cp_ints0 fun _ _ _ _ _ => .bl _⟩
theorem CmpR.eq (hu : X.A.units + 64 < cLine) : CmpR X .Eq rEq2 := ⟨_, op_eq.or (op_eqD hu), cp_eq⟩
theorem CmpR.ne (hu : X.A.units + 64 < cLine) : CmpR X .NotEq rNe2 := ⟨_, op_ne.or (op_neD hu), cp_ne⟩
theorem SE.chain {op op' : CmpOp} {r r' : WR2} (c1 : CmpR X op r) (c2 : CmpR X op' r') (ha : SE X W a fa) (hb : SE X W b fb) (hc : SE X W c fc)
    (hm : lastMarks [op, op'] [b, c] = false := by with_unfolding_all rfl) : SE X W (.Compare a [op, op'] [b, c] pos) (fChain r r' fa fb fc) := by
  obtain ⟨_, pa, sa⟩ := ha
  obtain ⟨_, pb, sb⟩ := hb
  obtain ⟨_, pc, sc⟩ := hc
  obtain ⟨_, o1, c1⟩ := c1
  obtain ⟨_, o2, c2⟩ := c2
  exact ⟨_, pe_chain o1 o2 pa pb pc hm, sp_chain c1 c2 sa sb sc⟩
theorem ST.chain {op op' : CmpOp} {r r' : WR2} (c1 : CmpR X op r) (c2 : CmpR X op' r') (ha : SE X W a fa) (hb : SE X W b fb) (hc : SE X W c fc)
    (hm : lastMarks [op, op'] [b, c] = false := by with_unfolding_all rfl) : ST X W (.Compare a [op, op'] [b, c] pos) (tVal (fChain r r' fa fb fc)) := by
  obtain ⟨_, pa, sa⟩ := ha
  obtain ⟨_, pb, sb⟩ := hb
  obtain ⟨_, pc, sc⟩ := hc
  obtain ⟨_, o1, c1⟩ := c1
  obtain ⟨_, o2, c2⟩ := c2
  exact ⟨_, pt_chain o1 o2 pa pb pc hm, sp_test (sp_chain c1 c2 sa sb sc)⟩

/-! ### x in xs: flat items -/
def flatD : D → Bool
  | .d .none => true
  | .d (.bool _) => true
  | .d (.int _) => true
  | .d (.str _) => true
  | _ => false
def valD : D → V
  | .d (.bool b) => .bl b
  | .d (.int i) => .int i
  | .d (.str x) => .str x
  | _ => .non
theorem rel_flat {K : Frag} {as : List Addr} {H : Hp} {v : V} {x : D} (r : Rel K as H v x) (f : flatD x = true) : v = valD x ∧ flatV v = true := by
  cases r with
  | d r =>
    cases r with
    | non => exact ⟨rfl, rfl⟩
    | bl b => exact ⟨rfl, rfl⟩
    | int i => exact ⟨rfl, rfl⟩
    | str x => exact ⟨rfl, rfl⟩
    | lst _ _ => exact absurd (show false = true from f) Bool.false_ne_true
    | tup _ _ => exact absurd (show false = true from f) Bool.false_ne_true
  | loc _ => exact absurd (show false = true from f) Bool.false_ne_true
theorem relAll_flat {K : Frag} {as : List Addr} {H : Hp} : ∀ {vs : List V} {xs : List D}, RelAll K as H vs xs → xs.all flatD = true → vs = xs.map valD ∧ vs.all flatV = true
  | _, _, .nil, _ => ⟨rfl, rfl⟩
  | _, _, .cons r t, f => by
    rw [List.all_cons, Bool.and_eq_true] at f
    obtain ⟨e1, f1⟩ := rel_flat r f.1
    obtain ⟨e2, f2⟩ := relAll_flat t f.2
    refine ⟨by rw [List.map_cons, ← e1, ← e2], ?_⟩
    rw [List.all_cons, f1, f2]
    rfl
def rInD (neg : Bool) : WR2 := fun x y h Q => match items h y with
  | some ys => flatD x = true ∧ ys.all flatD = true ∧ Q (.d (.bool (if neg then !inV (valD x) (ys.map valD) else inV (valD x) (ys.map valD)))) h
  | none => False
theorem cp_in (neg : Bool) : Cp2 X (rIn X.K neg) (rInD neg) := by
  intro x y h Q v w as H QV rx ry hR hq k
  unfold rInD at hq
  split at hq
  · rename_i ys e
    obtain ⟨a, us, rfl, s, ra⟩ := items_rel ry hR e
    obtain ⟨e1, f1⟩ := rel_flat rx hq.1
    obtain ⟨e2, f2⟩ := relAll_flat ra hq.2.1
    refine ⟨a, us, rfl, s, f1, f2, ?_⟩
    rw [e1, e2]
    exact k.qd hR hq.2.2 (.bl _)
  · exact hq.elim
theorem SE.inD (ha : SE X W a fa) (hb : SE X W b fb) (hm : behindInMarks .In b = false := by rfl) : SE X W (.Compare a [.In] [b] pos) (fBin (rInD false) fa fb) := .cmp op_in_seq (cp_in false) ha hb hm
theorem SE.notInD (ha : SE X W a fa) (hb : SE X W b fb) (hm : behindInMarks .NotIn b = false := by rfl) : SE X W (.Compare a [.NotIn] [b] pos) (fBin (rInD true) fa fb) := .cmp op_notIn_seq (cp_in true) ha hb hm
theorem ST.inD (ha : SE X W a fa) (hb : SE X W b fb) (hm : behindInMarks .In b = false := by rfl) : ST X W (.Compare a [.In] [b] pos) (tVal (fBin (rInD false) fa fb)) := .cmp op_in_seq (cp_in false) ha hb hm
theorem ST.notInD (ha : SE X W a fa) (hb : SE X W b fb) (hm : behindInMarks .NotIn b = false := by rfl) : ST X W (.Compare a [.NotIn] [b] pos) (tVal (fBin (rInD true) fa fb)) := .cmp op_notIn_seq (cp_in true) ha hb hm

/-! ### math.lcm of three -/
end
open PySem.Calls PySem.W in
theorem run_lcm3 (a : Int) (t : Tok) (b : Int) (u : Tok) (c : Int) (u2 : Tok) (hc0 : ¬(max 1 a.natAbs).log2 / 30 + 1 > 450) (hc1 : ¬(max a.natAbs b.natAbs).log2 / 30 + 1 > 450) (hc2 : ¬(max ((Nat.lcm 1 a.natAbs).lcm b.natAbs) c.natAbs).log2 / 30 + 1 > 450)
    (hsz : (((((Nat.lcm 1 a.natAbs).lcm b.natAbs).lcm c.natAbs : Nat) : Int)).natAbs.log2 < bitsLine) :
    Gives (Builtin.«math.lcm» ⟨[.int a t, .int b u, .int c u2], []⟩) (.int (((((Nat.lcm 1 a.natAbs).lcm b.natAbs).lcm c.natAbs : Nat) : Int))) :=
  .of_wp fun M A E s Q h => by
    obtain ⟨hp, g, d, tk, os⟩ := s
    have e1 : Nat.lcm 1 a.natAbs = a.natAbs := by simp [Nat.lcm]
    wp_walk
    rw [if_neg hc2]
    wp_walk
    (try (refine wpAny_ite_false (decide_eq_false (Nat.not_le.mpr hsz)) ?_; wp_walk))
    exact ⟨_, rfl, h⟩
open PySem.Calls PySem.W in
theorem args_lcm3 (a b c : Value) : argsOk "math.lcm" ⟨[a, b, c], []⟩ := by unfold argsOk; kernel_rfl
theorem lcm_lt {a b n m : Nat} (ha : a < 2 ^ n) (hb : b < 2 ^ m) : Nat.lcm a b < 2 ^ (n + m) :=
  Nat.lt_of_le_of_lt (PySem.W.mc_lcm_le a b) (mul_lt_pow ha hb)
theorem roomy {k n : Nat} (hn : 0 < n) (h : k < 2 ^ n) (h2 : n ≤ 13000) : ¬ k.log2 / 30 + 1 > 450 := by
  have := log2_lt hn h
  omega
def rLcm3V : List V → Hp → VK → Prop := fun vs H Q => ∃ a b c : Int, vs = [.int a, .int b, .int c] ∧ (a.natAbs < 2 ^ big ∧ b.natAbs < 2 ^ big ∧ c.natAbs < 2 ^ big) ∧ Q (.int ((Nat.lcm (Nat.lcm a.natAbs b.natAbs) c.natAbs : Nat) : Int)) H
open PySem.Calls PySem.W in
theorem cr_lcm3 {X : Cx} : CallR X (.builtin "math.lcm") rLcm3V := by
  intro pins s σ H vs us Q I r h
  obtain ⟨a, b, c, rfl, ⟨ha, hb, hc⟩, q⟩ := h
  cases r with | cons r1 r =>
  cases r with | cons r2 r =>
  cases r with | cons r3 r =>
  cases r
  rename_i u1 u2 u3
  obtain ⟨t1, rfl⟩ := (show ∃ t, u1 = Value.int a t from r1)
  obtain ⟨t2, rfl⟩ := (show ∃ t, u2 = Value.int b t from r2)
  obtain ⟨t3, rfl⟩ := (show ∃ t, u3 = Value.int c t from r3)
  have e1 : Nat.lcm 1 a.natAbs = a.natAbs := PySem.W.mc_lcm_one _
  have hb0 : 0 < big := by decide
  have l1 := lcm_lt ha hb
  have l2 := lcm_lt l1 hc
  have p1 : (1 : Nat) < 2 ^ big := Nat.one_lt_two_pow (by decide)
  have g := run_lcm3 a t1 b t2 c t3 (roomy hb0 (Nat.max_lt.2 ⟨p1, ha⟩) (by decide)) (roomy hb0 (Nat.max_lt.2 ⟨ha, hb⟩) (by decide))
    (roomy (n := big + big) (by decide) (Nat.max_lt.2 ⟨by rw [e1]; exact l1, Nat.lt_of_lt_of_le hc (Nat.pow_le_pow_right (by decide) (Nat.le_add_right _ _))⟩) (by decide))
    (by rw [e1, Int.natAbs_natCast]; exact Nat.lt_of_lt_of_le (log2_lt (by decide) l2) (by decide))
  rw [e1] at g
  exact call_function_meets PySem.W.MGF.kind_lcm PySem.W.MGF.plain_lcm PySem.W.MGF.entry_lcm (args_lcm3 _ _ _) g.meets ⟨.int _, H, I.tok _, ⟨_, rfl⟩, q⟩
def rLcm3 : WR := fun xs h Q => match xs with
  | [.d (.int a), .d (.int b), .d (.int c)] => (a.natAbs < 2 ^ big ∧ b.natAbs < 2 ^ big ∧ c.natAbs < 2 ^ big) ∧ Q (.d (.int ((Nat.lcm (Nat.lcm a.natAbs b.natAbs) c.natAbs : Nat) : Int))) h
  | _ => False
theorem cp_lcm3 {X : Cx} : CpA X rLcm3V rLcm3 := by
  intro xs h Q vs as H QV rv hR hq k
  unfold rLcm3 at hq
  split at hq
  · obtain ⟨u, v, w, rfl, r1, r2, r3⟩ := relAll3 rv
    rw [rel_int r1, rel_int r2, rel_int r3]
    exact ⟨_, _, _, rfl, hq.1, k.qd hR hq.2 (.int _)⟩
  · exact hq.elim
theorem SE.lcm3 {X : Cx} {W : WX} {a : Expr} {es : List Expr} {ga : WA} {pos p : Pos} (hg : Gl X "lcm") (hm : X.mg "lcm" = some (.builtin "math.lcm")) (ha : SA X W (a :: es) ga) (he : starEach (a :: es) X.env = (false, eval a X.env) :: starEach es X.env := by rfl) (hpl : (backTo pos (starEach es X.env)).any (·.1) = false := by rfl) : SE X W (.Call (.Name "lcm" p) (a :: es) [] pos) (fCall rLcm3 ga) := .callM cr_lcm3 cp_lcm3 hg hm ha (he := he) (hpl := hpl)
theorem i_lcm3 {a b c : Int} {h : Ho} {Q : KD} (hb : a.natAbs < 2 ^ big ∧ b.natAbs < 2 ^ big ∧ c.natAbs < 2 ^ big) (k : Q (.d (.int ((Nat.lcm (Nat.lcm a.natAbs b.natAbs) c.natAbs : Nat) : Int))) h) : rLcm3 [.d (.int a), .d (.int b), .d (.int c)] h Q := ⟨hb, k⟩
/-- no greater than n binary figures -/
def Bd (n : Nat) (i : Int) : Prop := i.natAbs < 2 ^ n
theorem Bd.mono {n m : Nat} {i : Int} (h : Bd n i) (k : n ≤ m) : Bd m i := Nat.lt_of_lt_of_le h (Nat.pow_le_pow_right (by decide) k)
theorem Bd.add {n m : Nat} {i j : Int} (a : Bd n i) (b : Bd m j) : Bd (max n m + 1) (i + j) := by
  have a' := a.mono (Nat.le_max_left n m)
  have b' := b.mono (Nat.le_max_right n m)
  unfold Bd at *
  rw [Nat.pow_succ]
  have := Int.natAbs_add_le i j
  omega
theorem Bd.neg {n : Nat} {i : Int} (a : Bd n i) : Bd n (-i) := by
  unfold Bd at *
  rw [Int.natAbs_neg]; exact a
theorem Bd.sub {n m : Nat} {i j : Int} (a : Bd n i) (b : Bd m j) : Bd (max n m + 1) (i - j) := by
  rw [Int.sub_eq_add_neg]
  exact a.add b.neg
theorem Bd.mul {n m : Nat} {i j : Int} (a : Bd n i) (b : Bd m j) : Bd (n + m) (i * j) := by
  unfold Bd at *
  rw [Int.natAbs_mul]
  exact mul_lt_pow a b
theorem Bd.div {n : Nat} {i : Int} {k : Nat} (a : Bd n i) : Bd n (i.fdiv (k : Int)) := Nat.lt_of_le_of_lt (v_fdiv_le i k) a
theorem cmB {n m : Nat} {i j : Int} (a : Bd n i) (b : Bd m j) (h : n + m < 900000) : CMulW i j := by
  have e1 := log2_lt (Nat.succ_pos n) (a.mono (Nat.le_succ n))
  have e2 := log2_lt (Nat.succ_pos m) (b.mono (Nat.le_succ m))
  unfold CMulW
  omega
end V2
set_option Elab.async false
set_option linter.all false
set_option maxRecDepth 100000
set_option maxHeartbeats 4000000
/-! ## Points as data, and their grid -/
namespace V2
open PySem PySem.Spec PyProof.Rows L2
abbrev Pt := Rat × Rat
abbrev ptD (p : Pt) : PyData := .tuple [fr p.1, fr p.2]
def Lc (pts : List Pt) : Nat := pts.foldl (fun L p => Nat.lcm (Nat.lcm L p.1.den) p.2.den) 1
theorem Lc_snoc (pts : List Pt) (p : Pt) : Lc (pts ++ [p]) = Nat.lcm (Nat.lcm (Lc pts) p.1.den) p.2.den := by
  unfold Lc
  rw [List.foldl_append]
  rfl
theorem Lc_take_succ {pts : List Pt} {k : Nat} {p : Pt} (h : pts[k]? = some p) : Lc (pts.take (k + 1)) = Nat.lcm (Nat.lcm (Lc (pts.take k)) p.1.den) p.2.den := by
  rw [List.take_succ, h]
  exact Lc_snoc _ _
theorem Lc_ne (pts : List Pt) : Lc pts ≠ 0 := by
  have aux : ∀ (n : Nat) (qs : List Pt), qs.length = n → Lc qs ≠ 0 := by
    intro n
    induction n with
    | zero => intro qs e; cases qs with
      | nil => decide
      | cons a l => cases e
    | succ n ih =>
      intro qs e
      rcases List.eq_nil_or_concat qs with rfl | ⟨l, c, rfl⟩
      · cases e
      · rw [List.concat_eq_append, Lc_snoc]
        have h1 := ih l (by simpa using e)
        exact Nat.lcm_ne_zero (Nat.lcm_ne_zero h1 c.1.den_nz) c.2.den_nz
  exact aux _ pts rfl
theorem Lc_step_dvd {pts : List Pt} {k : Nat} : Lc (pts.take k) ∣ Lc (pts.take (k + 1)) := by
  cases h : pts[k]? with
  | none => rw [List.take_succ, h]; simp
  | some p =>
    rw [Lc_take_succ h]
    exact Nat.dvd_trans (Nat.dvd_lcm_left _ _) (Nat.dvd_lcm_left _ _)
theorem Lc_take_dvd {pts : List Pt} {k : Nat} : ∀ j, Lc (pts.take k) ∣ Lc (pts.take (k + j))
  | 0 => Nat.dvd_refl _
  | j + 1 => Nat.dvd_trans (Lc_take_dvd j) Lc_step_dvd
theorem Lc_dvd_all {pts : List Pt} {k : Nat} : Lc (pts.take k) ∣ Lc pts := by
  by_cases h : k ≤ pts.length
  · have := Lc_take_dvd (pts := pts) (k := k) (pts.length - k)
    rw [Nat.add_sub_cancel' h, List.take_length] at this
    exact this
  · rw [List.take_of_length_le (by omega)]
    exact Nat.dvd_refl _
theorem Lc_den {pts : List Pt} {p : Pt} (h : p ∈ pts) : p.1.den ∣ Lc pts ∧ p.2.den ∣ Lc pts := by
  obtain ⟨k, hk, e⟩ := List.mem_iff_getElem.1 h
  have e : pts[k]? = some p := by rw [List.getElem?_eq_getElem hk, e]
  have d := Lc_dvd_all (pts := pts) (k := k + 1)
  rw [Lc_take_succ e] at d
  exact ⟨Nat.dvd_trans (Nat.dvd_trans (Nat.dvd_lcm_right _ _) (Nat.dvd_lcm_left _ _)) d, Nat.dvd_trans (Nat.dvd_lcm_right _ _) d⟩
theorem Lc_least {b : Nat} (pts : List Pt) (h : ∀ p ∈ pts, p.1.den ∣ b ∧ p.2.den ∣ b) : Lc pts ∣ b := by
  have aux : ∀ k, Lc (pts.take k) ∣ b := by
    intro k
    induction k with
    | zero => exact ⟨b, by show b = Lc [] * b; rw [show Lc [] = 1 from rfl, Nat.one_mul]⟩
    | succ k ih =>
      cases e : pts[k]? with
      | none => rw [List.take_succ, e]; simpa using ih
      | some p =>
        rw [Lc_take_succ e]
        have m : p ∈ pts := List.mem_of_getElem? e
        exact Nat.lcm_dvd (Nat.lcm_dvd ih (h p m).1) (h p m).2
  have := aux pts.length
  rwa [List.take_length] at this
/-- a fraction on the grid of bottom L -/
def gr (L : Nat) (q : Rat) : Int := q.num * ((L : Int).fdiv q.den)
theorem gr_mul {L : Nat} {q : Rat} (h : q.den ∣ L) {x : Int} {b : Nat} (hb : b ≠ 0) (e : q = mkRat x b) : gr L q * b = x * L := by
  obtain ⟨m, rfl⟩ := h
  have hq := Nat.pos_of_ne_zero q.den_nz
  have e1 : ((q.den * m : Nat) : Int).fdiv q.den = m := by
    rw [fdiv_nat, Int.natCast_mul, Int.mul_ediv_cancel_left _ (by omega)]
  unfold gr
  rw [e1]
  have e2 : mkRat q.num q.den = mkRat x b := by rw [Rat.mkRat_self]; exact e
  rw [Rat.mkRat_eq_iff q.den_nz hb] at e2
  rw [Int.natCast_mul]
  have : q.num * ↑m * ↑b = (q.num * b) * m := by rw [Int.mul_assoc, Int.mul_comm (m : Int), ← Int.mul_assoc]
  rw [this, e2, Int.mul_assoc]
abbrev grD (L : Nat) (p : Pt) : PyData := .tuple [.int (gr L p.1), .int (gr L p.2)]
end V2
set_option Elab.async false
set_option linter.all false
set_option maxRecDepth 100000
set_option maxHeartbeats 4000000
/-! ## Lists that are places beside the drawn numbers -/
namespace V2
open PySem PySem.Spec PyProof.Rows L2
section
variable {rest h : Ho}
theorem Deal.len (d : Deal rest h) : h.length = rest.length + 2 := by
  obtain ⟨cs, m, rfl, _⟩ := d.is
  rfl
theorem Deal.get (d : Deal rest h) (i : Nat) : h[i + 2]? = rest[i]? := by
  obtain ⟨cs, m, rfl, _⟩ := d.is
  rfl
theorem Deal.snoc (d : Deal rest h) (o : O) : Deal (rest ++ [o]) (h ++ [o]) := by
  obtain ⟨cs, m, rfl, q⟩ := d.is
  exact ⟨cs, m, rfl, q⟩
theorem Deal.put (d : Deal rest h) (i : Nat) (o : O) : Deal (rest.set i o) (h.set (i + 2) o) := by
  obtain ⟨cs, m, rfl, q⟩ := d.is
  exact ⟨cs, m, rfl, q⟩
theorem Deal.at' (d : Deal rest h) {i : Nat} {o : O} (e : rest[i]? = some o) : h[i + 2]? = some o := by rw [d.get, e]
theorem set_get {α : Type} {xs : List α} {i : Nat} {a b : α} (e : xs[i]? = some a) : (xs.set i b)[i]? = some b := by
  rw [List.getElem?_set_self (List.getElem?_eq_some_iff.1 e).1]
theorem Deal.items (d : Deal rest h) {i : Nat} {xs : List D} (e : rest[i]? = some (.lst xs)) : V2.items h (.loc (i + 2)) = some xs := by
  show (match h[i + 2]? with
    | some (.lst xs) => some xs
    | none => none) = some xs
  rw [d.get, e]
end
section
variable {ρ : En} {h h2 h3 : Ho} {wg : WG} {tt : WT} {te : WE} {st : Ho → Prop} {n : Nat} {QH : Ho → Prop} {xs : List D} {own : List Nat} {wi : WI} {Q : KD} {E : XD}
def accK (st : Ho → Prop) (n : Nat) (G : Ho → Prop) : KD := fun y h2 => match h2[n]? with
  | some (.lst acc) => acc.length < sizeLine ∧ st (h2.set n (.lst (acc ++ [y]))) ∧ G (h2.set n (.lst (acc ++ [y])))
  | none => False
theorem accK_of {G : Ho → Prop} {acc : List D} {y : D} (e : h2[n]? = some (.lst acc)) (l : acc.length < sizeLine) (hst : st (h2.set n (.lst (acc ++ [y])))) (g : G (h2.set n (.lst (acc ++ [y])))) : accK st n G y h2 := by
  simp only [accK, e]
  exact ⟨l, hst, g⟩
theorem lcg_ind (I : Nat → Ho → Prop)
    (hs : ∀ k x h (G : Ho → Prop), xs[k]? = some x → I k h → (∀ h', I (k + 1) h' → G h') → ∃ ρ1, wg x h ρ = some ρ1 ∧ tt ρ1 h (fun b h1 => if b = true then te ρ1 h1 (accK st n G) noX else st h1 ∧ G h1) noX)
    (he : ∀ h, I xs.length h → QH h) (h0 : I 0 h) : lcGo wg tt te st n ρ QH xs h := by
  have aux : ∀ (ys : List D) (k : Nat), (∀ j, ys[j]? = xs[k + j]?) → k + ys.length = xs.length → ∀ h, I k h → lcGo wg tt te st n ρ QH ys h := by
    intro ys
    induction ys with
    | nil => intro k _ hl h hi; exact he h (by rw [← hl]; simpa using hi)
    | cons y ys ih =>
      intro k hj hl h hi
      have ihk := ih (k + 1) (fun j => by rw [Nat.add_assoc, Nat.add_comm 1 j, ← hj (j + 1)]; rfl) (by rw [← hl, List.length_cons]; omega)
      obtain ⟨ρ1, e1, e2⟩ := hs k y h (fun h' => lcGo wg tt te st n ρ QH ys h') (by rw [← Nat.add_zero k, ← hj 0]; rfl) hi ihk
      unfold lcGo
      rw [e1]
      exact e2
  exact aux xs 0 (fun j => by rw [Nat.zero_add]) (by simp) h h0
theorem i_tTrue {P : Bool → Ho → Prop} (k : P true h) : tTrue ρ h P E := k
theorem i_lcl (k : wi ρ h (fun xs st h1 => st (h1 ++ [.lst []]) ∧ lcGo wg tt te st h1.length (wipeD ρ own) (fun h2 => Q (.loc h1.length) h2) xs (h1 ++ [.lst []])) E) : fLcL wi wg tt te own ρ h Q E := k
theorem i_cut {f : WS} {nx : En → Ho → Prop} {rt : KD} {bk ct : En → Ho → Prop} {ex : Ex → En → Ho → Prop} (S : En → Ho → Prop) (tail : ∀ ρ h, S ρ h → nx ρ h) (k : (∀ ρ h, S ρ h → nx ρ h) → f ρ h ⟨nx, rt, bk, ct, ex⟩) : f ρ h ⟨nx, rt, bk, ct, ex⟩ := k tail
end
theorem i_pk3 {x y z : D} {P : List D → Prop} (k : P [z, y, x]) : [x, y, z].length = 3 ∧ ∃ ys, V2.pick [2, 1, 0] [x, y, z] = ys ∧ P ys := ⟨rfl, _, rfl, k⟩
theorem i_pk4 {x y z w : D} {P : List D → Prop} (k : P [w, z, y, x]) : [x, y, z, w].length = 4 ∧ ∃ ys, V2.pick [3, 2, 1, 0] [x, y, z, w] = ys ∧ P ys := ⟨rfl, _, rfl, k⟩
/-- data that can be shown, of some length -/
def Sh (k : Nat) (p : PyData) : Prop := p.showable = true ∧ p.depth ≤ k ∧ PyData.leavesShort 1001 p = true ∧ p.bulk ≤ 4 ^ k
theorem Sh.len {k : Nat} {p : PyData} (s : Sh k p) (hk : k ≤ 5) : p.showable = true ∧ p.depth < 60 ∧ p.shown.length ≤ sizeLine := by
  refine ⟨s.1, by have := s.2.1; omega, ?_⟩
  have h1 := PyData.shown_le_bulk 1001 (by decide) p s.2.2.1
  have h2 := s.2.2.2
  have h3 : 4 ^ k ≤ 4 ^ 5 := Nat.pow_le_pow_right (by decide) hk
  have : sizeLine = 2 ^ 24 := rfl
  have h4 : (1001 + 2) * p.bulk ≤ (1001 + 2) * 4 ^ 5 := Nat.mul_le_mul_left _ (Nat.le_trans h2 h3)
  have : (4 : Nat) ^ 5 = 1024 := by decide
  omega
theorem pt_sh {x y : Rat} (sx : Sz 1000 x) (sy : Sz 1000 y) : Sh 2 (.tuple [fr x, fr y]) := by
  have a1 := fr_showable (by decide) (by decide) sx
  have a2 := fr_showable (by decide) (by decide) sy
  have b1 := fr_leaves (by decide) sx
  have b2 := fr_leaves (by decide) sy
  refine ⟨?_, by show 2 ≤ 2; decide, ?_, by show 6 ≤ 16; decide⟩
  · simp only [PyData.showable, PyData.showableAll, Bool.and_true, Bool.and_eq_true] at *
    exact ⟨‹_›, ‹_›⟩
  · simp only [PyData.leavesShort, PyData.leavesShortAll, Bool.and_true, Bool.and_eq_true] at *
    exact ⟨‹_›, ‹_›⟩
theorem four_sh {p q r s : PyData} (hp : Sh 2 p) (hq : Sh 2 q) (hr : Sh 2 r) (hs : Sh 2 s) : Sh 4 (.list [p, q, r, s]) := by
  refine ⟨?_, ?_, ?_, ?_⟩
  · simp only [PyData.showable, PyData.showableAll, Bool.and_true, hp.1, hq.1, hr.1, hs.1]
  · simp only [PyData.depth, PyData.depthAll]
    have := hp.2.1
    have := hq.2.1
    have := hr.2.1
    have := hs.2.1
    omega
  · simp only [PyData.leavesShort, PyData.leavesShortAll, Bool.and_true, hp.2.2.1, hq.2.2.1, hr.2.2.1, hs.2.2.1]
  · simp only [PyData.bulk, PyData.bulkAll]
    have := hp.2.2.2
    have := hq.2.2.2
    have := hr.2.2.2
    have := hs.2.2.2
    have : (4 : Nat) ^ 4 = 256 := by decide
    omega
theorem int_sh {i : Int} (h : i.natAbs < 2 ^ 1000) : Sh 1 (.int i) := by
  have h1 := log2_lt (by decide : 0 < 1000) h
  refine ⟨?_, by show 0 ≤ 1; decide, ?_, by show 0 ≤ 4; decide⟩
  · simp only [PyData.showable, decide_eq_true_eq]
    omega
  · simp only [PyData.leavesShort, decide_eq_true_eq]
    exact shown_int_len (by decide) h
theorem i_nept {x y x' y' : Rat} {h : Ho} {Q : KD} (e1 : x = x') (e2 : y = y') (k : Q (.d (.bool false)) h) : rNe2 (.d (.tuple [fr x, fr y])) (.d (.tuple [fr x', fr y'])) h Q := by
  subst e1
  subst e2
  refine i_ned rfl rfl rfl rfl ni_tup ?_
  have e : PyData.eqv (.tuple [fr x, fr y]) (.tuple [fr x, fr y]) = true := by simp [PyData.eqv, PyData.eqvAll]
  rw [e]
  exact k
end V2
set_option Elab.async false
set_option linter.all false
set_option maxRecDepth 100000
set_option maxHeartbeats 4000000
/-! ## More steps through a reading -/
namespace V2
open PySem PySem.Spec PyProof.Rows L2
section
variable {ρ : En} {h : Ho} {Q : KD} {E : XD} {fa fb fc : WE} {x : D} {i j : Int}
theorem i_chain {r r' : WR2} (k : fa ρ h (fun x h1 => fb ρ h1 (fun y h2 => r x y h2 (fun z h3 => ∃ b, z = .d (.bool b) ∧ if b = true then fc ρ h3 (fun w h4 => r' y w h4 Q) E else Q (.d (.bool false)) h3)) E) E) : fChain r r' fa fb fc ρ h Q E := by
  have e : ∀ y : D, (fun (z : D) (h3 : Ho) => ∃ b, z = .d (.bool b) ∧ if b = true then fc ρ h3 (fun w h4 => r' y w h4 Q) E else Q (.d (.bool false)) h3) = (fun z h3 => match z with
      | .d (.bool true) => fc ρ h3 (fun w h4 => r' y w h4 Q) E
      | .d (.bool false) => Q (.d (.bool false)) h3
      | _ => False) := by
    intro y
    funext z h3
    apply propext
    constructor
    · rintro ⟨b, rfl, q⟩
      cases b with
      | true => simpa using q
      | false => simpa using q
    · split
      · exact fun q => ⟨true, rfl, by simpa using q⟩
      · exact fun q => ⟨false, rfl, by simpa using q⟩
      · exact False.elim
  simp only [e] at k
  exact k
def mx (i j : Int) : Int := if j > i then j else i
def mn (i j : Int) : Int := if j < i then j else i
theorem i_max2 (k : Q (.d (.int (mx i j))) h) : rMax2 [.d (.int i), .d (.int j)] h Q := k
theorem i_min2 (k : Q (.d (.int (mn i j))) h) : rMin2 [.d (.int i), .d (.int j)] h Q := k
theorem i_isN (k : Q (.d (.bool (isNon x))) h) : rIsN2 x (.d .none) h Q := k
theorem i_notN (k : Q (.d (.bool (!isNon x))) h) : rNotN2 x (.d .none) h Q := k
theorem bd_mx {n m : Nat} {i j : Int} (a : Bd n i) (b : Bd m j) : Bd (max n m) (mx i j) := by
  unfold mx
  split
  · exact b.mono (Nat.le_max_right _ _)
  · exact a.mono (Nat.le_max_left _ _)
theorem bool_sh (b : Bool) : Sh 1 (.bool b) := by
  refine ⟨rfl, by show 0 ≤ 1; decide, ?_, by show 0 ≤ 4; decide⟩
  cases b <;> rfl
theorem i_neG {p q : PyData} (e : p = q) (hs : SeqAt.shaped p = true) (k : Q (.d (.bool false)) h) : rNe2 (.d p) (.d q) h Q := by
  subst e
  have hr : PyData.eqv p p = true := SeqAt.eqv_refl p (by unfold SeqAt.shaped at hs; exact (Bool.and_eq_true_iff.1 hs).1)
  unfold rNe2
  split
  · rename_i i j e1 e2
    cases e1; cases e2
    rw [decide_eq_true rfl]; exact k
  · rename_i i j e1 e2
    cases e1; cases e2
    rw [decide_eq_true rfl]; exact k
  · show (match datum h (.d p), datum h (.d p) with
      | some p, some q => SeqAt.shaped p = true ∧ SeqAt.shaped q = true ∧ Q (.d (.bool (!PyData.eqv p q))) h
      | _, _ => False)
    refine ⟨hs, hs, ?_⟩
    rw [hr]
    exact k
theorem i_eqG {p q : PyData} (e : p = q) (hs : SeqAt.shaped p = true) (k : Q (.d (.bool true)) h) : rEq2 (.d p) (.d q) h Q := by
  subst e
  have hr : PyData.eqv p p = true := SeqAt.eqv_refl p (by unfold SeqAt.shaped at hs; exact (Bool.and_eq_true_iff.1 hs).1)
  unfold rEq2
  split
  · rename_i i j e1 e2
    cases e1; cases e2
    rw [decide_eq_true rfl]; exact k
  · rename_i i j e1 e2
    cases e1; cases e2
    rw [decide_eq_true rfl]; exact k
  · show (match datum h (.d p), datum h (.d p) with
      | some p, some q => SeqAt.shaped p = true ∧ SeqAt.shaped q = true ∧ Q (.d (.bool (PyData.eqv p q))) h
      | _, _ => False)
    refine ⟨hs, hs, ?_⟩
    rw [hr]
    exact k
theorem none_sh : Sh 1 .none := ⟨rfl, by show 0 ≤ 1; decide, rfl, by show 0 ≤ 4; decide⟩
end
end V2
set_option Elab.async false
set_option linter.all false
set_option maxRecDepth 100000
set_option maxHeartbeats 4000000
/-! ## What comes behind a statement, by a name -/
namespace V2
open PySem PySem.Spec PyProof.Rows L2
def Go (nx : En → Ho → Prop) (g : WS) (D : Nx) : Prop := ∀ ρ h, g ρ h D → nx ρ h
section
variable {ρ : En} {h : Ho} {nx : En → Ho → Prop} {rt : KD} {bk ct : En → Ho → Prop} {ex : Ex → En → Ho → Prop} {f g : WS} {D : Nx}
theorem i_seqg (k : ∀ nx', Go nx' g ⟨nx, rt, bk, ct, ex⟩ → f ρ h ⟨nx', rt, bk, ct, ex⟩) : sSeq f g ρ h ⟨nx, rt, bk, ct, ex⟩ := k _ fun _ _ q => q
theorem i_go (a : Go nx g D) (k : g ρ h D) : nx ρ h := a _ _ k
theorem i_nesr {i : Str} {Q : KD} (k : Q (.d (.bool false)) h) : rNe2 (.d (.str i)) (.d (.str i)) h Q := by
  refine i_nes ?_
  rw [decide_eq_true rfl]
  exact k
end
end V2
set_option Elab.async false
set_option linter.all false
set_option maxRecDepth 100000
set_option maxHeartbeats 8000000
namespace LW
open PySem PySem.Spec PyProof.Rows L2 V2
open PySem.W (Frag)

/-! the readings over data -/
def B_fraction : WS := (sSeq (sIf (tVal (fBin rEq2 (fVar 1) (fC (.int 0)))) (sRaise "InvalidSize" "word" (aCons (fC (.str "bottom")) aNil)) sNext)
  (sSeq (sAsg (fCall rGcd2 (aCons (fVar 0) (aCons (fVar 1) aNil))) (gNm 2))
  (sSeq (sIf (tVal (fBin (rCmp2 fun i j => decide (i < j)) (fVar 1) (fC (.int 0)))) (sAsg (fUn (fun i => .int (-i)) (fVar 2)) (gNm 2)) sNext)
  (sRet (fTup (aCons (fBin rDiv2 (fVar 0) (fVar 2)) (aCons (fBin rDiv2 (fVar 1) (fVar 2)) aNil)))))))
def M_fraction : WF := mir 3 2 B_fraction
def B_whole : WS := (sRet (fTup (aCons (fVar 0) (aCons (fC (.int 1)) aNil))))
def M_whole : WF := mir 1 1 B_whole
def B_plus : WS := (sSeq (sAsg (fVar 0) (gTp 2 (gsCons (gNm 2) (gsCons (gNm 3) gsNil))))
  (sSeq (sAsg (fVar 1) (gTp 2 (gsCons (gNm 4) (gsCons (gNm 5) gsNil))))
  (sSeq (sAsg (fCall rGcd2 (aCons (fVar 3) (aCons (fVar 5) aNil))) (gNm 6))
  (sSeq (sAsg (fBin rDiv2 (fVar 3) (fVar 6)) (gNm 7))
  (sSeq (sAsg (fBin rAdd2 (fBin rMul2 (fVar 2) (fBin rDiv2 (fVar 5) (fVar 6))) (fBin rMul2 (fVar 4) (fVar 7))) (gNm 8))
  (sSeq (sAsg (fCall rGcd2 (aCons (fVar 8) (aCons (fVar 6) aNil))) (gNm 9))
  (sRet (fTup (aCons (fBin rDiv2 (fVar 8) (fVar 9)) (aCons (fBin rMul2 (fVar 7) (fBin rDiv2 (fVar 5) (fVar 9))) aNil))))))))))
def M_plus : WF := mir 10 2 B_plus
def B_times : WS := (sSeq (sAsg (fVar 0) (gTp 2 (gsCons (gNm 2) (gsCons (gNm 3) gsNil))))
  (sSeq (sAsg (fVar 1) (gTp 2 (gsCons (gNm 4) (gsCons (gNm 5) gsNil))))
  (sSeq (sPar 6 7 (aCons (fCall rGcd2 (aCons (fVar 2) (aCons (fVar 5) aNil))) (aCons (fCall rGcd2 (aCons (fVar 4) (aCons (fVar 3) aNil))) aNil)))
  (sRet (fTup (aCons (fBin rMul2 (fBin rDiv2 (fVar 2) (fVar 6)) (fBin rDiv2 (fVar 4) (fVar 7))) (aCons (fBin rMul2 (fBin rDiv2 (fVar 3) (fVar 7)) (fBin rDiv2 (fVar 5) (fVar 6))) aNil)))))))
def M_times : WF := mir 8 2 B_times
def B_negative : WS := (sRet (fTup (aCons (fUn (fun i => .int (-i)) (fBin rIx2 (fVar 0) (fC (.int 0)))) (aCons (fBin rIx2 (fVar 0) (fC (.int 1))) aNil))))
def M_negative : WF := mir 1 1 B_negative
def B_sign_of : WS := (sSeq (sIf (tVal (fBin (rCmp2 fun i j => decide (j < i)) (fBin rIx2 (fVar 0) (fC (.int 0))) (fC (.int 0)))) (sRet (fC (.int 1))) sNext)
  (sSeq (sIf (tVal (fBin (rCmp2 fun i j => decide (i < j)) (fBin rIx2 (fVar 0) (fC (.int 0))) (fC (.int 0)))) (sRet (fUn (fun i => .int (-i)) (fC (.int 1)))) sNext)
  (sRet (fC (.int 0)))))
def M_sign_of : WF := mir 1 1 B_sign_of
def B_on_grid : WS := (sSeq (sAsg (fC (.int 1)) (gNm 1))
  (sSeq (sFor (iSeq (fVar 0)) (gTp 2 (gsCons (gTp 2 (gsCons (gNm 2) (gsCons (gNm 3) gsNil))) (gsCons (gTp 2 (gsCons (gNm 2) (gsCons (gNm 4) gsNil))) gsNil))) (sAsg (fCall rLcm3 (aCons (fVar 1) (aCons (fVar 3) (aCons (fVar 4) aNil)))) (gNm 1)))
  (sRet (fTup (aCons (fVar 1) (aCons (fLcV (iSeq (fVar 0)) (gTp 2 (gsCons (gTp 2 (gsCons (gNm 5) (gsCons (gNm 6) gsNil))) (gsCons (gTp 2 (gsCons (gNm 7) (gsCons (gNm 8) gsNil))) gsNil))) tTrue (fTup (aCons (fBin rMul2 (fVar 5) (fBin rDiv2 (fVar 1) (fVar 6))) (aCons (fBin rMul2 (fVar 7) (fBin rDiv2 (fVar 1) (fVar 8))) aNil))) [5, 6, 7, 8]) aNil))))))
def M_on_grid : WF := mir 9 1 B_on_grid
def B_whole_area : WS := (sRet (fBin rSub2 (fBin rMul2 (fBin rSub2 (fBin rIx2 (fVar 1) (fC (.int 0))) (fBin rIx2 (fVar 0) (fC (.int 0)))) (fBin rSub2 (fBin rIx2 (fVar 2) (fC (.int 1))) (fBin rIx2 (fVar 0) (fC (.int 1))))) (fBin rMul2 (fBin rSub2 (fBin rIx2 (fVar 1) (fC (.int 1))) (fBin rIx2 (fVar 0) (fC (.int 1)))) (fBin rSub2 (fBin rIx2 (fVar 2) (fC (.int 0))) (fBin rIx2 (fVar 0) (fC (.int 0)))))))
def M_whole_area : WF := mir 3 3 B_whole_area
def B__law_source : WS := (sSeq (sAsg (fLcV (iSeq (fSl (fVar 0) oNone (oSome (fC (.int 63))))) (gNm 2) tTrue (fCall rAbs (aCons (fCall rInt1 (aCons (fVar 2) aNil)) aNil)) [2]) (gNm 1))
  (sSeq (sAsg (fC (.int 59009)) (gNm 3))
  (sSeq (sFor (iSeq (fVar 1)) (gNm 2) (sAsg (fBin rMod2 (fCall rInt1 (aCons (fBin rAdd2 (fBin rAdd2 (fBin rMul2 (fVar 3) (fC (.int 48271))) (fBin rMod2 (fVar 2) (fC (.int 2147483549)))) (fC (.int 41))) aNil)) (fC (.int 2147483647))) (gNm 3)))
  (sRet (fLoc (aCons (fRevLoc (fLcV (iSeq (fVar 1)) (gNm 2) (tVal (fBin (rCmp2 fun i j => decide (j ≤ i)) (fVar 2) (fBin rPow2 (fC (.int 10)) (fC (.int 18))))) (fVar 2) [2])) (aCons (fVar 3) aNil)))))))
def M__law_source : WF := mir 4 1 B__law_source
def B__law_any : WS := (sSeq (sWhile (tAnd2 (tVal (fBin rNe2 (fBin rIx2 (fVar 0) (fC (.int 0))) (fLst aNil))) (tVal (fBin rEq2 (fBin rIx2 (fBin rIx2 (fVar 0) (fC (.int 0))) (fUn (fun i => .int (-i)) (fC (.int 1)))) (fC (.int 0))))) (sDrop (fPop (fBin rIx2 (fVar 0) (fC (.int 0))))))
  (sSeq (sIf (tVal (fBin rNe2 (fBin rIx2 (fVar 0) (fC (.int 0))) (fLst aNil))) (sSeq (sAsg (fCall rInt1 (aCons (fPop (fBin rIx2 (fVar 0) (fC (.int 0)))) aNil)) (gNm 2))
  (sSeq (sDrop (fAppend (fBin rIx2 (fVar 0) (fC (.int 0))) (aCons (fBin rDiv2 (fVar 2) (fVar 1)) aNil)))
  (sRet (fBin rMod2 (fVar 2) (fVar 1))))) sNext)
  (sSeq (sSub (fBin rMod2 (fCall rInt1 (aCons (fBin rAdd2 (fBin rMul2 (fBin rIx2 (fVar 0) (fC (.int 1))) (fC (.int 48271))) (fC (.int 41))) aNil)) (fC (.int 2147483647))) (fVar 0) (fC (.int 1)))
  (sRet (fBin rMod2 (fCall rInt1 (aCons (fBin rDiv2 (fBin rIx2 (fVar 0) (fC (.int 1))) (fC (.int 64))) aNil)) (fVar 1))))))
def M__law_any : WF := mir 3 2 B__law_any
def B__law_common : WS := (sSeq (sPar 0 1 (aCons (fCall rAbs (aCons (fCall rInt1 (aCons (fVar 0) aNil)) aNil)) (aCons (fCall rAbs (aCons (fCall rInt1 (aCons (fVar 1) aNil)) aNil)) aNil)))
  (sSeq (sFor (iRange1 (aCons (fC (.int 9000)) aNil)) (gNm 2) (sSeq (sIf (tVal (fBin rEq2 (fVar 1) (fC (.int 0)))) sBrk sNext)
  (sPar 0 1 (aCons (fVar 1) (aCons (fBin rMod2 (fCall rInt1 (aCons (fVar 0) aNil)) (fVar 1)) aNil)))))
  (sRet (fVar 0))))
def M__law_common : WF := mir 3 2 B__law_common
def B__law_same : WS := (sRet (fBin rEq2 (fCall rRepr (aCons (fVar 0) aNil)) (fCall rRepr (aCons (fVar 1) aNil))))
def M__law_same : WF := mir 2 2 B__law_same
def B__law_cross : WS := (sRet (fBin rAdd2 (fBin rAdd2 (fBin rMul2 (fBin rIx2 (fVar 0) (fC (.int 0))) (fBin rSub2 (fBin rIx2 (fVar 1) (fC (.int 1))) (fBin rIx2 (fVar 2) (fC (.int 1))))) (fBin rMul2 (fBin rIx2 (fVar 1) (fC (.int 0))) (fBin rSub2 (fBin rIx2 (fVar 2) (fC (.int 1))) (fBin rIx2 (fVar 0) (fC (.int 1)))))) (fBin rMul2 (fBin rIx2 (fVar 2) (fC (.int 0))) (fBin rSub2 (fBin rIx2 (fVar 0) (fC (.int 1))) (fBin rIx2 (fVar 1) (fC (.int 1)))))))
def M__law_cross : WF := mir 3 3 B__law_cross
def B__law_sign : WS := (sRet (fIf (tVal (fBin (rCmp2 fun i j => decide (j < i)) (fVar 0) (fC (.int 0)))) (fC (.int 1)) (fIf (tVal (fBin rEq2 (fVar 0) (fC (.int 0)))) (fC (.int 0)) (fUn (fun i => .int (-i)) (fC (.int 1))))))
def M__law_sign : WF := mir 1 1 B__law_sign
def B__law_parts : WS := (sSeq (sAsg (fTup (aCons (fTup (aCons (fBin rSub2 (fBin rIx2 (fVar 1) (fC (.int 0))) (fBin rIx2 (fVar 0) (fC (.int 0)))) (aCons (fBin rSub2 (fBin rIx2 (fVar 1) (fC (.int 1))) (fBin rIx2 (fVar 0) (fC (.int 1)))) aNil))) (aCons (fTup (aCons (fBin rSub2 (fBin rIx2 (fVar 3) (fC (.int 0))) (fBin rIx2 (fVar 2) (fC (.int 0)))) (aCons (fBin rSub2 (fBin rIx2 (fVar 3) (fC (.int 1))) (fBin rIx2 (fVar 2) (fC (.int 1)))) aNil))) aNil))) (gTp 2 (gsCons (gTp 2 (gsCons (gNm 4) (gsCons (gNm 5) gsNil))) (gsCons (gTp 2 (gsCons (gNm 6) (gsCons (gNm 7) gsNil))) gsNil))))
  (sSeq (sAsg (fBin rSub2 (fBin rMul2 (fVar 4) (fVar 7)) (fBin rMul2 (fVar 5) (fVar 6))) (gNm 8))
  (sSeq (sAsg (fBin rSub2 (fBin rMul2 (fBin rSub2 (fBin rIx2 (fVar 2) (fC (.int 0))) (fBin rIx2 (fVar 0) (fC (.int 0)))) (fVar 7)) (fBin rMul2 (fBin rSub2 (fBin rIx2 (fVar 2) (fC (.int 1))) (fBin rIx2 (fVar 0) (fC (.int 1)))) (fVar 6))) (gNm 9))
  (sSeq (sAsg (fBin rSub2 (fBin rMul2 (fBin rSub2 (fBin rIx2 (fVar 2) (fC (.int 0))) (fBin rIx2 (fVar 0) (fC (.int 0)))) (fVar 5)) (fBin rMul2 (fBin rSub2 (fBin rIx2 (fVar 2) (fC (.int 1))) (fBin rIx2 (fVar 0) (fC (.int 1)))) (fVar 4))) (gNm 10))
  (sSeq (sIf (tVal (fBin (rCmp2 fun i j => decide (i < j)) (fVar 8) (fC (.int 0)))) (sPar3 9 10 8 (aCons (fBin rSub2 (fC (.int 0)) (fVar 9)) (aCons (fBin rSub2 (fC (.int 0)) (fVar 10)) (aCons (fBin rSub2 (fC (.int 0)) (fVar 8)) aNil)))) sNext)
  (sRet (fIf (tAnd2 (tVal (fChain (rCmp2 fun i j => decide (i < j)) (rCmp2 fun i j => decide (i < j)) (fC (.int 0)) (fVar 9) (fVar 8))) (tVal (fChain (rCmp2 fun i j => decide (i < j)) (rCmp2 fun i j => decide (i < j)) (fC (.int 0)) (fVar 10) (fVar 8)))) (fTup (aCons (fVar 9) (aCons (fVar 10) (aCons (fVar 8) aNil)))) (fC .none))))))))
def M__law_parts : WF := mir 11 4 B__law_parts
def B_minus : WS := (sRet (fFn M_plus (aCons (fVar 0) (aCons (fFn M_negative (aCons (fVar 1) aNil)) aNil))))
def M_minus : WF := mir 2 2 B_minus
def B_whole_turn : WS := (sRet (fFn M_sign_of (aCons (fFn M_whole (aCons (fFn M_whole_area (aCons (fVar 0) (aCons (fVar 1) (aCons (fVar 2) aNil)))) aNil)) aNil)))
def M_whole_turn : WF := mir 3 3 B_whole_turn
def B_whole_on : WS := (sRet (fAnd (fChain (rCmp2 fun i j => decide (i ≤ j)) (rCmp2 fun i j => decide (i ≤ j)) (fCall rMin2 (aCons (fBin rIx2 (fVar 0) (fC (.int 0))) (aCons (fBin rIx2 (fVar 1) (fC (.int 0))) aNil))) (fBin rIx2 (fVar 2) (fC (.int 0))) (fCall rMax2 (aCons (fBin rIx2 (fVar 0) (fC (.int 0))) (aCons (fBin rIx2 (fVar 1) (fC (.int 0))) aNil)))) (fAnd (fChain (rCmp2 fun i j => decide (i ≤ j)) (rCmp2 fun i j => decide (i ≤ j)) (fCall rMin2 (aCons (fBin rIx2 (fVar 0) (fC (.int 1))) (aCons (fBin rIx2 (fVar 1) (fC (.int 1))) aNil))) (fBin rIx2 (fVar 2) (fC (.int 1))) (fCall rMax2 (aCons (fBin rIx2 (fVar 0) (fC (.int 1))) (aCons (fBin rIx2 (fVar 1) (fC (.int 1))) aNil)))) (fBin rEq2 (fFn M_whole_area (aCons (fVar 0) (aCons (fVar 1) (aCons (fVar 2) aNil)))) (fC (.int 0))))))
def M_whole_on : WF := mir 3 3 B_whole_on
def B__law_of : WS := (sRet (fBin rIx2 (fVar 1) (fFn M__law_any (aCons (fVar 0) (aCons (fCall rLen (aCons (fVar 1) aNil)) aNil)))))
def M__law_of : WF := mir 2 2 B__law_of
def B__law_low : WS := (sSeq (sAsg (fFn M__law_common (aCons (fVar 0) (aCons (fVar 1) aNil))) (gNm 2))
  (sRet (fTup (aCons (fBin rDiv2 (fCall rInt1 (aCons (fVar 0) aNil)) (fVar 2)) (aCons (fBin rDiv2 (fCall rInt1 (aCons (fVar 1) aNil)) (fVar 2)) aNil)))))
def M__law_low : WF := mir 3 2 B__law_low
def B__law_on : WS := (sSeq (sIf (tVal (fBin rNe2 (fFn M__law_cross (aCons (fVar 0) (aCons (fVar 1) (aCons (fVar 2) aNil)))) (fC (.int 0)))) (sRet (fC (.bool false))) sNext)
  (sRet (fAnd (fChain (rCmp2 fun i j => decide (i ≤ j)) (rCmp2 fun i j => decide (i ≤ j)) (fCall rMin2 (aCons (fBin rIx2 (fVar 0) (fC (.int 0))) (aCons (fBin rIx2 (fVar 1) (fC (.int 0))) aNil))) (fBin rIx2 (fVar 2) (fC (.int 0))) (fCall rMax2 (aCons (fBin rIx2 (fVar 0) (fC (.int 0))) (aCons (fBin rIx2 (fVar 1) (fC (.int 0))) aNil)))) (fChain (rCmp2 fun i j => decide (i ≤ j)) (rCmp2 fun i j => decide (i ≤ j)) (fCall rMin2 (aCons (fBin rIx2 (fVar 0) (fC (.int 1))) (aCons (fBin rIx2 (fVar 1) (fC (.int 1))) aNil))) (fBin rIx2 (fVar 2) (fC (.int 1))) (fCall rMax2 (aCons (fBin rIx2 (fVar 0) (fC (.int 1))) (aCons (fBin rIx2 (fVar 1) (fC (.int 1))) aNil)))))))
def M__law_on : WF := mir 3 3 B__law_on
def B_moved : WS := (sRet (fTup (aCons (fFn M_plus (aCons (fBin rIx2 (fVar 0) (fC (.int 0))) (aCons (fFn M_times (aCons (fVar 2) (aCons (fFn M_minus (aCons (fBin rIx2 (fVar 1) (fC (.int 0))) (aCons (fBin rIx2 (fVar 0) (fC (.int 0))) aNil))) aNil))) aNil))) (aCons (fFn M_plus (aCons (fBin rIx2 (fVar 0) (fC (.int 1))) (aCons (fFn M_times (aCons (fVar 2) (aCons (fFn M_minus (aCons (fBin rIx2 (fVar 1) (fC (.int 1))) (aCons (fBin rIx2 (fVar 0) (fC (.int 1))) aNil))) aNil))) aNil))) aNil))))
def M_moved : WF := mir 3 3 B_moved
def B_on_segment : WS := (sSeq (sAsg (fFn M_on_grid (aCons (fTup (aCons (fVar 0) (aCons (fVar 1) (aCons (fVar 2) aNil)))) aNil)) (gTp 2 (gsCons (gNm 3) (gsCons (gTp 3 (gsCons (gNm 4) (gsCons (gNm 5) (gsCons (gNm 6) gsNil)))) gsNil))))
  (sRet (fFn M_whole_on (aCons (fVar 4) (aCons (fVar 5) (aCons (fVar 6) aNil))))))
def M_on_segment : WF := mir 7 3 B_on_segment
def B_whole_crosses : WS := (sRet (fAnd (fBin (rCmp2 fun i j => decide (i < j)) (fBin rMul2 (fFn M_whole_turn (aCons (fVar 0) (aCons (fVar 1) (aCons (fVar 2) aNil)))) (fFn M_whole_turn (aCons (fVar 0) (aCons (fVar 1) (aCons (fVar 3) aNil))))) (fC (.int 0))) (fBin (rCmp2 fun i j => decide (i < j)) (fBin rMul2 (fFn M_whole_turn (aCons (fVar 2) (aCons (fVar 3) (aCons (fVar 0) aNil)))) (fFn M_whole_turn (aCons (fVar 2) (aCons (fVar 3) (aCons (fVar 1) aNil))))) (fC (.int 0)))))
def M_whole_crosses : WF := mir 4 4 B_whole_crosses
def B__law_spot : WS := (sSeq (sAsg (fBin rAdd2 (fBin rMul2 (fC (.int 2)) (fVar 1)) (fC (.int 1))) (gNm 2))
  (sRet (fTup (aCons (fFn M__law_of (aCons (fVar 0) (aCons (fLst (aCons (fC (.int 0)) (aCons (fBin rSub2 (fFn M__law_any (aCons (fVar 0) (aCons (fVar 2) aNil))) (fVar 1)) (aCons (fBin rSub2 (fFn M__law_any (aCons (fVar 0) (aCons (fVar 2) aNil))) (fVar 1)) aNil)))) aNil))) (aCons (fBin rSub2 (fFn M__law_any (aCons (fVar 0) (aCons (fVar 2) aNil))) (fVar 1)) aNil)))))
def M__law_spot : WF := mir 3 2 B__law_spot
def B__law_point : WS := (sRet (fTup (aCons (fFn M__law_low (aCons (fBin rIx2 (fVar 0) (fC (.int 0))) (aCons (fVar 1) aNil))) (aCons (fFn M__law_low (aCons (fBin rIx2 (fVar 0) (fC (.int 1))) (aCons (fVar 1) aNil))) aNil))))
def M__law_point : WF := mir 2 2 B__law_point
def B__law_point_due : WS := (sSeq (sIf (tVal (fBin rIsN2 (fVar 2) (fC .none))) (sRet (fC .none)) sNext)
  (sSeq (sPar3 4 5 6 (aCons (fBin rIx2 (fVar 2) (fC (.int 2))) (aCons (fBin rSub2 (fBin rIx2 (fVar 1) (fC (.int 0))) (fBin rIx2 (fVar 0) (fC (.int 0)))) (aCons (fBin rSub2 (fBin rIx2 (fVar 1) (fC (.int 1))) (fBin rIx2 (fVar 0) (fC (.int 1)))) aNil))))
  (sRet (fTup (aCons (fFn M__law_low (aCons (fBin rAdd2 (fBin rMul2 (fBin rIx2 (fVar 0) (fC (.int 0))) (fVar 4)) (fBin rMul2 (fBin rIx2 (fVar 2) (fC (.int 0))) (fVar 5))) (aCons (fBin rMul2 (fVar 3) (fVar 4)) aNil))) (aCons (fFn M__law_low (aCons (fBin rAdd2 (fBin rMul2 (fBin rIx2 (fVar 0) (fC (.int 1))) (fVar 4)) (fBin rMul2 (fBin rIx2 (fVar 2) (fC (.int 0))) (fVar 6))) (aCons (fBin rMul2 (fVar 3) (fVar 4)) aNil))) aNil))))))
def M__law_point_due : WF := mir 7 4 B__law_point_due
def B_crosses : WS := (sSeq (sAsg (fFn M_on_grid (aCons (fTup (aCons (fVar 0) (aCons (fVar 1) (aCons (fVar 2) (aCons (fVar 3) aNil))))) aNil)) (gTp 2 (gsCons (gNm 4) (gsCons (gTp 4 (gsCons (gNm 5) (gsCons (gNm 6) (gsCons (gNm 7) (gsCons (gNm 8) gsNil))))) gsNil))))
  (sRet (fFn M_whole_crosses (aCons (fVar 5) (aCons (fVar 6) (aCons (fVar 7) (aCons (fVar 8) aNil)))))))
def M_crosses : WF := mir 9 4 B_crosses
def B_crossing_point : WS := (sSeq (sAsg (fFn M_on_grid (aCons (fTup (aCons (fVar 0) (aCons (fVar 1) (aCons (fVar 2) (aCons (fVar 3) aNil))))) aNil)) (gTp 2 (gsCons (gNm 4) (gsCons (gTp 4 (gsCons (gNm 5) (gsCons (gNm 6) (gsCons (gNm 7) (gsCons (gNm 8) gsNil))))) gsNil))))
  (sSeq (sIf (tNot2 (tVal (fFn M_whole_crosses (aCons (fVar 5) (aCons (fVar 6) (aCons (fVar 7) (aCons (fVar 8) aNil))))))) (sRet (fC .none)) sNext)
  (sSeq (sPar 9 10 (aCons (fFn M_whole_area (aCons (fVar 7) (aCons (fVar 8) (aCons (fVar 5) aNil)))) (aCons (fFn M_whole_area (aCons (fVar 7) (aCons (fVar 8) (aCons (fVar 6) aNil)))) aNil)))
  (sRet (fFn M_moved (aCons (fVar 0) (aCons (fVar 1) (aCons (fFn M_fraction (aCons (fVar 9) (aCons (fBin rSub2 (fVar 9) (fVar 10)) aNil))) aNil))))))))
def M_crossing_point : WF := mir 11 4 B_crossing_point
def B__law_spots : WS := (sSeq (sAsg (fFn M__law_of (aCons (fVar 0) (aCons (fLst (aCons (fC (.int 1)) (aCons (fC (.int 3)) (aCons (fC (.int 40)) aNil)))) aNil))) (gNm 1))
  (sSeq (sAsg (fLcL (iRange1 (aCons (fC (.int 4)) aNil)) (gNm 3) tTrue (fFn M__law_spot (aCons (fVar 0) (aCons (fVar 1) aNil))) [3]) (gNm 2))
  (sSeq (sPar 4 5 (aCons (fFn M__law_any (aCons (fVar 0) (aCons (fC (.int 9)) aNil))) (aCons (fFn M__law_any (aCons (fVar 0) (aCons (fC (.int 4)) aNil))) aNil)))
  (sSeq (sIf (tVal (fBin rEq2 (fVar 4) (fC (.int 0)))) (sSub (fBin rIx2 (fVar 2) (fBin rSub2 (fVar 5) (fC (.int 1)))) (fVar 2) (fVar 5)) sNext)
  (sSeq (sIf (tVal (fBin rEq2 (fVar 4) (fC (.int 1)))) (sSub (fBin rIx2 (fVar 2) (fBin rSub2 (fVar 5) (fC (.int 2)))) (fVar 2) (fVar 5)) sNext)
  (sSeq (sIf (tVal (fBin rEq2 (fVar 4) (fC (.int 2)))) (sAsg (fLcL (iSeq (fVar 2)) (gNm 6) tTrue (fTup (aCons (fFn M__law_any (aCons (fVar 0) (aCons (fC (.int 7)) aNil))) (aCons (fC (.int 0)) aNil))) [6]) (gNm 2)) sNext)
  (sSeq (sIf (tVal (fBin rEq2 (fVar 4) (fC (.int 3)))) (sSeq (sAsg (fLcL (iSeq (fVar 2)) (gNm 6) tTrue (fTup (aCons (fBin rMul2 (fC (.int 2)) (fBin rIx2 (fVar 6) (fC (.int 0)))) (aCons (fBin rMul2 (fC (.int 2)) (fBin rIx2 (fVar 6) (fC (.int 1)))) aNil))) [6]) (gNm 2))
  (sSeq (sPar 7 8 (aCons (fBin rIx2 (fVar 2) (fBin rSub2 (fVar 5) (fC (.int 2)))) (aCons (fBin rIx2 (fVar 2) (fIf (tVal (fBin rEq2 (fBin rMod2 (fCall rInt1 (aCons (fVar 5) aNil)) (fC (.int 2))) (fC (.int 0)))) (fBin rSub2 (fVar 5) (fC (.int 1))) (fBin rSub2 (fVar 5) (fC (.int 3))))) aNil)))
  (sSub (fTup (aCons (fBin rDiv2 (fBin rAdd2 (fBin rIx2 (fVar 7) (fC (.int 0))) (fBin rIx2 (fVar 8) (fC (.int 0)))) (fC (.int 2))) (aCons (fBin rDiv2 (fBin rAdd2 (fBin rIx2 (fVar 7) (fC (.int 1))) (fBin rIx2 (fVar 8) (fC (.int 1)))) (fC (.int 2))) aNil))) (fVar 2) (fVar 5)))) sNext)
  (sSeq (sIf (tVal (fBin rEq2 (fVar 4) (fC (.int 4)))) (sSeq (sAsg (fFn M__law_any (aCons (fVar 0) (aCons (fC (.int 7)) aNil))) (gNm 9))
  (sAsg (fLoc (aCons (fTup (aCons (fBin rAdd2 (fBin rIx2 (fBin rIx2 (fVar 2) (fC (.int 0))) (fC (.int 0))) (fVar 9)) (aCons (fBin rIx2 (fBin rIx2 (fVar 2) (fC (.int 0))) (fC (.int 1))) aNil))) (aCons (fTup (aCons (fBin rSub2 (fBin rIx2 (fBin rIx2 (fVar 2) (fC (.int 0))) (fC (.int 0))) (fVar 9)) (aCons (fBin rIx2 (fBin rIx2 (fVar 2) (fC (.int 0))) (fC (.int 1))) aNil))) (aCons (fTup (aCons (fBin rIx2 (fBin rIx2 (fVar 2) (fC (.int 0))) (fC (.int 0))) (aCons (fC (.int 5)) aNil))) (aCons (fTup (aCons (fBin rIx2 (fBin rIx2 (fVar 2) (fC (.int 0))) (fC (.int 0))) (aCons (fUn (fun i => .int (-i)) (fC (.int 5))) aNil))) aNil))))) (gNm 2))) sNext)
  (sRet (fVar 2))))))))))
def M__law_spots : WF := mir 10 1 B__law_spots
def B__law_whole_right : WS := (sSeq (sAsg (fFn M__law_cross (aCons (fVar 0) (aCons (fVar 1) (aCons (fVar 2) aNil)))) (gNm 5))
  (sSeq (sIf (tOr2 (tNot2 (tVal (fFn M__law_same (aCons (fFn M_whole_area (aCons (fVar 0) (aCons (fVar 1) (aCons (fVar 2) aNil)))) (aCons (fVar 5) aNil))))) (tNot2 (tVal (fFn M__law_same (aCons (fFn M_whole_turn (aCons (fVar 0) (aCons (fVar 1) (aCons (fVar 2) aNil)))) (aCons (fFn M__law_sign (aCons (fVar 5) aNil)) aNil)))))) (sRet (fC (.bool false))) sNext)
  (sSeq (sIf (tOr2 (tVal (fBin rNe2 (fFnK [2, 1, 0] 3 M_whole_area (aCons (fVar 0) (aCons (fVar 1) (aCons (fVar 2) aNil)))) (fBin rSub2 (fC (.int 0)) (fVar 5)))) (tVal (fBin rNe2 (fFnK [2, 1, 0] 3 M_whole_turn (aCons (fVar 0) (aCons (fVar 1) (aCons (fVar 2) aNil)))) (fBin rSub2 (fC (.int 0)) (fFn M__law_sign (aCons (fVar 5) aNil)))))) (sRet (fC (.bool false))) sNext)
  (sSeq (sIf (tOr2 (tNot2 (tVal (fFn M__law_same (aCons (fFn M_whole_crosses (aCons (fVar 0) (aCons (fVar 1) (aCons (fVar 2) (aCons (fVar 3) aNil))))) (aCons (fVar 4) aNil))))) (tVal (fBin rNe2 (fFnK [3, 2, 1, 0] 4 M_whole_crosses (aCons (fVar 0) (aCons (fVar 1) (aCons (fVar 2) (aCons (fVar 3) aNil))))) (fVar 4)))) (sRet (fC (.bool false))) sNext)
  (sRet (fAnd (fFn M__law_same (aCons (fFn M_whole_on (aCons (fVar 0) (aCons (fVar 1) (aCons (fVar 2) aNil)))) (aCons (fFn M__law_on (aCons (fVar 0) (aCons (fVar 1) (aCons (fVar 2) aNil)))) aNil))) (fBin rEq2 (fFnK [2, 1, 0] 3 M_whole_on (aCons (fVar 3) (aCons (fVar 0) (aCons (fVar 1) aNil)))) (fFn M__law_on (aCons (fVar 0) (aCons (fVar 1) (aCons (fVar 3) aNil)))))))))))
def M__law_whole_right : WF := mir 6 5 B__law_whole_right
def B_law : WS := (sSeq (sAsg (fFn M__law_source (aCons (fVar 0) aNil)) (gNm 1))
  (sSeq (sFor (iRange1 (aCons (fC (.int 5)) aNil)) (gNm 2) (sSeq (sAsg (fFn M__law_spots (aCons (fVar 1) aNil)) (gTp 4 (gsCons (gNm 3) (gsCons (gNm 4) (gsCons (gNm 5) (gsCons (gNm 6) gsNil))))))
  (sSeq (sAsg (fFn M__law_of (aCons (fVar 1) (aCons (fLst (aCons (fC (.int 1)) (aCons (fC (.int 2)) (aCons (fBin rAdd2 (fC (.int 1)) (fFn M__law_any (aCons (fVar 1) (aCons (fC (.int 50)) aNil)))) aNil)))) aNil))) (gNm 7))
  (sSeq (sAsg (fTup (aCons (fFn M__law_point (aCons (fVar 3) (aCons (fVar 7) aNil))) (aCons (fFn M__law_point (aCons (fVar 4) (aCons (fVar 7) aNil))) (aCons (fFn M__law_point (aCons (fVar 5) (aCons (fVar 7) aNil))) (aCons (fFn M__law_point (aCons (fVar 6) (aCons (fVar 7) aNil))) aNil))))) (gTp 4 (gsCons (gNm 8) (gsCons (gNm 9) (gsCons (gNm 10) (gsCons (gNm 11) gsNil))))))
  (sSeq (sAsg (fCall rRepr (aCons (fLst (aCons (fVar 8) (aCons (fVar 9) (aCons (fVar 10) (aCons (fVar 11) aNil))))) aNil)) (gNm 12))
  (sSeq (sAsg (fFn M__law_parts (aCons (fVar 3) (aCons (fVar 4) (aCons (fVar 5) (aCons (fVar 6) aNil))))) (gNm 13))
  (sSeq (sAsg (fBin rNotN2 (fVar 13) (fC .none)) (gNm 14))
  (sSeq (sIf (tOr2 (tNot2 (tVal (fFn M__law_same (aCons (fFn M_crosses (aCons (fVar 8) (aCons (fVar 9) (aCons (fVar 10) (aCons (fVar 11) aNil))))) (aCons (fVar 14) aNil))))) (tOr2 (tVal (fBin rNe2 (fFnK [3, 2, 1, 0] 4 M_crosses (aCons (fVar 10) (aCons (fVar 11) (aCons (fVar 9) (aCons (fVar 8) aNil))))) (fVar 14))) (tVal (fBin rNe2 (fFn M_crosses (aCons (fVar 10) (aCons (fVar 11) (aCons (fVar 8) (aCons (fVar 9) aNil))))) (fVar 14))))) (sRet (fC (.bool false))) sNext)
  (sSeq (sAsg (fFn M__law_point_due (aCons (fVar 3) (aCons (fVar 4) (aCons (fVar 13) (aCons (fVar 7) aNil))))) (gNm 15))
  (sSeq (sIf (tOr2 (tNot2 (tVal (fFn M__law_same (aCons (fFn M_crossing_point (aCons (fVar 8) (aCons (fVar 9) (aCons (fVar 10) (aCons (fVar 11) aNil))))) (aCons (fVar 15) aNil))))) (tVal (fBin rNe2 (fFnK [3, 2, 1, 0] 4 M_crossing_point (aCons (fVar 9) (aCons (fVar 8) (aCons (fVar 11) (aCons (fVar 10) aNil))))) (fVar 15)))) (sRet (fC (.bool false))) sNext)
  (sSeq (sFor (iSeq (fTup (aCons (fVar 5) (aCons (fVar 6) (aCons (fVar 3) (aCons (fTup (aCons (fBin rDiv2 (fBin rAdd2 (fBin rIx2 (fVar 3) (fC (.int 0))) (fBin rIx2 (fVar 4) (fC (.int 0)))) (fC (.int 2))) (aCons (fBin rDiv2 (fBin rAdd2 (fBin rIx2 (fVar 3) (fC (.int 1))) (fBin rIx2 (fVar 4) (fC (.int 1)))) (fC (.int 2))) aNil))) (aCons (fTup (aCons (fBin rSub2 (fBin rMul2 (fC (.int 2)) (fBin rIx2 (fVar 4) (fC (.int 0)))) (fBin rIx2 (fVar 3) (fC (.int 0)))) (aCons (fBin rSub2 (fBin rMul2 (fC (.int 2)) (fBin rIx2 (fVar 4) (fC (.int 1)))) (fBin rIx2 (fVar 3) (fC (.int 1)))) aNil))) aNil))))))) (gNm 16) (sSeq (sAsg (fFn M__law_on (aCons (fVar 3) (aCons (fVar 4) (aCons (fVar 16) aNil)))) (gNm 17))
  (sIf (tOr2 (tNot2 (tVal (fFn M__law_same (aCons (fFn M_on_segment (aCons (fVar 8) (aCons (fVar 9) (aCons (fFn M__law_point (aCons (fVar 16) (aCons (fVar 7) aNil))) aNil)))) (aCons (fVar 17) aNil))))) (tVal (fBin rNe2 (fFnK [2, 1, 0] 3 M_on_segment (aCons (fFn M__law_point (aCons (fVar 16) (aCons (fVar 7) aNil))) (aCons (fVar 8) (aCons (fVar 9) aNil)))) (fVar 17)))) (sRet (fC (.bool false))) sNext)))
  (sSeq (sIf (tOr2 (tNot2 (tVal (fFn M__law_whole_right (aCons (fVar 3) (aCons (fVar 4) (aCons (fVar 5) (aCons (fVar 6) (aCons (fVar 14) aNil)))))))) (tNot2 (tVal (fFn M__law_whole_right (aCons (fVar 5) (aCons (fVar 6) (aCons (fVar 3) (aCons (fVar 4) (aCons (fVar 14) aNil))))))))) (sRet (fC (.bool false))) sNext)
  (sIf (tVal (fBin rNe2 (fCall rRepr (aCons (fLst (aCons (fVar 8) (aCons (fVar 9) (aCons (fVar 10) (aCons (fVar 11) aNil))))) aNil)) (fVar 12))) (sRet (fC (.bool false))) sNext)))))))))))))
  (sRet (fC (.bool true)))))
def M_law : WF := mir 18 1 B_law
end LW
set_option Elab.async false
set_option linter.all false
set_option maxRecDepth 100000
set_option maxHeartbeats 40000000
namespace LW
open PySem PySem.Spec PyProof.Rows L2 V2
local macro_rules
  | `(tactic| array_get_dec) => `(tactic| with_reducible first
    | refine i_seq ?_
    | refine i_asg2v (by repeat constructor) (by repeat constructor) (by repeat constructor) ?_
    | refine i_asgn ?_ (by with_unfolding_all exact Nat.le_of_ble_eq_true rfl)
    | refine i_set (by repeat constructor) ?_
    | refine i_par ?_ (by with_unfolding_all exact Nat.le_of_ble_eq_true rfl) (by with_unfolding_all exact Nat.le_of_ble_eq_true rfl)
    | refine i_pair (by repeat constructor) (by repeat constructor) ?_
    | refine i_par3 ?_ (by with_unfolding_all exact Nat.le_of_ble_eq_true rfl) (by with_unfolding_all exact Nat.le_of_ble_eq_true rfl) (by with_unfolding_all exact Nat.le_of_ble_eq_true rfl)
    | refine i_trip (by repeat constructor) (by repeat constructor) (by repeat constructor) ?_
    | refine i_ret ?_
    | refine i_if ?_
    | refine i_var (by repeat constructor) ?_
    | refine i_c ?_
    | refine i_cons ?_
    | refine i_nil ?_
    | refine i_bin ?_
    | refine i_ints0 ?_
    | refine i_ints ?_ ?_
    | refine i_add ?_
    | refine i_eqi ?_
    | refine i_nei ?_
    | refine i_eqs ?_
    | refine i_nes ?_
    | refine i_un ?_
    | refine i_val ?_
    | refine i_isb ?_
    | refine i_isi ?_
    | refine i_isr ?_
    | refine i_and2 ?_
    | refine i_or2 ?_
    | refine i_not2 ?_
    | refine i_fif ?_
    | refine i_fand ?_
    | refine i_tup ?_
    | refine i_lst ?_
    | refine i_all (by repeat constructor) (by with_unfolding_all exact Nat.le_of_ble_eq_true rfl) ?_
    | refine i_ix (by assumption) (by with_unfolding_all exact rfl) ?_
    | refine i_ix (by with_unfolding_all exact rfl) (by with_unfolding_all exact rfl) ?_
    | refine i_call ?_
    | refine i_fn ?_
    | refine i_fnk ?_
    | refine i_pk1 ?_
    | refine i_pk2 ?_
    | refine i_pk3 ?_
    | refine i_pk4 ?_
    | refine i_abs ?_
    | refine i_toint ?_
    | refine i_gcd ?_
    | refine i_lcm3 ?_ ?_
    | refine i_chain ?_
    | refine i_max2 ?_
    | refine i_min2 ?_
    | refine i_isN ?_
    | refine i_notN ?_
    | refine i_len (by with_unfolding_all exact rfl) ?_
    | refine i_drop ?_
    | refine i_pop ?_
    | refine i_append ?_
    | refine i_sub ?_
    | refine i_raise ?_
    | refine i_one ?_
    | refine i_brk ?_
    | refine i_for ?_
    | refine i_range1 ?_
    | refine i_next ?_)

local macro_rules
  | `(tactic| decreasing_trivial_pre_omega) => `(tactic| (apply cmB; (repeat' (first | assumption | apply Bd.add | apply Bd.sub | apply Bd.mul | apply Bd.neg)); decide))

theorem wp_fraction {p : Int} {q : Nat} {h : Ho} {Q : KD} {E : XD} {n : Nat} (hq : q ≠ 0) (hz : q < 2 ^ n) (h0 : 0 < n) (hn : n ≤ 9000) (k : Q (.d (fr (mkRat p q))) h) : M_fraction [.d (.int p), .d (.int q)] h Q E := by
  rw [low_eq hq] at k
  refine i_mir rfl (by repeat constructor) (by repeat constructor) ?_
  unfold B_fraction
  repeat' array_get_dec
  refine i_ifF (decide_eq_false (by exact_mod_cast hq)) ?_
  repeat' array_get_dec
  refine i_ifF (decide_eq_false (by omega)) ?_
  repeat' array_get_dec
  · exact cdiv_gr hq h0 hz hn
  · exact cdiv_gr hq h0 hz hn
  · exact k
theorem wp_common {a b : Int} {n m : Nat} {h : Ho} {Q : KD} {E : XD} (ha : a.natAbs < 2 ^ n) (hb : b.natAbs < 2 ^ m) (hn : n + m ≤ 8000) (k : Q (.d (.int (Nat.gcd a.natAbs b.natAbs : Nat))) h) : M__law_common [.d (.int a), .d (.int b)] h Q E := by
  refine i_mir rfl (by repeat constructor) (by repeat constructor) ?_
  unfold B__law_common
  have ab : ∀ i : Int, (if i < 0 then -i else i) = (i.natAbs : Int) := by intro i; split <;> omega
  repeat' array_get_dec
  refine ⟨by decide, by decide, ?_⟩
  rw [ab, ab]
  refine for_ind (fun k ρ h' => h' = h ∧ ∃ (x y : Nat) (z : Option D), ρ = [some (.d (.int x)), some (.d (.int y)), z] ∧ Nat.gcd x y = Nat.gcd a.natAbs b.natAbs ∧ ((k = 0 ∧ x * y < 2 ^ 8000) ∨ (0 < k ∧ y < x ∧ x * y < 2 ^ (8001 - k)))) ?_ ?_ ?_
  · rintro i x ρ h' G ex ⟨rfl, x, y, z, rfl, eg, hp⟩ hG
    refine ⟨_, rfl, ?_⟩
    show (sSeq _ _) [some (.d (.int x)), some (.d (.int y)), some _] _ _
    repeat' array_get_dec
    refine i_ite (fun c => ?_) (fun c => ?_)
    · have c : (y : Int) = 0 := of_decide_eq_true c
      have c : y = 0 := by exact_mod_cast c
      subst c
      rw [Nat.gcd_zero_right] at eg
      rw [← eg] at k
      repeat' array_get_dec
      exact k
    · have c := of_decide_eq_false c
      have c : 0 < y := by omega
      repeat' array_get_dec
      · exact_mod_cast c
      · refine ⟨trivial, hG _ _ ⟨rfl, y, x % y, _, rfl, ?_, .inr ⟨by omega, Nat.mod_lt _ c, ?_⟩⟩⟩
        · rw [← eg, Nat.gcd_comm y, ← Nat.gcd_rec, Nat.gcd_comm]
        · exact halved c hp
  · rintro ρ h' ⟨rfl, x, y, z, rfl, eg, hp⟩
    have e : (rangeD 0 (9000 : Int).toNat).length = 9000 := by simp [rangeD]
    rw [e] at hp
    have y0 : y = 0 := by
      rcases hp with ⟨hp, _⟩ | ⟨_, h1, h2⟩
      · exact absurd hp (by decide)
      · have : x * y = 0 := by
          have e : 8001 - 9000 = 0 := by decide
          rw [e] at h2
          omega
        rcases Nat.mul_eq_zero.1 this with z | z
        · omega
        · exact z
    subst y0
    rw [Nat.gcd_zero_right] at eg
    rw [← eg] at k
    repeat' array_get_dec
    exact k
  · exact ⟨rfl, _, _, _, rfl, rfl, .inl ⟨rfl, Nat.lt_of_lt_of_le (mul_lt_pow ha hb) (Nat.pow_le_pow_right (by decide) hn)⟩⟩
theorem wp_low {p : Int} {q : Nat} {n m : Nat} {h : Ho} {Q : KD} {E : XD} (hq : q ≠ 0) (ha : p.natAbs < 2 ^ n) (hb : q < 2 ^ m) (h0 : 0 < m) (hn : n + m ≤ 8000) (k : Q (.d (fr (mkRat p q))) h) : M__law_low [.d (.int p), .d (.int q)] h Q E := by
  rw [low_eq hq] at k
  refine i_mir rfl (by repeat constructor) (by repeat constructor) ?_
  unfold B__law_low
  repeat' array_get_dec
  refine wp_common ha (by rw [nab]; exact hb) hn ?_
  repeat' array_get_dec
  · exact cdiv_gr hq h0 hb (by omega)
  · exact cdiv_gr hq h0 hb (by omega)
  · exact k
theorem wp_same {p : PyData} {h : Ho} {Q : KD} {E : XD} (hs : p.showable = true) (hd : p.depth < 60) (hl : p.shown.length ≤ sizeLine) (k : Q (.d (.bool true)) h) : M__law_same [.d p, .d p] h Q E := by
  refine i_mir rfl (by repeat constructor) (by repeat constructor) ?_
  unfold B__law_same
  repeat' array_get_dec
  refine i_repr hs hd hl ?_
  repeat' array_get_dec
  refine i_repr hs hd hl ?_
  repeat' array_get_dec
  rw [decide_eq_true rfl]
  exact k
theorem wp_sameF {q : Rat} {n : Nat} {h : Ho} {Q : KD} {E : XD} (s : Sz n q) (hn : n ≤ 1900) (k : Q (.d (.bool true)) h) : M__law_same [.d (fr q), .d (fr q)] h Q E := by
  have s := s.mono (m := 1900) hn
  exact wp_same (fr_showable (by decide) (by decide) s) (by show 1 < 60; decide) (fr_len (by decide) (by decide) s) k
theorem wp_any {n : Int} {rest h : Ho} {Q : KD} {E : XD} (hn : 0 < n) (hb : n < 2 ^ 100) (dh : Deal rest h) (k : ∀ v h', 0 ≤ v → v < n → Deal rest h' → Q (.d (.int v)) h') : M__law_any [.loc 1, .d (.int n)] h Q E := by
  obtain ⟨cs, mix, rfl, hl, hc, hm0, hm1⟩ := dh.is
  refine i_mir rfl (by repeat constructor) (by repeat constructor) ?_
  unfold B__law_any
  array_get_dec
  refine i_while (fun m ρ' h' => ρ' = [some (.loc 1), some (.d (.int n)), none] ∧ ∃ cs' : List Int, cs'.length = m ∧ h' = .lst (cs'.map cell) :: .lst [.loc 0, cell mix] :: rest ∧ cs'.length ≤ 63 ∧ ∀ c ∈ cs', 0 ≤ c) ⟨rfl, cs, rfl, rfl, hl, hc⟩ ?_ ?_
  · rintro m ρ' h' ⟨rfl, cs', rfl, rfl, hl, hc⟩
    rcases nil_or_snoc cs' with rfl | ⟨cs2, c, rfl⟩
    · repeat' array_get_dec
      refine i_ned (datum_cells (cs := [])) rfl rfl rfl ni_loc ?_
      repeat' array_get_dec
      refine i_ifF rfl ?_
      repeat' array_get_dec
      · exact mix_mul hm0 hm1
      · decide
      · refine subK_loc (j := 1) (h2 := .lst [] :: .lst [.loc 0, cell ((mix * 48271 + 41) % 2147483647)] :: rest) rfl rfl rfl ?_
        have m0 : 0 ≤ (mix * 48271 + 41) % 2147483647 := Int.emod_nonneg _ (by decide)
        have m1 : (mix * 48271 + 41) % 2147483647 < 2147483647 := Int.emod_lt_of_pos _ (by decide)
        repeat' array_get_dec
        · exact ⟨by decide, by decide⟩
        · exact hn
        · exact k _ _ (Int.emod_nonneg _ (by omega)) (Int.emod_lt_of_pos _ hn) ⟨[], _, rfl, hl, hc, m0, by omega⟩
    · have em : (cs2 ++ [c]).map cell = cs2.map cell ++ [cell c] := by simp
      rw [em]
      have hc2 : 0 ≤ c := hc c (by simp)
      repeat' array_get_dec
      refine i_ned (by rw [← em]; exact datum_cells (cs := cs2 ++ [c])) rfl (shaped_ints _) rfl ni_loc ?_
      rw [ints_ne (by simp)]
      repeat' array_get_dec
      refine i_ifT rfl ?_
      repeat' array_get_dec
      refine popK_loc rfl (h2 := .lst (cs2.map cell) :: .lst [.loc 0, cell mix] :: rest) rfl ?_
      repeat' array_get_dec
      refine appK_loc rfl ?_
      repeat' array_get_dec
      · exact ⟨by omega, Nat.lt_of_lt_of_le (log2_lt (n := 100) (by decide) (by omega)) (by decide)⟩
      · have hl2 : cs2.length < 63 := by rw [List.length_append, List.length_singleton] at hl; omega
        refine ⟨_, cs2.map cell, rfl, rfl, by rw [List.length_map]; exact Nat.lt_of_lt_of_le hl2 (by decide), ?_⟩
        repeat' array_get_dec
        · exact hn
        · refine k _ _ (Int.emod_nonneg _ (by omega)) (Int.emod_lt_of_pos _ hn) ⟨cs2 ++ [c.fdiv n], mix, by rw [List.map_append]; rfl, by rw [List.length_append, List.length_singleton]; omega, ?_, hm0, hm1⟩
          intro d hd
          rw [List.mem_append, List.mem_singleton] at hd
          rcases hd with hd | rfl
          · exact hc d (by simp [hd])
          · rw [Int.fdiv_eq_ediv_of_nonneg _ (by omega)]
            exact Int.ediv_nonneg hc2 (by omega)
  · intro he m ρ' h' hi
    have hi0 := hi
    obtain ⟨rfl, cs', rfl, rfl, hl, hc⟩ := hi
    rcases nil_or_snoc cs' with rfl | ⟨cs2, c, rfl⟩
    · repeat' array_get_dec
      refine i_ned (datum_cells (cs := [])) rfl rfl rfl ni_loc ?_
      repeat' array_get_dec
      refine i_ifF rfl ?_
      exact i_ifF rfl (he _ _ _ hi0)
    · have em : (cs2 ++ [c]).map cell = cs2.map cell ++ [cell c] := by simp
      rw [em] at hi0 ⊢
      repeat' array_get_dec
      refine i_ned (by rw [← em]; exact datum_cells (cs := cs2 ++ [c])) rfl (shaped_ints _) rfl ni_loc ?_
      rw [ints_ne (by simp)]
      repeat' array_get_dec
      refine i_ifT rfl ?_
      repeat' array_get_dec
      refine i_ix rfl atI_last ?_
      repeat' array_get_dec
      refine i_ite (fun e => ?_) (fun e => ?_)
      · repeat' array_get_dec
        refine popK_loc rfl (h2 := .lst (cs2.map cell) :: .lst [.loc 0, cell mix] :: rest) rfl ?_
        refine ⟨cs2.length, by simp, rfl, cs2, rfl, rfl, ?_, fun d hd => hc d (by simp [hd])⟩
        rw [List.length_append, List.length_singleton] at hl
        omega
      · exact he _ _ _ hi0
theorem wp_of {xs : List PyData} {rest h : Ho} {Q : KD} {E : XD} (hn : xs ≠ []) (hb : xs.length < 2 ^ 100) (dh : Deal rest h) (k : ∀ x h', x ∈ xs → Deal rest h' → Q (.d x) h') : M__law_of [.loc 1, .d (.list xs)] h Q E := by
  refine i_mir rfl (by repeat constructor) (by repeat constructor) ?_
  unfold B__law_of
  repeat' array_get_dec
  have hp : 0 < xs.length := List.length_pos_iff.2 hn
  rw [List.length_map]
  refine wp_any (by exact_mod_cast hp) (by exact_mod_cast hb) dh fun v h' v0 v1 dh' => ?_
  have e : L2.atI (xs.map D.d) v = some (.d (xs[v.toNat]'(by omega))) := by
    unfold L2.atI ixN
    rw [if_pos v0, if_pos (by rw [List.length_map]; exact v1)]
    simp only [Option.bind_some, List.getElem?_map]
    rw [List.getElem?_eq_getElem (by omega)]
    rfl
  refine i_ix rfl e ?_
  exact k _ _ (List.getElem_mem _) dh'
theorem wp_source {ns : List Int} {Q : KD} {E : XD} (hl : ns.length ≤ 63) (k : ∀ h', Deal [] h' → Q (.loc 1) h') : M__law_source [.d (.list (ns.map PyData.int))] [] Q E := by
  refine i_mir rfl (by repeat constructor) (by repeat constructor) ?_
  unfold B__law_source
  repeat' array_get_dec
  refine i_lcv ?_
  refine i_iseqG ?_
  refine i_sl0 (by repeat constructor) ?_
  refine ⟨_, rfl, ?_⟩
  have ec : cut (ns.map PyData.int) none (some 63) = (cut ns none (some 63)).map PyData.int := by
    unfold cut
    rw [List.length_map, ← List.map_drop, ← List.map_take]
  rw [ec]
  have lc : (cut ns none (some 63)).length ≤ 63 := by
    unfold cut
    rw [List.length_take, List.length_drop]
    omega
  generalize cut ns none (some 63) = ms at lc ⊢
  refine lcv_ind (hb := []) (fun k acc => ∃ cs : List Int, acc = cs.map cell ∧ cs.length ≤ k ∧ ∀ c ∈ cs, 0 ≤ c) stay_d ?_ ?_ ⟨[], rfl, Nat.le_refl 0, by simp⟩
  · rintro i x acc ex ⟨cs, rfl, hc, hp⟩
    rw [List.map_map, List.getElem?_map, Option.map_eq_some_iff] at ex
    obtain ⟨c, e1, rfl⟩ := ex
    have hi : i < ms.length := (List.getElem?_eq_some_iff.1 e1).1
    refine ⟨_, true, rfl, fun P q => q, fun _ => ⟨cell (if c < 0 then -c else c), fun P q => ?_, ?_, cs ++ [if c < 0 then -c else c], by simp, by simp; omega, ?_⟩, fun e => by cases e⟩
    · show fCall _ _ [_, _, some (.d (.int c)), _] _ _ _
      repeat' array_get_dec
      exact q
    · rw [List.length_map]
      exact Nat.lt_of_le_of_lt (Nat.le_trans hc (by omega : i ≤ 63)) (by decide)
    · intro d hd
      rw [List.mem_append, List.mem_singleton] at hd
      rcases hd with hd | rfl
      · exact hp d hd
      · split <;> omega
  · rintro acc ⟨cs, rfl, hc, hp⟩
    rw [List.length_map, List.length_map] at hc
    refine ⟨_, allD_cells cs, ?_⟩
    repeat' array_get_dec
    refine i_iseq (by repeat constructor) rfl ?_
    refine for_ind (fun i ρ h' => h' = [] ∧ ∃ (z : Option D) (mix : Int), ρ = [some (.d (.list (ns.map PyData.int))), some (.d (.list (cs.map PyData.int))), z, some (cell mix)] ∧ 0 ≤ mix ∧ mix < 2 ^ 31) ?_ ?_ ⟨rfl, _, _, rfl, by decide, by decide⟩
    · rintro i x ρ h' G ex ⟨rfl, z, mix, rfl, m0, m1⟩ hG
      rw [List.map_map, List.getElem?_map, Option.map_eq_some_iff] at ex
      obtain ⟨c, e1, rfl⟩ := ex
      refine ⟨_, rfl, ?_⟩
      show sAsg _ _ [_, _, some (.d (.int c)), some (cell mix)] _ _
      repeat' array_get_dec
      · exact mix_mul m0 m1
      · decide
      · decide
      · exact ⟨stay_d _, hG _ _ ⟨rfl, _, _, rfl, Int.emod_nonneg _ (by decide), Int.lt_trans (Int.emod_lt_of_pos _ (by decide)) (by decide)⟩⟩
    · rintro ρ h' ⟨rfl, z, mix, rfl, m0, m1⟩
      repeat' array_get_dec
      refine i_loc ?_
      array_get_dec
      refine i_revloc ?_
      refine i_lcv ?_
      refine i_iseq (by repeat constructor) rfl ?_
      refine lcv_ind (hb := []) (fun k acc => ∃ cs : List Int, acc = cs.map cell ∧ cs.length ≤ k ∧ ∀ c ∈ cs, 0 ≤ c) stay_d ?_ ?_ ⟨[], rfl, Nat.le_refl 0, by simp⟩
      · rintro i x acc ex ⟨ds, rfl, hc2, hp2⟩
        rw [List.map_map, List.getElem?_map, Option.map_eq_some_iff] at ex
        obtain ⟨c, e1, rfl⟩ := ex
        obtain ⟨hi, e2⟩ := List.getElem?_eq_some_iff.1 e1
        refine ⟨_, decide ((10 : Int) ^ (18 : Int).toNat ≤ c), rfl, fun P q => ?_, fun hb => ⟨cell c, fun P q => ?_, ?_, ds ++ [c], by simp, by simp; omega, ?_⟩, fun _ => ⟨ds, rfl, by omega, hp2⟩⟩
        · show tVal _ [_, _, some (.d (.int c)), _] _ _ _
          repeat' array_get_dec
          · exact ⟨by decide, by decide, by decide⟩
          · exact q
        · show fVar _ [_, _, some (.d (.int c)), _] _ _ _
          exact i_var (by repeat constructor) q
        · rw [List.length_map]
          exact Nat.lt_of_le_of_lt (Nat.le_trans hc2 (by omega : i ≤ 63)) (by decide)
        · intro d hd
          rw [List.mem_append, List.mem_singleton] at hd
          rcases hd with hd | rfl
          · exact hp2 d hd
          · exact hp _ (by rw [← e2]; exact List.getElem_mem _)
      · rintro acc ⟨ds, rfl, hc2, hp2⟩
        rw [List.length_map, List.length_map] at hc2
        refine ⟨_, allD_cells ds, ?_⟩
        refine revK_lst ?_
        repeat' array_get_dec
        refine ⟨Nat.le_of_ble_eq_true rfl, k _ ⟨ds.reverse, mix, ?_, by rw [List.length_reverse]; omega, fun c hc3 => hp2 c (List.mem_reverse.1 hc3), m0, m1⟩⟩
        have e3 : ((ds.map PyData.int).map D.d).reverse = ds.reverse.map cell := by rw [List.map_map, ← List.map_reverse]; rfl
        rw [e3]
        rfl
theorem wp_plus {a b : Rat} {h : Ho} {Q : KD} {E : XD} {n m : Nat} (sa : Sz n a) (sb : Sz m b) (hn : n + m ≤ big := by decide) (k : Q (.d (fr (a + b))) h) : M_plus [.d (fr a), .d (fr b)] h Q E := by
  have hs : 0 < big := by decide
  have sa := sa.mono (m := big) (by omega)
  have sb := sb.mono (m := big) (by omega)
  rw [plus_eq a b rfl rfl rfl rfl rfl] at k
  refine i_mir rfl (by repeat constructor) (by repeat constructor) ?_
  unfold B_plus
  repeat' array_get_dec
  · exact cdiv_gr b.den_nz hs sb.2 (by decide)
  · exact cdiv_gr b.den_nz hs sb.2 (by decide)
  · exact cmulw hs sa.1 (Nat.lt_of_le_of_lt (v_fdiv_le _ _) sb.2) (by decide)
  · exact cmulw hs sb.1 (Nat.lt_of_le_of_lt (v_fdiv_le _ _) sa.2) (by decide)
  · exact cdiv_gr (gcd_ne b.den_nz) hs (gcd_lt b.den_nz sb.2) (by decide)
  · exact cdiv_gr (gcd_ne b.den_nz) hs (gcd_lt b.den_nz sb.2) (by decide)
  · exact cmulw hs (Nat.lt_of_le_of_lt (v_fdiv_le _ _) sa.2) (Nat.lt_of_le_of_lt (v_fdiv_le _ _) sb.2) (by decide)
  · exact k
theorem wp_times {a b : Rat} {h : Ho} {Q : KD} {E : XD} {n m : Nat} (sa : Sz n a) (sb : Sz m b) (hn : n + m ≤ big := by decide) (k : Q (.d (fr (a * b))) h) : M_times [.d (fr a), .d (fr b)] h Q E := by
  have hs : 0 < big := by decide
  have sa := sa.mono (m := big) (by omega)
  have sb := sb.mono (m := big) (by omega)
  rw [times_eq a b rfl rfl] at k
  refine i_mir rfl (by repeat constructor) (by repeat constructor) ?_
  unfold B_times
  repeat' array_get_dec
  · exact cdiv_gr b.den_nz hs sb.2 (by decide)
  · exact cdiv_gr a.den_nz hs sa.2 (by decide)
  · exact cmulw hs (Nat.lt_of_le_of_lt (v_fdiv_le _ _) sa.1) (Nat.lt_of_le_of_lt (v_fdiv_le _ _) sb.1) (by decide)
  · exact cdiv_gr a.den_nz hs sa.2 (by decide)
  · exact cdiv_gr b.den_nz hs sb.2 (by decide)
  · exact cmulw hs (Nat.lt_of_le_of_lt (v_fdiv_le _ _) sa.2) (Nat.lt_of_le_of_lt (v_fdiv_le _ _) sb.2) (by decide)
  · exact k
theorem wp_negative {a : Rat} {h : Ho} {Q : KD} {E : XD} (k : Q (.d (fr (-a))) h) : M_negative [.d (fr a)] h Q E := by
  rw [neg_eq a] at k
  refine i_mir rfl (by repeat constructor) (by repeat constructor) ?_
  unfold B_negative
  repeat' array_get_dec
  exact k
theorem wp_minus {a b : Rat} {h : Ho} {Q : KD} {E : XD} {n m : Nat} (sa : Sz n a) (sb : Sz m b) (hn : n + m ≤ big := by decide) (k : Q (.d (fr (a - b))) h) : M_minus [.d (fr a), .d (fr b)] h Q E := by
  rw [Rat.sub_eq_add_neg] at k
  refine i_mir rfl (by repeat constructor) (by repeat constructor) ?_
  unfold B_minus
  repeat' array_get_dec
  refine wp_negative ?_
  repeat' array_get_dec
  exact wp_plus sa sb.neg hn k
theorem wp_on_grid {pts : List Pt} {h : Ho} {Q : KD} {E : XD} (hL : Lc pts < 2 ^ big) (hz : pts.length ≤ 100) (hp : ∀ p ∈ pts, Sz big p.1 ∧ Sz big p.2) (k : Q (.d (.tuple [.int (Lc pts : Nat), .list (pts.map (grD (Lc pts)))])) h) : M_on_grid [.d (.tuple (pts.map ptD))] h Q E := by
  have hs : sizeLine = 2 ^ 24 := rfl
  have dl : ∀ p ∈ pts, p.1.den < 2 ^ big ∧ p.2.den < 2 ^ big := fun p m =>
    ⟨Nat.lt_of_le_of_lt (Nat.le_of_dvd (Nat.pos_of_ne_zero (Lc_ne pts)) (Lc_den m).1) hL, Nat.lt_of_le_of_lt (Nat.le_of_dvd (Nat.pos_of_ne_zero (Lc_ne pts)) (Lc_den m).2) hL⟩
  have lk : ∀ k, Lc (pts.take k) < 2 ^ big := fun k => Nat.lt_of_le_of_lt (Nat.le_of_dvd (Nat.pos_of_ne_zero (Lc_ne pts)) Lc_dvd_all) hL
  refine i_mir rfl (by repeat constructor) (by repeat constructor) ?_
  unfold B_on_grid
  repeat' array_get_dec
  refine i_iseq (by repeat constructor) rfl ?_
  refine for_ind (fun k ρ h' => h' = h ∧ ∃ z2 z3 z4, ρ = [some (.d (.tuple (pts.map ptD))), some (.d (.int (Lc (pts.take k) : Nat))), z2, z3, z4, none, none, none, none]) ?_ ?_ ⟨rfl, _, _, _, rfl⟩
  · rintro i x ρ h' G ex ⟨rfl, z2, z3, z4, rfl⟩ hG
    rw [List.map_map, List.getElem?_map, Option.map_eq_some_iff] at ex
    obtain ⟨p, e1, rfl⟩ := ex
    have m : p ∈ pts := List.mem_of_getElem? e1
    refine ⟨[some (.d (.tuple (pts.map ptD))), some (.d (.int (Lc (pts.take i) : Nat))), some (.d (.int p.2.num)), some (.d (.int p.1.den)), some (.d (.int p.2.den)), none, none, none, none], rfl, ?_⟩
    repeat' array_get_dec
    · exact ⟨lk i, (dl p m).1, (dl p m).2⟩
    · exact ⟨stay_d _, hG _ _ ⟨rfl, some (.d (.int p.2.num)), some (.d (.int p.1.den)), some (.d (.int p.2.den)), by rw [Lc_take_succ e1]; rfl⟩⟩
  · rintro ρ h' ⟨rfl, z2, z3, z4, rfl⟩
    have et : Lc (pts.take ((pts.map ptD).map D.d).length) = Lc pts := by rw [List.length_map, List.length_map, List.take_length]
    rw [et]
    repeat' array_get_dec
    refine i_lcv ?_
    refine i_iseq (by repeat constructor) rfl ?_
    refine lcv_ind (hb := h') (fun k acc => acc = ((pts.take k).map (grD (Lc pts))).map D.d) stay_d ?_ ?_ rfl
    · rintro i x acc ex rfl
      rw [List.map_map, List.getElem?_map, Option.map_eq_some_iff] at ex
      obtain ⟨p, e1, rfl⟩ := ex
      have m : p ∈ pts := List.mem_of_getElem? e1
      obtain ⟨hi, _⟩ := List.getElem?_eq_some_iff.1 e1
      refine ⟨[some (.d (.tuple (pts.map ptD))), some (.d (.int (Lc pts : Nat))), z2, z3, z4, some (.d (.int p.1.num)), some (.d (.int p.1.den)), some (.d (.int p.2.num)), some (.d (.int p.2.den))], true, rfl, fun P q => q, fun _ => ⟨.d (grD (Lc pts) p), fun P q => ?_, ?_, ?_⟩, fun e => by cases e⟩
      · repeat' array_get_dec
        · exact cdiv_nat p.1.den_nz (by decide) (dl p m).1 (by decide)
        · exact cmulw (by decide) (hp p m).1.1 (Nat.lt_of_le_of_lt (v_fdiv_le _ _) hL) (by decide)
        · exact cdiv_nat p.2.den_nz (by decide) (dl p m).2 (by decide)
        · exact cmulw (by decide) (hp p m).2.1 (Nat.lt_of_le_of_lt (v_fdiv_le _ _) hL) (by decide)
        · exact q
      · rw [List.length_map, List.length_map, List.length_take]
        omega
      · rw [List.take_succ, e1]
        simp
    · rintro acc rfl
      have et : (pts.take ((pts.map ptD).map D.d).length) = pts := by rw [List.length_map, List.length_map, List.take_length]
      rw [et]
      refine ⟨pts.map (grD (Lc pts)), ?_, ?_⟩
      · generalize pts.map (grD (Lc pts)) = xs
        induction xs with
        | nil => exact .nil
        | cons a l ih => exact .cons ih
      · repeat' array_get_dec
        exact k
end LW
set_option Elab.async false
set_option linter.all false
set_option maxRecDepth 100000
set_option maxHeartbeats 40000000
namespace LW
open PySem PySem.Spec PyProof.Rows L2 V2
local macro_rules
  | `(tactic| array_get_dec) => `(tactic| with_reducible first
    | refine i_seq ?_
    | refine i_asg2v (by repeat constructor) (by repeat constructor) (by repeat constructor) ?_
    | refine i_asgn ?_ (by with_unfolding_all exact Nat.le_of_ble_eq_true rfl)
    | refine i_set (by repeat constructor) ?_
    | refine i_par ?_ (by with_unfolding_all exact Nat.le_of_ble_eq_true rfl) (by with_unfolding_all exact Nat.le_of_ble_eq_true rfl)
    | refine i_pair (by repeat constructor) (by repeat constructor) ?_
    | refine i_par3 ?_ (by with_unfolding_all exact Nat.le_of_ble_eq_true rfl) (by with_unfolding_all exact Nat.le_of_ble_eq_true rfl) (by with_unfolding_all exact Nat.le_of_ble_eq_true rfl)
    | refine i_trip (by repeat constructor) (by repeat constructor) (by repeat constructor) ?_
    | refine i_ret ?_
    | refine i_if ?_
    | refine i_var (by repeat constructor) ?_
    | refine i_c ?_
    | refine i_cons ?_
    | refine i_nil ?_
    | refine i_bin ?_
    | refine i_ints0 ?_
    | refine i_ints ?_ ?_
    | refine i_add ?_
    | refine i_eqi ?_
    | refine i_nei ?_
    | refine i_eqs ?_
    | refine i_nes ?_
    | refine i_un ?_
    | refine i_val ?_
    | refine i_isb ?_
    | refine i_isi ?_
    | refine i_isr ?_
    | refine i_and2 ?_
    | refine i_or2 ?_
    | refine i_not2 ?_
    | refine i_fif ?_
    | refine i_fand ?_
    | refine i_tup ?_
    | refine i_lst ?_
    | refine i_all (by repeat constructor) (by with_unfolding_all exact Nat.le_of_ble_eq_true rfl) ?_
    | refine i_ix (by assumption) (by with_unfolding_all exact rfl) ?_
    | refine i_ix (by with_unfolding_all exact rfl) (by with_unfolding_all exact rfl) ?_
    | refine i_call ?_
    | refine i_fn ?_
    | refine i_fnk ?_
    | refine i_pk1 ?_
    | refine i_pk2 ?_
    | refine i_pk3 ?_
    | refine i_pk4 ?_
    | refine i_abs ?_
    | refine i_toint ?_
    | refine i_gcd ?_
    | refine i_lcm3 ?_ ?_
    | refine i_chain ?_
    | refine i_max2 ?_
    | refine i_min2 ?_
    | refine i_isN ?_
    | refine i_notN ?_
    | refine i_len (by with_unfolding_all exact rfl) ?_
    | refine i_drop ?_
    | refine i_pop ?_
    | refine i_append ?_
    | refine i_sub ?_
    | refine i_raise ?_
    | refine i_one ?_
    | refine i_brk ?_
    | refine i_for ?_
    | refine i_range1 ?_
    | refine i_next ?_)

local macro_rules
  | `(tactic| decreasing_trivial_pre_omega) => `(tactic| (apply cmB; (repeat' (first | assumption | apply Bd.add | apply Bd.sub | apply Bd.mul | apply Bd.neg)); decide))

abbrev Zp := Int × Int
abbrev zD (a : Zp) : PyData := .tuple [.int a.1, .int a.2]
def areaZ (a b c : Zp) : Int := (b.1 - a.1) * (c.2 - a.2) - (b.2 - a.2) * (c.1 - a.1)
def BdZ (n : Nat) (a : Zp) : Prop := Bd n a.1 ∧ Bd n a.2
theorem area_bd {a b c : Zp} (ha : BdZ 1000 a) (hb : BdZ 1000 b) (hc : BdZ 1000 c) : Bd 2003 (areaZ a b c) :=
  ((hb.1.sub ha.1).mul (hc.2.sub ha.2)).sub ((hb.2.sub ha.2).mul (hc.1.sub ha.1))
theorem wp_area {a b c : Zp} {h : Ho} {Q : KD} {E : XD} (ha : BdZ 1000 a) (hb : BdZ 1000 b) (hc : BdZ 1000 c) (k : Q (.d (.int (areaZ a b c))) h) : M_whole_area [.d (zD a), .d (zD b), .d (zD c)] h Q E := by
  obtain ⟨a1, a2⟩ := ha
  obtain ⟨b1, b2⟩ := hb
  obtain ⟨c1, c2⟩ := hc
  refine i_mir rfl (by repeat constructor) (by repeat constructor) ?_
  unfold B_whole_area
  repeat' array_get_dec
  · decreasing_trivial_pre_omega
  · decreasing_trivial_pre_omega
  · exact k
def ptOf (b : Nat) (a : Zp) : Pt := (mkRat a.1 b, mkRat a.2 b)
def gz (L : Nat) (p : Pt) : Zp := (gr L p.1, gr L p.2)
theorem Bd.of_sz {n : Nat} {q : Rat} (s : Sz n q) : Bd n q.num := s.1
theorem gr_bd {L n m : Nat} {q : Rat} (s : Sz n q) (hL : L < 2 ^ m) : Bd (n + m) (gr L q) :=
  Bd.mul (Bd.of_sz s) (Nat.lt_of_le_of_lt (v_fdiv_le _ _) hL)
def sgn (i : Int) : Int := if 0 < i then 1 else if i < 0 then -1 else 0
theorem wp_whole {i : Int} {h : Ho} {Q : KD} {E : XD} (k : Q (.d (.tuple [.int i, .int 1])) h) : M_whole [.d (.int i)] h Q E := by
  refine i_mir rfl (by repeat constructor) (by repeat constructor) ?_
  unfold B_whole
  repeat' array_get_dec
  exact k
theorem wp_sign_of {i j : Int} {h : Ho} {Q : KD} {E : XD} (k : Q (.d (.int (sgn i))) h) : M_sign_of [.d (.tuple [.int i, .int j])] h Q E := by
  refine i_mir rfl (by repeat constructor) (by repeat constructor) ?_
  unfold B_sign_of
  repeat' array_get_dec
  unfold sgn at k
  refine i_ite (fun c => ?_) (fun c => ?_)
  · rw [if_pos (of_decide_eq_true c)] at k
    repeat' array_get_dec
    exact k
  · rw [if_neg (of_decide_eq_false c)] at k
    repeat' array_get_dec
    refine i_ite (fun c => ?_) (fun c => ?_)
    · rw [if_pos (of_decide_eq_true c)] at k
      repeat' array_get_dec
      exact k
    · rw [if_neg (of_decide_eq_false c)] at k
      repeat' array_get_dec
      exact k
theorem wp_lsign {i : Int} {h : Ho} {Q : KD} {E : XD} (k : Q (.d (.int (sgn i))) h) : M__law_sign [.d (.int i)] h Q E := by
  refine i_mir rfl (by repeat constructor) (by repeat constructor) ?_
  unfold B__law_sign
  repeat' array_get_dec
  unfold sgn at k
  refine i_ite (fun c => ?_) (fun c => ?_)
  · rw [if_pos (of_decide_eq_true c)] at k
    repeat' array_get_dec
    exact k
  · have c := of_decide_eq_false c
    rw [if_neg c] at k
    repeat' array_get_dec
    refine i_ite (fun c2 => ?_) (fun c2 => ?_)
    · have c2 := of_decide_eq_true c2
      rw [if_neg (by omega)] at k
      repeat' array_get_dec
      exact k
    · have c2 := of_decide_eq_false c2
      rw [if_pos (by omega)] at k
      repeat' array_get_dec
      exact k
theorem sgn_scale {i j m n : Int} (hm : 0 < m) (hn : 0 < n) (e : i * m = j * n) : sgn i = sgn j := by
  have key : ∀ {i j m n : Int}, 0 < m → 0 < n → i * m = j * n → 0 < i → 0 < j := by
    intro i j m n hm hn e hi
    have h1 : 0 < i * m := Int.mul_pos hi hm
    rw [e] at h1
    exact Int.pos_of_mul_pos_left h1 hn
  unfold sgn
  by_cases h1 : 0 < i
  · rw [if_pos h1, if_pos (key hm hn e h1)]
  · have h2 : ¬ 0 < j := fun z => h1 (key hn hm e.symm z)
    rw [if_neg h1, if_neg h2]
    have e2 : (-i) * m = (-j) * n := by rw [Int.neg_mul, Int.neg_mul, e]
    by_cases h3 : i < 0
    · have := key hm hn e2 (by omega)
      rw [if_pos h3, if_pos (by omega)]
    · have h4 : ¬ j < 0 := fun z => h3 (by have := key hn hm e2.symm (by omega); omega)
      rw [if_neg h3, if_neg h4]
def Small (a : Zp) : Prop := Bd 12 a.1 ∧ Bd 12 a.2
theorem pt_sz {b : Nat} (hb : b ≠ 0) (hb2 : b < 2 ^ 6) {a : Zp} (ha : Small a) : Sz 12 (ptOf b a).1 ∧ Sz 12 (ptOf b a).2 :=
  ⟨.mk' hb ha.1 (Nat.lt_of_lt_of_le hb2 (by decide)), .mk' hb ha.2 (Nat.lt_of_lt_of_le hb2 (by decide))⟩
theorem den_dvd {b : Nat} (hb : b ≠ 0) (x : Int) : (mkRat x b).den ∣ b := by
  rw [Rat.den_mkRat, if_neg hb]
  exact Nat.div_dvd_of_dvd (Nat.gcd_dvd_left _ _)
theorem Lc_le {b : Nat} (hb : b ≠ 0) (as : List Zp) : Lc (as.map (ptOf b)) ∣ b := by
  refine Lc_least _ fun p hp => ?_
  obtain ⟨a, _, rfl⟩ := List.mem_map.1 hp
  exact ⟨den_dvd hb _, den_dvd hb _⟩
theorem gz_mul {b L : Nat} (hb : b ≠ 0) {a : Zp} (h : (ptOf b a).1.den ∣ L ∧ (ptOf b a).2.den ∣ L) : (gz L (ptOf b a)).1 * b = a.1 * L ∧ (gz L (ptOf b a)).2 * b = a.2 * L :=
  ⟨gr_mul h.1 hb rfl, gr_mul h.2 hb rfl⟩
def qz (p q : Int) : Rat := if 0 < q then mkRat p q.natAbs else mkRat (0 - p) q.natAbs
theorem qz_div {p q : Int} (hq : q ≠ 0) : qz p q * (q : Rat) = (p : Rat) := by
  have nq : (q : Rat) ≠ 0 := by exact_mod_cast hq
  have ec : ((q.natAbs : Nat) : Rat) = (((q.natAbs : Nat) : Int) : Rat) := (Rat.intCast_natCast _).symm
  unfold qz
  by_cases h : 0 < q
  · have this : ((q.natAbs : Nat) : Int) = q := by omega
    rw [if_pos h, Rat.mkRat_eq_div, ec, this]
    grind
  · have this : ((q.natAbs : Nat) : Int) = -q := by omega
    rw [if_neg h, Rat.mkRat_eq_div, ec, this, Int.zero_sub, Rat.intCast_neg, Rat.intCast_neg]
    grind
theorem qz_eq {p q p' q' : Int} (hq : q ≠ 0) (hq' : q' ≠ 0) (e : p * q' = p' * q) : qz p q = qz p' q' := by
  have h1 := qz_div (p := p) hq
  have h2 := qz_div (p := p') hq'
  have e' : (p : Rat) * (q' : Rat) = (p' : Rat) * (q : Rat) := by exact_mod_cast e
  have n1 : (q : Rat) ≠ 0 := by exact_mod_cast hq
  have n2 : (q' : Rat) ≠ 0 := by exact_mod_cast hq'
  grind
theorem qz_sz {p q : Int} {n : Nat} (hq : q ≠ 0) (hp : Bd n p) (hb : Bd n q) : Sz n (qz p q) := by
  unfold qz
  split
  · exact .mk' (by omega) hp hb
  · exact .mk' (by omega) (by rw [Int.zero_sub, Int.natAbs_neg]; exact hp) hb
theorem fdiv_negr (a b : Int) : a.fdiv (-b) = (-a).fdiv b := by
  have := Int.neg_fdiv_neg (-a) b
  rw [Int.neg_neg] at this
  exact this
theorem wp_fractionZ {p q : Int} {h : Ho} {Q : KD} {E : XD} {n : Nat} (hq : q ≠ 0) (hz : Bd n q) (h0 : 0 < n) (hn : n ≤ 9000) (k : Q (.d (fr (qz p q))) h) : M_fraction [.d (.int p), .d (.int q)] h Q E := by
  by_cases c : 0 < q
  · obtain ⟨m, rfl⟩ : ∃ m : Nat, q = m := ⟨q.natAbs, by omega⟩
    unfold qz at k
    rw [if_pos c, nab] at k
    exact wp_fraction (by omega) (by have : (m : Int).natAbs < 2 ^ n := hz; rw [nab] at this; exact this) h0 hn k
  · unfold qz at k
    rw [if_neg c, low_eq (by omega)] at k
    have hk : q.natAbs ≠ 0 := by omega
    refine i_mir rfl (by repeat constructor) (by repeat constructor) ?_
    unfold B_fraction
    repeat' array_get_dec
    refine i_ifF (decide_eq_false hq) ?_
    repeat' array_get_dec
    refine i_ifT (decide_eq_true (by omega)) ?_
    have cd : ∀ i : Int, CDivA i (-((Nat.gcd p.natAbs q.natAbs : Nat) : Int)) := fun i => by
      have := cdiv_gr (i := i) (m := p.natAbs) hk h0 hz hn
      refine ⟨fun z => this.1 (by omega), ?_⟩
      rw [Int.natAbs_neg]
      exact this.2
    repeat' array_get_dec
    · exact cd _
    · exact cd _
    · rw [fdiv_negr, fdiv_negr]
      have e : (0 - p).natAbs = p.natAbs := by omega
      have e2 : (q.natAbs : Int) = -q := by omega
      rw [e, e2, Int.zero_sub] at k
      exact k
theorem area_scale {A B C a b c : Zp} {β Λ : Int} (a1 : A.1 * β = a.1 * Λ) (a2 : A.2 * β = a.2 * Λ) (b1 : B.1 * β = b.1 * Λ) (b2 : B.2 * β = b.2 * Λ) (c1 : C.1 * β = c.1 * Λ) (c2 : C.2 * β = c.2 * Λ) :
    areaZ A B C * (β * β) = areaZ a b c * (Λ * Λ) := by
  have x1 : (B.1 - A.1) * β = (b.1 - a.1) * Λ := by rw [Int.sub_mul, Int.sub_mul, a1, b1]
  have x2 : (B.2 - A.2) * β = (b.2 - a.2) * Λ := by rw [Int.sub_mul, Int.sub_mul, a2, b2]
  have y1 : (C.1 - A.1) * β = (c.1 - a.1) * Λ := by rw [Int.sub_mul, Int.sub_mul, a1, c1]
  have y2 : (C.2 - A.2) * β = (c.2 - a.2) * Λ := by rw [Int.sub_mul, Int.sub_mul, a2, c2]
  unfold areaZ
  generalize B.1 - A.1 = X1 at *
  generalize B.2 - A.2 = X2 at *
  generalize C.1 - A.1 = Y1 at *
  generalize C.2 - A.2 = Y2 at *
  generalize b.1 - a.1 = x1' at *
  generalize b.2 - a.2 = x2' at *
  generalize c.1 - a.1 = y1' at *
  generalize c.2 - a.2 = y2' at *
  have e1 : (X1 * Y2 - X2 * Y1) * (β * β) = (X1 * β) * (Y2 * β) - (X2 * β) * (Y1 * β) := by grind
  rw [e1, x1, x2, y1, y2]
  grind
theorem small_area {a b c : Zp} (ha : Small a) (hb : Small b) (hc : Small c) : Bd 27 (areaZ a b c) :=
  ((hb.1.sub ha.1).mul (hc.2.sub ha.2)).sub ((hb.2.sub ha.2).mul (hc.1.sub ha.1))
theorem bd2 : Bd 2 (2 : Int) := by show (2 : Int).natAbs < 2 ^ 2; decide
theorem bdN {b : Nat} (hb2 : b < 2 ^ 6) : Bd 6 (b : Int) := by show (b : Int).natAbs < 2 ^ 6; rw [nab]; exact hb2
theorem sgn_neg (i : Int) : sgn (-i) = 0 - sgn i := by
  unfold sgn
  split <;> split <;> (try split) <;> (try split) <;> omega
theorem sgn_small (i : Int) : (sgn i).natAbs < 2 ^ 1000 := by
  have : (sgn i).natAbs < 2 ^ 1 := by
    unfold sgn
    split
    · decide
    · split <;> decide
  exact Nat.lt_of_lt_of_le this (Nat.pow_le_pow_right (by decide) (by decide))
def In (r : Int) (z : Zp) : Prop := (-r ≤ z.1 ∧ z.1 ≤ r) ∧ (-r ≤ z.2 ∧ z.2 ≤ r)
theorem wp_spot {r : Int} (r0 : 0 ≤ r) (r1 : r ≤ 1000) {rest h : Ho} {Q : KD} {E : XD} (dh : Deal rest h) (k : ∀ z h', In r z → Deal rest h' → Q (.d (zD z)) h') : M__law_spot [.loc 1, .d (.int r)] h Q E := by
  refine i_mir rfl (by repeat constructor) (by repeat constructor) ?_
  unfold B__law_spot
  repeat' array_get_dec
  · exact cmulw (n := 20) (by decide) (by decide) (by omega) (by decide)
  refine wp_any (by omega) (by omega) dh fun v1 h1 a1 b1 dh => ?_
  repeat' array_get_dec
  refine wp_any (by omega) (by omega) dh fun v2 h2 a2 b2 dh => ?_
  repeat' array_get_dec
  refine wp_of (by simp) (by simp) dh fun x h3 hx dh => ?_
  have hx : ∃ v : Int, x = .int v ∧ -r ≤ v ∧ v ≤ r := by
    simp only [List.mem_cons, List.not_mem_nil, or_false] at hx
    rcases hx with rfl | rfl | rfl
    all_goals exact ⟨_, rfl, by omega, by omega⟩
  obtain ⟨v, rfl, hv⟩ := hx
  repeat' array_get_dec
  refine wp_any (by omega) (by omega) dh fun v4 h4 a4 b4 dh => ?_
  repeat' array_get_dec
  exact k (v, v4 - r) _ ⟨hv, by constructor <;> omega⟩ dh
def zd (z : Zp) : D := .d (zD z)
theorem four {pts : List Zp} (h : pts.length = 4) : ∃ a b c d, pts = [a, b, c, d] := by
  match pts, h with
  | [a, b, c, d], _ => exact ⟨a, b, c, d, rfl⟩
theorem lc_pts {rest h1 : Ho} {B : Int} {wg : WG} {te : WE} {st : Ho → Prop} {ρ : En} {QH : Ho → Prop} {xs : List D} {ρf : D → En} (dh : Deal rest h1) (hg : ∀ x h, wg x h ρ = some (ρf x))
    (hte : ∀ (k : Nat) x rest2 h (K : KD), xs[k]? = some x → Deal rest2 h → (∀ j : Nat, j < rest.length → rest2[j]? = rest[j]?) → (∀ z h', In B z → Deal rest2 h' → K (zd z) h') → te (ρf x) h K noX)
    (hst : ∀ rest2 h, Deal rest2 h → (∀ j : Nat, j < rest.length → rest2[j]? = rest[j]?) → st h) (hlen : xs.length = 4)
    (he : ∀ p0 p1 p2 p3 h', Deal (rest ++ [.lst [.d (zD p0), .d (zD p1), .d (zD p2), .d (zD p3)]]) h' → In B p0 → In B p1 → In B p2 → In B p3 → QH h') :
    st (h1 ++ [.lst []]) ∧ lcGo wg tTrue te st h1.length ρ QH xs (h1 ++ [.lst []]) := by
  have hs : sizeLine = 2 ^ 24 := rfl
  have old : ∀ (o : O) j, j < rest.length → (rest ++ [o])[j]? = rest[j]? := fun o j hj => List.getElem?_append_left hj
  refine ⟨hst _ _ (dh.snoc _) (old _), ?_⟩
  rw [dh.len]
  refine lcg_ind (fun k h => ∃ pts : List Zp, pts.length = k ∧ k ≤ 4 ∧ Deal (rest ++ [.lst (pts.map zd)]) h ∧ ∀ p ∈ pts, In B p) ?_ ?_ ⟨[], rfl, by decide, dh.snoc _, by simp⟩
  · rintro k x h G ex ⟨pts, hl, hk, d, hp⟩ hG
    have hk2 : k < 4 := by rw [← hlen]; exact (List.getElem?_eq_some_iff.1 ex).1
    refine ⟨_, hg x h, ?_⟩
    refine i_tTrue ?_
    refine i_ifT rfl ?_
    refine hte k x _ h _ ex d (old _) fun z h' hz d' => ?_
    refine accK_of (acc := pts.map zd) (by rw [d'.get]; simp) (by rw [List.length_map]; omega) ?_ ?_
    · exact hst _ _ (d'.put rest.length _) (by rw [List.set_append_right _ _ (Nat.le_refl _), Nat.sub_self, List.set_cons_zero]; exact old _)
    · refine hG _ ⟨pts ++ [z], by simp [hl], by omega, ?_, ?_⟩
      · have := d'.put rest.length (.lst (pts.map zd ++ [zd z]))
        rw [List.set_append_right _ _ (Nat.le_refl _), Nat.sub_self, List.set_cons_zero] at this
        rw [List.map_append]
        exact this
      · intro p hq
        rw [List.mem_append, List.mem_singleton] at hq
        rcases hq with hq | rfl
        · exact hp p hq
        · exact hz
  · rintro h ⟨pts, hl, _, d, hp⟩
    rw [hlen] at hl
    obtain ⟨p0, p1, p2, p3, rfl⟩ := four hl
    exact he p0 p1 p2 p3 h d (hp _ (by simp)) (hp _ (by simp)) (hp _ (by simp)) (hp _ (by simp))
theorem In.mono {r s : Int} {z : Zp} (h : In r z) (k : r ≤ s) : In s z := by
  unfold In at *
  omega
end LW
set_option Elab.async false
set_option linter.all false
set_option maxRecDepth 100000
set_option maxHeartbeats 40000000
namespace LW
open PySem PySem.Spec PyProof.Rows L2 V2
local macro_rules
  | `(tactic| array_get_dec) => `(tactic| with_reducible first
    | refine i_seq ?_
    | refine i_asg2v (by repeat constructor) (by repeat constructor) (by repeat constructor) ?_
    | refine i_asgn ?_ (by with_unfolding_all exact Nat.le_of_ble_eq_true rfl)
    | refine i_set (by repeat constructor) ?_
    | refine i_par ?_ (by with_unfolding_all exact Nat.le_of_ble_eq_true rfl) (by with_unfolding_all exact Nat.le_of_ble_eq_true rfl)
    | refine i_pair (by repeat constructor) (by repeat constructor) ?_
    | refine i_par3 ?_ (by with_unfolding_all exact Nat.le_of_ble_eq_true rfl) (by with_unfolding_all exact Nat.le_of_ble_eq_true rfl) (by with_unfolding_all exact Nat.le_of_ble_eq_true rfl)
    | refine i_trip (by repeat constructor) (by repeat constructor) (by repeat constructor) ?_
    | refine i_ret ?_
    | refine i_if ?_
    | refine i_var (by repeat constructor) ?_
    | refine i_c ?_
    | refine i_cons ?_
    | refine i_nil ?_
    | refine i_bin ?_
    | refine i_ints0 ?_
    | refine i_ints ?_ ?_
    | refine i_add ?_
    | refine i_eqi ?_
    | refine i_nei ?_
    | refine i_eqs ?_
    | refine i_nes ?_
    | refine i_un ?_
    | refine i_val ?_
    | refine i_isb ?_
    | refine i_isi ?_
    | refine i_isr ?_
    | refine i_and2 ?_
    | refine i_or2 ?_
    | refine i_not2 ?_
    | refine i_fif ?_
    | refine i_fand ?_
    | refine i_tup ?_
    | refine i_lst ?_
    | refine i_all (by repeat constructor) (by with_unfolding_all exact Nat.le_of_ble_eq_true rfl) ?_
    | refine i_ix (by assumption) (by with_unfolding_all exact rfl) ?_
    | refine i_ix (by with_unfolding_all exact rfl) (by with_unfolding_all exact rfl) ?_
    | refine i_call ?_
    | refine i_fn ?_
    | refine i_fnk ?_
    | refine i_pk1 ?_
    | refine i_pk2 ?_
    | refine i_pk3 ?_
    | refine i_pk4 ?_
    | refine i_abs ?_
    | refine i_toint ?_
    | refine i_gcd ?_
    | refine i_lcm3 ?_ ?_
    | refine i_chain ?_
    | refine i_max2 ?_
    | refine i_min2 ?_
    | refine i_isN ?_
    | refine i_notN ?_
    | refine i_len (by with_unfolding_all exact rfl) ?_
    | refine i_drop ?_
    | refine i_pop ?_
    | refine i_append ?_
    | refine i_sub ?_
    | refine i_raise ?_
    | refine i_one ?_
    | refine i_brk ?_
    | refine i_for ?_
    | refine i_range1 ?_
    | refine i_next ?_)

local macro_rules
  | `(tactic| decreasing_trivial_pre_omega) => `(tactic| (apply cmB; (repeat' (first | assumption | apply Bd.add | apply Bd.sub | apply Bd.mul | apply Bd.neg)); decide))

theorem wp_lcross {a b c : Zp} (sa : Small a) (sb : Small b) (sc : Small c) {h : Ho} {Q : KD} {E : XD} (k : Q (.d (.int (areaZ a b c))) h) : M__law_cross [.d (zD a), .d (zD b), .d (zD c)] h Q E := by
  obtain ⟨a1, a2⟩ := sa
  obtain ⟨b1, b2⟩ := sb
  obtain ⟨c1, c2⟩ := sc
  refine i_mir rfl (by repeat constructor) (by repeat constructor) ?_
  unfold B__law_cross
  repeat' array_get_dec
  · decreasing_trivial_pre_omega
  · decreasing_trivial_pre_omega
  · decreasing_trivial_pre_omega
  · have e : a.1 * (b.2 - c.2) + b.1 * (c.2 - a.2) + c.1 * (a.2 - b.2) = areaZ a b c := by unfold areaZ; grind
    rw [e]
    exact k
theorem wp_lpoint {m : Nat} (hb : m ≠ 0) (hb2 : m < 2 ^ 6) {a : Zp} (sa : Small a) {h : Ho} {Q : KD} {E : XD} (k : Q (.d (ptD (ptOf m a))) h) : M__law_point [.d (zD a), .d (.int m)] h Q E := by
  refine i_mir rfl (by repeat constructor) (by repeat constructor) ?_
  unfold B__law_point
  repeat' array_get_dec
  refine wp_low (n := 12) (m := 6) hb sa.1 hb2 (by decide) (by decide) ?_
  repeat' array_get_dec
  refine wp_low (n := 12) (m := 6) hb sa.2 hb2 (by decide) (by decide) ?_
  repeat' array_get_dec
  exact k
theorem gr_bd6 {L n m : Nat} {q : Rat} (s : Sz n q) (hL : L < 2 ^ m) : Bd (n + m) (gr L q) :=
  Bd.mul (Bd.of_sz s) (Nat.lt_of_le_of_lt (v_fdiv_le _ _) hL)
theorem wp_grid {m : Nat} (m0 : m ≠ 0) (m1 : m < 2 ^ 6) {as : List Zp} (hs : ∀ a ∈ as, Small a) (hz : as.length ≤ 100) {h : Ho} {Q : KD} {E : XD}
    (k : ∀ L : Nat, L ≠ 0 → (∀ a ∈ as, (gz L (ptOf m a)).1 * m = a.1 * L ∧ (gz L (ptOf m a)).2 * m = a.2 * L) → (∀ a ∈ as, Bd 18 (gz L (ptOf m a)).1 ∧ Bd 18 (gz L (ptOf m a)).2) → Q (.d (.tuple [.int L, .list (as.map fun a => zD (gz L (ptOf m a)))])) h) :
    M_on_grid [.d (.tuple (as.map fun a => ptD (ptOf m a)))] h Q E := by
  have hL : Lc (as.map (ptOf m)) < 2 ^ 6 := Nat.lt_of_le_of_lt (Nat.le_of_dvd (Nat.pos_of_ne_zero m0) (Lc_le m0 as)) m1
  have e1 : (as.map fun a => ptD (ptOf m a)) = (as.map (ptOf m)).map ptD := by rw [List.map_map]; rfl
  rw [e1]
  refine wp_on_grid (pts := as.map (ptOf m)) (Nat.lt_of_lt_of_le hL (Nat.pow_le_pow_right (by decide) (by decide))) (by rw [List.length_map]; exact hz) ?_ ?_
  · intro p hp
    obtain ⟨a, ha, rfl⟩ := List.mem_map.1 hp
    have := pt_sz m0 m1 (hs a ha)
    exact ⟨this.1.mono (by decide), this.2.mono (by decide)⟩
  · have k := k _ (Lc_ne (as.map (ptOf m))) (fun a ha => gz_mul m0 (Lc_den (List.mem_map.2 ⟨a, ha, rfl⟩))) (fun a ha => ⟨gr_bd6 (pt_sz m0 m1 (hs a ha)).1 hL, gr_bd6 (pt_sz m0 m1 (hs a ha)).2 hL⟩)
    have e2 : (as.map (ptOf m)).map (grD (Lc (as.map (ptOf m)))) = as.map fun a => zD (gz (Lc (as.map (ptOf m))) (ptOf m a)) := by rw [List.map_map]; rfl
    rw [e2]
    exact k
theorem bz_of {z : Zp} (h : Bd 18 z.1 ∧ Bd 18 z.2) : BdZ 1000 z := ⟨h.1.mono (by decide), h.2.mono (by decide)⟩
theorem bz_small {z : Zp} (h : Small z) : BdZ 1000 z := ⟨h.1.mono (by decide), h.2.mono (by decide)⟩
section
variable {a b c : Zp} {h : Ho} {Q : KD} {E : XD}
theorem wp_wturn (ha : BdZ 1000 a) (hb : BdZ 1000 b) (hc : BdZ 1000 c) (k : Q (.d (.int (sgn (areaZ a b c)))) h) : M_whole_turn [.d (zD a), .d (zD b), .d (zD c)] h Q E := by
  refine i_mir rfl (by repeat constructor) (by repeat constructor) ?_
  unfold B_whole_turn
  repeat' array_get_dec
  refine wp_area ha hb hc ?_
  repeat' array_get_dec
  refine wp_whole ?_
  repeat' array_get_dec
  exact wp_sign_of k
end
theorem sgn_bd (i : Int) : Bd 1 (sgn i) := by
  unfold Bd sgn
  split
  · decide
  · split <;> decide
def inB (x y p : Int) : Bool := decide (mn x y ≤ p) && decide (p ≤ mx x y)
def onB (a b p : Zp) : Bool := decide (areaZ a b p = 0) && (inB a.1 b.1 p.1 && inB a.2 b.2 p.2)
theorem and_turn (z x1 x2 y1 y2 : Bool) : (z && ((x1 && x2) && (y1 && y2))) = (x1 && (x2 && (y1 && (y2 && z)))) := by
  cases z <;> cases x1 <;> cases x2 <;> cases y1 <;> cases y2 <;> rfl
theorem wp_whole_on {a b p : Zp} {h : Ho} {Q : KD} {E : XD} (ha : BdZ 1000 a) (hb : BdZ 1000 b) (hp : BdZ 1000 p) (k : Q (.d (.bool (onB a b p))) h) : M_whole_on [.d (zD a), .d (zD b), .d (zD p)] h Q E := by
  unfold onB inB at k
  rw [and_turn] at k
  refine i_mir rfl (by repeat constructor) (by repeat constructor) ?_
  unfold B_whole_on
  repeat' array_get_dec
  refine i_ite (fun x => ?_) (fun x => ?_)
  · have x : @decide _ _ = true := x
    rw [x, Bool.true_and] at k
    repeat' array_get_dec
    refine i_ite (fun x => ?_) (fun x => ?_)
    · have x : @decide _ _ = true := x
      rw [x, Bool.true_and] at k
      repeat' array_get_dec
      refine i_ite (fun x => ?_) (fun x => ?_)
      · have x : @decide _ _ = true := x
        rw [x, Bool.true_and] at k
        repeat' array_get_dec
        refine i_ite (fun x => ?_) (fun x => ?_)
        · have x : @decide _ _ = true := x
          rw [x, Bool.true_and] at k
          repeat' array_get_dec
          refine wp_area ha hb hp ?_
          repeat' array_get_dec
          exact k
        · have x : @decide _ _ = false := x
          rw [x] at k
          exact k
      · have x : @decide _ _ = false := x
        rw [x] at k
        repeat' array_get_dec
        exact i_ifF rfl k
    · have x : @decide _ _ = false := x
      rw [x] at k
      exact k
  · have x : @decide _ _ = false := x
    rw [x] at k
    repeat' array_get_dec
    exact i_ifF rfl k
theorem wp_lon {a b p : Zp} {h : Ho} {Q : KD} {E : XD} (ha : Small a) (hb : Small b) (hp : Small p) (k : Q (.d (.bool (onB a b p))) h) : M__law_on [.d (zD a), .d (zD b), .d (zD p)] h Q E := by
  unfold onB inB at k
  refine i_mir rfl (by repeat constructor) (by repeat constructor) ?_
  unfold B__law_on
  repeat' array_get_dec
  refine wp_lcross ha hb hp ?_
  repeat' array_get_dec
  by_cases z : areaZ a b p = 0
  · refine i_ifF (by rw [decide_eq_true z]; rfl) ?_
    rw [decide_eq_true z, Bool.true_and] at k
    repeat' array_get_dec
    refine i_ite (fun x => ?_) (fun x => ?_)
    · have x : @decide _ _ = true := x
      rw [x, Bool.true_and] at k
      repeat' array_get_dec
      refine i_ite (fun x => ?_) (fun x => ?_)
      · have x : @decide _ _ = true := x
        rw [x, Bool.true_and] at k
        repeat' array_get_dec
        refine i_ite (fun x => ?_) (fun x => ?_)
        · have x : @decide _ _ = true := x
          rw [x, Bool.true_and] at k
          repeat' array_get_dec
          exact k
        · have x : @decide _ _ = false := x
          rw [x] at k
          exact k
      · have x : @decide _ _ = false := x
        rw [x] at k
        exact k
    · have x : @decide _ _ = false := x
      rw [x] at k
      repeat' array_get_dec
      exact i_ifF rfl k
  · refine i_ifT (by rw [decide_eq_false z]; rfl) ?_
    rw [decide_eq_false z] at k
    repeat' array_get_dec
    exact k
def crB (a b c d : Zp) : Bool := decide (sgn (areaZ a b c) * sgn (areaZ a b d) < 0) && decide (sgn (areaZ c d a) * sgn (areaZ c d b) < 0)
theorem wp_whole_crosses {a b c d : Zp} {h : Ho} {Q : KD} {E : XD} (ha : BdZ 1000 a) (hb : BdZ 1000 b) (hc : BdZ 1000 c) (hd : BdZ 1000 d) (k : Q (.d (.bool (crB a b c d))) h) : M_whole_crosses [.d (zD a), .d (zD b), .d (zD c), .d (zD d)] h Q E := by
  unfold crB at k
  refine i_mir rfl (by repeat constructor) (by repeat constructor) ?_
  unfold B_whole_crosses
  repeat' array_get_dec
  refine wp_wturn ha hb hc ?_
  repeat' array_get_dec
  refine wp_wturn ha hb hd ?_
  repeat' array_get_dec
  · exact cmB (sgn_bd _) (sgn_bd _) (by decide)
  refine i_ite (fun x => ?_) (fun x => ?_)
  · have x : @decide _ _ = true := x
    rw [x, Bool.true_and] at k
    repeat' array_get_dec
    refine wp_wturn hc hd ha ?_
    repeat' array_get_dec
    refine wp_wturn hc hd hb ?_
    repeat' array_get_dec
    · exact cmB (sgn_bd _) (sgn_bd _) (by decide)
    exact k
  · have x : @decide _ _ = false := x
    rw [x] at k
    exact k
end LW
set_option Elab.async false
set_option linter.all false
set_option maxRecDepth 100000
set_option maxHeartbeats 40000000
namespace LW
open PySem PySem.Spec PyProof.Rows L2 V2
local macro_rules
  | `(tactic| array_get_dec) => `(tactic| with_reducible first
    | refine i_seq ?_
    | refine i_asg2v (by repeat constructor) (by repeat constructor) (by repeat constructor) ?_
    | refine i_asgn ?_ (by with_unfolding_all exact Nat.le_of_ble_eq_true rfl)
    | refine i_set (by repeat constructor) ?_
    | refine i_par ?_ (by with_unfolding_all exact Nat.le_of_ble_eq_true rfl) (by with_unfolding_all exact Nat.le_of_ble_eq_true rfl)
    | refine i_pair (by repeat constructor) (by repeat constructor) ?_
    | refine i_par3 ?_ (by with_unfolding_all exact Nat.le_of_ble_eq_true rfl) (by with_unfolding_all exact Nat.le_of_ble_eq_true rfl) (by with_unfolding_all exact Nat.le_of_ble_eq_true rfl)
    | refine i_trip (by repeat constructor) (by repeat constructor) (by repeat constructor) ?_
    | refine i_ret ?_
    | refine i_if ?_
    | refine i_var (by repeat constructor) ?_
    | refine i_c ?_
    | refine i_cons ?_
    | refine i_nil ?_
    | refine i_bin ?_
    | refine i_ints0 ?_
    | refine i_ints ?_ ?_
    | refine i_add ?_
    | refine i_eqi ?_
    | refine i_nei ?_
    | refine i_eqs ?_
    | refine i_nes ?_
    | refine i_un ?_
    | refine i_val ?_
    | refine i_isb ?_
    | refine i_isi ?_
    | refine i_isr ?_
    | refine i_and2 ?_
    | refine i_or2 ?_
    | refine i_not2 ?_
    | refine i_fif ?_
    | refine i_fand ?_
    | refine i_tup ?_
    | refine i_lst ?_
    | refine i_all (by repeat constructor) (by with_unfolding_all exact Nat.le_of_ble_eq_true rfl) ?_
    | refine i_ix (by assumption) (by with_unfolding_all exact rfl) ?_
    | refine i_ix (by with_unfolding_all exact rfl) (by with_unfolding_all exact rfl) ?_
    | refine i_call ?_
    | refine i_fn ?_
    | refine i_fnk ?_
    | refine i_pk1 ?_
    | refine i_pk2 ?_
    | refine i_pk3 ?_
    | refine i_pk4 ?_
    | refine i_abs ?_
    | refine i_toint ?_
    | refine i_gcd ?_
    | refine i_lcm3 ?_ ?_
    | refine i_chain ?_
    | refine i_max2 ?_
    | refine i_min2 ?_
    | refine i_isN ?_
    | refine i_notN ?_
    | refine i_len (by with_unfolding_all exact rfl) ?_
    | refine i_drop ?_
    | refine i_pop ?_
    | refine i_append ?_
    | refine i_sub ?_
    | refine i_raise ?_
    | refine i_one ?_
    | refine i_brk ?_
    | refine i_for ?_
    | refine i_range1 ?_
    | refine i_next ?_)

local macro_rules
  | `(tactic| decreasing_trivial_pre_omega) => `(tactic| (apply cmB; (repeat' (first | assumption | apply Bd.add | apply Bd.sub | apply Bd.mul | apply Bd.neg)); decide))

theorem area_flip (a b c : Zp) : areaZ b a c = - areaZ a b c := by unfold areaZ; grind
theorem sgn_mul_neg (s t : Int) : (0 - s) * (0 - t) = s * t := by grind
section
variable {m L : Nat} {a b c d : Zp}
def OnG (m L : Nat) (a : Zp) : Prop := (gz L (ptOf m a)).1 * m = a.1 * L ∧ (gz L (ptOf m a)).2 * m = a.2 * L
theorem sg_grid (hm : m ≠ 0) (hL : L ≠ 0) (ea : OnG m L a) (eb : OnG m L b) (ec : OnG m L c) : sgn (areaZ (gz L (ptOf m a)) (gz L (ptOf m b)) (gz L (ptOf m c))) = sgn (areaZ a b c) := by
  have p1 : (0 : Int) < m := by omega
  have p2 : (0 : Int) < L := by omega
  exact sgn_scale (Int.mul_pos p1 p1) (Int.mul_pos p2 p2) (area_scale ea.1 ea.2 eb.1 eb.2 ec.1 ec.2)
theorem cr_grid (hm : m ≠ 0) (hL : L ≠ 0) (ea : OnG m L a) (eb : OnG m L b) (ec : OnG m L c) (ed : OnG m L d) : crB (gz L (ptOf m a)) (gz L (ptOf m b)) (gz L (ptOf m c)) (gz L (ptOf m d)) = crB a b c d := by
  unfold crB
  rw [sg_grid hm hL ea eb ec, sg_grid hm hL ea eb ed, sg_grid hm hL ec ed ea, sg_grid hm hL ec ed eb]
theorem le_scale {x y x' y' m L : Int} (hm : 0 < m) (hL : 0 < L) (e1 : x' * m = x * L) (e2 : y' * m = y * L) : x' ≤ y' ↔ x ≤ y := by
  constructor
  · intro h
    have := Int.mul_le_mul_of_nonneg_right h (Int.le_of_lt hm)
    rw [e1, e2] at this
    exact Int.le_of_mul_le_mul_right this hL
  · intro h
    have := Int.mul_le_mul_of_nonneg_right h (Int.le_of_lt hL)
    rw [← e1, ← e2] at this
    exact Int.le_of_mul_le_mul_right this hm
theorem in_scale {x y p x' y' p' m L : Int} (hm : 0 < m) (hL : 0 < L) (e1 : x' * m = x * L) (e2 : y' * m = y * L) (e3 : p' * m = p * L) : inB x' y' p' = inB x y p := by
  have h12 := le_scale hm hL e1 e2
  have h21 := le_scale hm hL e2 e1
  have a1 : mn x' y' * m = mn x y * L := by
    unfold mn
    by_cases c : y < x
    · rw [if_pos c, if_pos (by omega)]; exact e2
    · rw [if_neg c, if_neg (by omega)]; exact e1
  have a2 : mx x' y' * m = mx x y * L := by
    unfold mx
    by_cases c : y > x
    · rw [if_pos c, if_pos (by omega)]; exact e2
    · rw [if_neg c, if_neg (by omega)]; exact e1
  unfold inB
  rw [decide_eq_decide.2 (le_scale hm hL a1 e3), decide_eq_decide.2 (le_scale hm hL e3 a2)]
theorem sgn_zero {i : Int} : sgn i = 0 ↔ i = 0 := by
  unfold sgn
  split
  · omega
  · split <;> omega
theorem on_grid' (hm : m ≠ 0) (hL : L ≠ 0) (ea : OnG m L a) (eb : OnG m L b) (ec : OnG m L c) : onB (gz L (ptOf m a)) (gz L (ptOf m b)) (gz L (ptOf m c)) = onB a b c := by
  have p1 : (0 : Int) < m := by omega
  have p2 : (0 : Int) < L := by omega
  unfold onB
  rw [in_scale p1 p2 ea.1 eb.1 ec.1, in_scale p1 p2 ea.2 eb.2 ec.2]
  have e : decide (areaZ (gz L (ptOf m a)) (gz L (ptOf m b)) (gz L (ptOf m c)) = 0) = decide (areaZ a b c = 0) := by
    rw [decide_eq_decide, ← sgn_zero, sg_grid hm hL ea eb ec, sgn_zero]
  rw [e]
end
theorem in_flip (x y p : Int) : inB y x p = inB x y p := by
  have e1 : mn y x = mn x y := by unfold mn; split <;> split <;> omega
  have e2 : mx y x = mx x y := by unfold mx; split <;> split <;> omega
  unfold inB
  rw [e1, e2]
theorem on_flip (a b p : Zp) : onB b a p = onB a b p := by
  unfold onB
  rw [in_flip a.1, in_flip a.2]
  have e : decide (areaZ b a p = 0) = decide (areaZ a b p = 0) := by
    rw [decide_eq_decide, area_flip]
    omega
  rw [e]
theorem cr_34 (a b c d : Zp) : crB a b d c = crB a b c d := by
  unfold crB
  rw [area_flip c d a, area_flip c d b, sgn_neg, sgn_neg, sgn_mul_neg, Int.mul_comm (sgn (areaZ a b d))]
theorem cr_half (a b c d : Zp) : crB c d a b = crB a b c d := by unfold crB; rw [Bool.and_comm]
theorem cr_back (a b c d : Zp) : crB d c b a = crB a b c d := by
  rw [← cr_half, cr_34, cr_half, cr_34, cr_half]
section
variable {m : Nat} (m0 : m ≠ 0) (m1 : m < 2 ^ 6) {a b c d : Zp} (sa : Small a) (sb : Small b) (sc : Small c) (sd : Small d) {h : Ho} {Q : KD} {E : XD}
include m0 m1 sa sb sc
theorem wp_on_segment (k : Q (.d (.bool (onB a b c))) h) : M_on_segment [.d (ptD (ptOf m a)), .d (ptD (ptOf m b)), .d (ptD (ptOf m c))] h Q E := by
  refine i_mir rfl (by repeat constructor) (by repeat constructor) ?_
  unfold B_on_segment
  repeat' array_get_dec
  refine i_asgG ?_
  repeat' array_get_dec
  refine wp_grid (as := [a, b, c]) m0 m1 (by simp [sa, sb, sc]) (by simp) fun L hL eg bz => ?_
  refine ⟨[some (.d (ptD (ptOf m a))), some (.d (ptD (ptOf m b))), some (.d (ptD (ptOf m c))), some (.d (.int L)), some (.d (zD (gz L (ptOf m a)))), some (.d (zD (gz L (ptOf m b)))), some (.d (zD (gz L (ptOf m c))))], rfl, ?_⟩
  repeat' array_get_dec
  refine wp_whole_on (bz_of (bz a (by simp))) (bz_of (bz b (by simp))) (bz_of (bz c (by simp))) ?_
  rw [on_grid' m0 hL (eg a (by simp)) (eg b (by simp)) (eg c (by simp))]
  exact k
include sd
theorem wp_crosses (k : Q (.d (.bool (crB a b c d))) h) : M_crosses [.d (ptD (ptOf m a)), .d (ptD (ptOf m b)), .d (ptD (ptOf m c)), .d (ptD (ptOf m d))] h Q E := by
  refine i_mir rfl (by repeat constructor) (by repeat constructor) ?_
  unfold B_crosses
  repeat' array_get_dec
  refine i_asgG ?_
  repeat' array_get_dec
  refine wp_grid (as := [a, b, c, d]) m0 m1 (by simp [sa, sb, sc, sd]) (by simp) fun L hL eg bz => ?_
  refine ⟨[some (.d (ptD (ptOf m a))), some (.d (ptD (ptOf m b))), some (.d (ptD (ptOf m c))), some (.d (ptD (ptOf m d))), some (.d (.int L)), some (.d (zD (gz L (ptOf m a)))), some (.d (zD (gz L (ptOf m b)))), some (.d (zD (gz L (ptOf m c)))), some (.d (zD (gz L (ptOf m d))))], rfl, ?_⟩
  repeat' array_get_dec
  refine wp_whole_crosses (bz_of (bz a (by simp))) (bz_of (bz b (by simp))) (bz_of (bz c (by simp))) (bz_of (bz d (by simp))) ?_
  rw [cr_grid m0 hL (eg a (by simp)) (eg b (by simp)) (eg c (by simp)) (eg d (by simp))]
  exact k
end
theorem wp_moved {p q : Pt} {t : Rat} {h : Ho} {Q : KD} {E : XD} (hp : Sz 12 p.1 ∧ Sz 12 p.2) (hq : Sz 12 q.1 ∧ Sz 12 q.2) (ht : Sz 400 t) (k : Q (.d (ptD (p.1 + t * (q.1 - p.1), p.2 + t * (q.2 - p.2)))) h) : M_moved [.d (ptD p), .d (ptD q), .d (fr t)] h Q E := by
  refine i_mir rfl (by repeat constructor) (by repeat constructor) ?_
  unfold B_moved
  repeat' array_get_dec
  refine wp_minus hq.1 hp.1 (by decide) ?_
  repeat' array_get_dec
  refine wp_times ht (hq.1.sub hp.1) (by decide) ?_
  repeat' array_get_dec
  refine wp_plus hp.1 (ht.mul (hq.1.sub hp.1)) (by decide) ?_
  repeat' array_get_dec
  refine wp_minus hq.2 hp.2 (by decide) ?_
  repeat' array_get_dec
  refine wp_times ht (hq.2.sub hp.2) (by decide) ?_
  repeat' array_get_dec
  refine wp_plus hp.2 (ht.mul (hq.2.sub hp.2)) (by decide) ?_
  repeat' array_get_dec
  exact k
/-- the point where two cross -/
def crT (a b c d : Zp) : Rat := qz (areaZ c d a) (areaZ c d a - areaZ c d b)
def crP (m : Nat) (a b c d : Zp) : Pt := ((ptOf m a).1 + crT a b c d * ((ptOf m b).1 - (ptOf m a).1), (ptOf m a).2 + crT a b c d * ((ptOf m b).2 - (ptOf m a).2))
theorem sgn_opp {i j : Int} (h : sgn i * sgn j < 0) : (0 < i ∧ j < 0) ∨ (i < 0 ∧ 0 < j) := by
  unfold sgn at h
  split at h <;> split at h <;> (try split at h) <;> (try split at h) <;> first | (exfalso; revert h; decide) | omega
theorem cr_ne {a b c d : Zp} (h : crB a b c d = true) : areaZ c d a - areaZ c d b ≠ 0 := by
  unfold crB at h
  have := sgn_opp (of_decide_eq_true (Bool.and_eq_true_iff.1 h).2)
  omega
section
variable {m : Nat} (m0 : m ≠ 0) (m1 : m < 2 ^ 6) {a b c d : Zp} (sa : Small a) (sb : Small b) (sc : Small c) (sd : Small d) {h : Ho} {Q : KD} {E : XD}
include sa sb sc sd
theorem crT_sz (hc : crB a b c d = true) : Sz 30 (crT a b c d) :=
  qz_sz (cr_ne hc) ((small_area sc sd sa).mono (by decide)) (((small_area sc sd sa).sub (small_area sc sd sb)).mono (by decide))
include m0 m1
theorem crP_sz (hc : crB a b c d = true) : Sz 100 (crP m a b c d).1 ∧ Sz 100 (crP m a b c d).2 := by
  have pa := pt_sz m0 m1 sa
  have pb := pt_sz m0 m1 sb
  have t := crT_sz sa sb sc sd hc
  exact ⟨(pa.1.add (t.mul (pb.1.sub pa.1))).mono (by decide), (pa.2.add (t.mul (pb.2.sub pa.2))).mono (by decide)⟩
theorem wp_crossing (k1 : crB a b c d = false → Q (.d .none) h) (k2 : crB a b c d = true → Q (.d (ptD (crP m a b c d))) h) : M_crossing_point [.d (ptD (ptOf m a)), .d (ptD (ptOf m b)), .d (ptD (ptOf m c)), .d (ptD (ptOf m d))] h Q E := by
  refine i_mir rfl (by repeat constructor) (by repeat constructor) ?_
  unfold B_crossing_point
  repeat' array_get_dec
  refine i_asgG ?_
  repeat' array_get_dec
  refine wp_grid (as := [a, b, c, d]) m0 m1 (by simp [sa, sb, sc, sd]) (by simp) fun L hL eg bz => ?_
  have ba := bz a (by simp)
  have bb := bz b (by simp)
  have bc := bz c (by simp)
  have bd := bz d (by simp)
  have ga := eg a (by simp)
  have gb := eg b (by simp)
  have gc := eg c (by simp)
  have gd := eg d (by simp)
  refine ⟨[some (.d (ptD (ptOf m a))), some (.d (ptD (ptOf m b))), some (.d (ptD (ptOf m c))), some (.d (ptD (ptOf m d))), some (.d (.int L)), some (.d (zD (gz L (ptOf m a)))), some (.d (zD (gz L (ptOf m b)))), some (.d (zD (gz L (ptOf m c)))), some (.d (zD (gz L (ptOf m d)))), none, none], rfl, ?_⟩
  repeat' array_get_dec
  refine wp_whole_crosses (bz_of ba) (bz_of bb) (bz_of bc) (bz_of bd) ?_
  rw [cr_grid m0 hL ga gb gc gd]
  repeat' array_get_dec
  by_cases hc : crB a b c d = true
  · refine i_ifF (by rw [hc]; rfl) ?_
    repeat' array_get_dec
    refine wp_area (bz_of bc) (bz_of bd) (bz_of ba) ?_
    repeat' array_get_dec
    refine wp_area (bz_of bc) (bz_of bd) (bz_of bb) ?_
    repeat' array_get_dec
    have hc' : crB (gz L (ptOf m a)) (gz L (ptOf m b)) (gz L (ptOf m c)) (gz L (ptOf m d)) = true := by rw [cr_grid m0 hL ga gb gc gd]; exact hc
    have n1 := cr_ne hc'
    have n0 := cr_ne hc
    refine wp_fractionZ (n := 2004) n1 ((area_bd (bz_of bc) (bz_of bd) (bz_of ba)).sub (area_bd (bz_of bc) (bz_of bd) (bz_of bb))) (by decide) (by decide) ?_
    have e1 := area_scale gc.1 gc.2 gd.1 gd.2 ga.1 ga.2
    have e2 := area_scale gc.1 gc.2 gd.1 gd.2 gb.1 gb.2
    have mm : (m : Int) * m ≠ 0 := Int.mul_ne_zero (by omega) (by omega)
    have et : qz (areaZ (gz L (ptOf m c)) (gz L (ptOf m d)) (gz L (ptOf m a))) (areaZ (gz L (ptOf m c)) (gz L (ptOf m d)) (gz L (ptOf m a)) - areaZ (gz L (ptOf m c)) (gz L (ptOf m d)) (gz L (ptOf m b))) = crT a b c d := by
      refine qz_eq n1 n0 ?_
      generalize areaZ (gz L (ptOf m c)) (gz L (ptOf m d)) (gz L (ptOf m a)) = A' at *
      generalize areaZ (gz L (ptOf m c)) (gz L (ptOf m d)) (gz L (ptOf m b)) = B' at *
      generalize areaZ c d a = A at *
      generalize areaZ c d b = B at *
      generalize (m : Int) * m = M at *
      generalize (L : Int) * L = N at *
      refine Int.eq_of_mul_eq_mul_right mm ?_
      have : A' * (A - B) * M = (A' * M) * (A - B) := by grind
      rw [this, e1]
      have : A * (A' - B') * M = A * (A' * M - B' * M) := by grind
      rw [this, e1, e2]
      grind
    rw [et]
    repeat' array_get_dec
    exact wp_moved (pt_sz m0 m1 sa) (pt_sz m0 m1 sb) ((crT_sz sa sb sc sd hc).mono (by decide)) (k2 hc)
  · have hc : crB a b c d = false := by simpa using hc
    refine i_ifT (by rw [hc]; rfl) ?_
    repeat' array_get_dec
    exact k1 hc
end
end LW
set_option Elab.async false
set_option linter.all false
set_option maxRecDepth 100000
set_option maxHeartbeats 40000000
namespace LW
open PySem PySem.Spec PyProof.Rows L2 V2
local macro_rules
  | `(tactic| array_get_dec) => `(tactic| with_reducible first
    | refine i_seq ?_
    | refine i_asg2v (by repeat constructor) (by repeat constructor) (by repeat constructor) ?_
    | refine i_asgn ?_ (by with_unfolding_all exact Nat.le_of_ble_eq_true rfl)
    | refine i_set (by repeat constructor) ?_
    | refine i_par ?_ (by with_unfolding_all exact Nat.le_of_ble_eq_true rfl) (by with_unfolding_all exact Nat.le_of_ble_eq_true rfl)
    | refine i_pair (by repeat constructor) (by repeat constructor) ?_
    | refine i_par3 ?_ (by with_unfolding_all exact Nat.le_of_ble_eq_true rfl) (by with_unfolding_all exact Nat.le_of_ble_eq_true rfl) (by with_unfolding_all exact Nat.le_of_ble_eq_true rfl)
    | refine i_trip (by repeat constructor) (by repeat constructor) (by repeat constructor) ?_
    | refine i_ret ?_
    | refine i_if ?_
    | refine i_var (by repeat constructor) ?_
    | refine i_c ?_
    | refine i_cons ?_
    | refine i_nil ?_
    | refine i_bin ?_
    | refine i_ints0 ?_
    | refine i_ints ?_ ?_
    | refine i_add ?_
    | refine i_eqi ?_
    | refine i_nei ?_
    | refine i_eqs ?_
    | refine i_nes ?_
    | refine i_un ?_
    | refine i_val ?_
    | refine i_isb ?_
    | refine i_isi ?_
    | refine i_isr ?_
    | refine i_and2 ?_
    | refine i_or2 ?_
    | refine i_not2 ?_
    | refine i_fif ?_
    | refine i_fand ?_
    | refine i_tup ?_
    | refine i_lst ?_
    | refine i_all (by repeat constructor) (by with_unfolding_all exact Nat.le_of_ble_eq_true rfl) ?_
    | refine i_ix (by assumption) (by with_unfolding_all exact rfl) ?_
    | refine i_ix (by with_unfolding_all exact rfl) (by with_unfolding_all exact rfl) ?_
    | refine i_call ?_
    | refine i_fn ?_
    | refine i_fnk ?_
    | refine i_pk1 ?_
    | refine i_pk2 ?_
    | refine i_pk3 ?_
    | refine i_pk4 ?_
    | refine i_abs ?_
    | refine i_toint ?_
    | refine i_gcd ?_
    | refine i_lcm3 ?_ ?_
    | refine i_chain ?_
    | refine i_max2 ?_
    | refine i_min2 ?_
    | refine i_isN ?_
    | refine i_notN ?_
    | refine i_len (by with_unfolding_all exact rfl) ?_
    | refine i_drop ?_
    | refine i_pop ?_
    | refine i_append ?_
    | refine i_sub ?_
    | refine i_raise ?_
    | refine i_one ?_
    | refine i_brk ?_
    | refine i_for ?_
    | refine i_range1 ?_
    | refine i_next ?_)

local macro_rules
  | `(tactic| decreasing_trivial_pre_omega) => `(tactic| (apply cmB; (repeat' (first | assumption | apply Bd.add | apply Bd.sub | apply Bd.mul | apply Bd.neg)); decide))

theorem cr_iff (a b c d : Zp) : crB a b c d = true ↔ ((0 < areaZ a b c ∧ areaZ a b d < 0) ∨ (areaZ a b c < 0 ∧ 0 < areaZ a b d)) ∧ ((0 < areaZ c d a ∧ areaZ c d b < 0) ∨ (areaZ c d a < 0 ∧ 0 < areaZ c d b)) := by
  have key : ∀ i j : Int, sgn i * sgn j < 0 ↔ ((0 < i ∧ j < 0) ∨ (i < 0 ∧ 0 < j)) := by
    intro i j
    refine ⟨sgn_opp, ?_⟩
    rintro (⟨h1, h2⟩ | ⟨h1, h2⟩)
    · have e1 : sgn i = 1 := by unfold sgn; rw [if_pos h1]
      have e2 : sgn j = -1 := by unfold sgn; rw [if_neg (by omega), if_pos h2]
      rw [e1, e2]; decide
    · have e1 : sgn i = -1 := by unfold sgn; rw [if_neg (by omega), if_pos h1]
      have e2 : sgn j = 1 := by unfold sgn; rw [if_pos h2]
      rw [e1, e2]; decide
  unfold crB
  rw [Bool.and_eq_true_iff, decide_eq_true_eq, decide_eq_true_eq, key, key]
theorem area_four (a b c d : Zp) : areaZ a b d - areaZ a b c = areaZ c d a - areaZ c d b := by unfold areaZ; grind
section
variable {a b c d : Zp} (sa : Small a) (sb : Small b) (sc : Small c) (sd : Small d) {h : Ho} {Q : KD} {E : XD}
include sa sb sc sd
theorem wp_lparts (k1 : crB a b c d = false → Q (.d .none) h) (k2 : crB a b c d = true → ∀ t o S : Int, 0 < S → t * (areaZ c d a - areaZ c d b) = areaZ c d a * S → Bd 30 t → Bd 30 S → Q (.d (.tuple [.int t, .int o, .int S])) h) :
    M__law_parts [.d (zD a), .d (zD b), .d (zD c), .d (zD d)] h Q E := by
  have bA := small_area sc sd sa
  have bB := small_area sc sd sb
  have i4 := area_four a b c d
  have ci := cr_iff a b c d
  obtain ⟨a1, a2⟩ := sa
  obtain ⟨b1, b2⟩ := sb
  obtain ⟨c1, c2⟩ := sc
  obtain ⟨d1, d2⟩ := sd
  refine i_mir rfl (by repeat constructor) (by repeat constructor) ?_
  unfold B__law_parts
  array_get_dec
  refine i_asgG ?_
  repeat' array_get_dec
  refine ⟨[some (.d (zD a)), some (.d (zD b)), some (.d (zD c)), some (.d (zD d)), some (.d (.int (b.1 - a.1))), some (.d (.int (b.2 - a.2))), some (.d (.int (d.1 - c.1))), some (.d (.int (d.2 - c.2))), none, none, none], rfl, ?_⟩
  repeat' array_get_dec
  · decreasing_trivial_pre_omega
  · decreasing_trivial_pre_omega
  · decreasing_trivial_pre_omega
  · decreasing_trivial_pre_omega
  · decreasing_trivial_pre_omega
  · decreasing_trivial_pre_omega
  have eS : (b.1 - a.1) * (d.2 - c.2) - (b.2 - a.2) * (d.1 - c.1) = areaZ c d a - areaZ c d b := by unfold areaZ; grind
  have e1 : (c.1 - a.1) * (d.2 - c.2) - (c.2 - a.2) * (d.1 - c.1) = areaZ c d a := by unfold areaZ; grind
  have e2 : (c.1 - a.1) * (b.2 - a.2) - (c.2 - a.2) * (b.1 - a.1) = -areaZ a b c := by unfold areaZ; grind
  rw [eS, e1, e2]
  generalize areaZ a b c = C at *
  generalize areaZ a b d = D at *
  generalize areaZ c d a = A at *
  generalize areaZ c d b = B at *
  by_cases hS : A - B < 0
  · refine i_ifT (decide_eq_true hS) ?_
    repeat' array_get_dec
    by_cases hc : crB a b c d = true
    · have ci := ci.1 hc
      refine i_ifT (decide_eq_true (by omega)) ?_
      repeat' array_get_dec
      refine i_ifT (decide_eq_true (by omega)) ?_
      repeat' array_get_dec
      refine i_ifT (decide_eq_true (by omega)) ?_
      repeat' array_get_dec
      refine i_ifT (decide_eq_true (by omega)) ?_
      repeat' array_get_dec
      refine k2 hc _ _ _ (by omega) (by grind) ?_ ?_
      · rw [Int.zero_sub]; exact bA.neg.mono (by decide)
      · rw [Int.zero_sub]; exact (bA.sub bB).neg.mono (by decide)
    · have ci : ¬ _ := fun z => hc (ci.2 z)
      have hc : crB a b c d = false := by simpa using hc
      refine i_ite (fun x1 => ?_) (fun x1 => ?_)
      · have x1 := of_decide_eq_true x1
        repeat' array_get_dec
        refine i_ite (fun x2 => ?_) (fun x2 => ?_)
        · have x2 := of_decide_eq_true x2
          repeat' array_get_dec
          refine i_ite (fun x3 => ?_) (fun x3 => ?_)
          · have x3 := of_decide_eq_true x3
            repeat' array_get_dec
            refine i_ite (fun x4 => ?_) (fun x4 => ?_)
            · have x4 := of_decide_eq_true x4
              exact absurd ⟨.inr ⟨by omega, by omega⟩, by omega⟩ ci
            · repeat' array_get_dec
              exact k1 hc
          · repeat' array_get_dec
            refine i_ifF rfl ?_
            repeat' array_get_dec
            exact k1 hc
        · refine i_ifF rfl ?_
          repeat' array_get_dec
          exact k1 hc
      · repeat' array_get_dec
        refine i_ifF rfl ?_
        refine i_ifF rfl ?_
        repeat' array_get_dec
        exact k1 hc
  · refine i_ifF (decide_eq_false hS) ?_
    repeat' array_get_dec
    by_cases hc : crB a b c d = true
    · have ci := ci.1 hc
      refine i_ifT (decide_eq_true (by omega)) ?_
      repeat' array_get_dec
      refine i_ifT (decide_eq_true (by omega)) ?_
      repeat' array_get_dec
      refine i_ifT (decide_eq_true (by omega)) ?_
      repeat' array_get_dec
      refine i_ifT (decide_eq_true (by omega)) ?_
      repeat' array_get_dec
      exact k2 hc _ _ _ (by omega) (by grind) (bA.mono (by decide)) ((bA.sub bB).mono (by decide))
    · have ci : ¬ _ := fun z => hc (ci.2 z)
      have hc : crB a b c d = false := by simpa using hc
      refine i_ite (fun x1 => ?_) (fun x1 => ?_)
      · have x1 := of_decide_eq_true x1
        repeat' array_get_dec
        refine i_ite (fun x2 => ?_) (fun x2 => ?_)
        · have x2 := of_decide_eq_true x2
          repeat' array_get_dec
          refine i_ite (fun x3 => ?_) (fun x3 => ?_)
          · have x3 := of_decide_eq_true x3
            repeat' array_get_dec
            refine i_ite (fun x4 => ?_) (fun x4 => ?_)
            · have x4 := of_decide_eq_true x4
              exact absurd ⟨.inr ⟨by omega, by omega⟩, by omega⟩ ci
            · repeat' array_get_dec
              exact k1 hc
          · repeat' array_get_dec
            refine i_ifF rfl ?_
            repeat' array_get_dec
            exact k1 hc
        · refine i_ifF rfl ?_
          repeat' array_get_dec
          exact k1 hc
      · repeat' array_get_dec
        refine i_ifF rfl ?_
        refine i_ifF rfl ?_
        repeat' array_get_dec
        exact k1 hc
end
theorem wp_pdue0 {a b m : D} {h : Ho} {Q : KD} {E : XD} (k : Q (.d .none) h) : M__law_point_due [a, b, .d .none, m] h Q E := by
  refine i_mir rfl (by repeat constructor) (by repeat constructor) ?_
  unfold B__law_point_due
  repeat' array_get_dec
  refine i_ifT rfl ?_
  repeat' array_get_dec
  exact k
theorem cr_aux {M S T t A D x y : Rat} (hM : M ≠ 0) (hS : S ≠ 0) (hD : D ≠ 0) (h1 : T * D = A) (e : t * D = A * S) : (x * S + t * (y - x)) / (M * S) = x / M + T * (y / M - x / M) := by
  have et : t = T * S := by grind
  subst et
  grind
theorem crP_eq {m : Nat} (m0 : m ≠ 0) {A D t S : Int} (hD : D ≠ 0) (hS : 0 < S) (e : t * D = A * S) (x y : Int) : mkRat (x * S + t * (y - x)) (m * S.natAbs) = mkRat x m + qz A D * (mkRat y m - mkRat x m) := by
  have hq := qz_div (p := A) hD
  have hn : ((S.natAbs : Nat) : Rat) = (S : Rat) := by
    have : ((S.natAbs : Nat) : Int) = S := by omega
    rw [← Rat.intCast_natCast, this]
  rw [Rat.mkRat_eq_div, Rat.mkRat_eq_div, Rat.mkRat_eq_div, Rat.natCast_mul, hn]
  simp only [Rat.intCast_add, Rat.intCast_mul, Rat.intCast_sub]
  refine cr_aux ?_ ?_ ?_ hq ?_
  · exact_mod_cast m0
  · exact_mod_cast (by omega : S ≠ 0)
  · exact_mod_cast hD
  · exact_mod_cast e
theorem half_aux {M T1 T2 D A C x y u v : Rat} (hM : M ≠ 0) (hD : D ≠ 0) (h1 : T1 * D = A) (h2 : T2 * (-D) = C) (e : u * D - C * (v - u) = x * D + A * (y - x)) : u / M + T2 * (v / M - u / M) = x / M + T1 * (y / M - x / M) := by
  subst h1 h2
  have e2 : (u + T2 * (v - u)) * D = (x + T1 * (y - x)) * D := by grind
  have e3 : u + T2 * (v - u) = x + T1 * (y - x) := by grind
  grind
theorem crP_half {m : Nat} (m0 : m ≠ 0) {a b c d : Zp} (hc : crB a b c d = true) : crP m c d a b = crP m a b c d := by
  have n1 := cr_ne hc
  have n2 := cr_ne ((cr_half a b c d).trans hc)
  have h1 := qz_div (p := areaZ c d a) n1
  have h2 := qz_div (p := areaZ a b c) n2
  have e4 : areaZ a b c - areaZ a b d = -(areaZ c d a - areaZ c d b) := by have := area_four a b c d; omega
  have h2 : crT c d a b * (-((areaZ c d a - areaZ c d b : Int) : Rat)) = (areaZ a b c : Rat) := by
    rw [← Rat.intCast_neg, ← e4]
    exact h2
  have hm : (m : Rat) ≠ 0 := by exact_mod_cast m0
  have hD : ((areaZ c d a - areaZ c d b : Int) : Rat) ≠ 0 := by exact_mod_cast n1
  have x1 : c.1 * (areaZ c d a - areaZ c d b) - areaZ a b c * (d.1 - c.1) = a.1 * (areaZ c d a - areaZ c d b) + areaZ c d a * (b.1 - a.1) := by unfold areaZ; grind
  have x2 : c.2 * (areaZ c d a - areaZ c d b) - areaZ a b c * (d.2 - c.2) = a.2 * (areaZ c d a - areaZ c d b) + areaZ c d a * (b.2 - a.2) := by unfold areaZ; grind
  unfold crP ptOf
  simp only [Rat.mkRat_eq_div]
  refine Prod.ext ?_ ?_
  · exact half_aux hm hD h1 h2 (by exact_mod_cast x1)
  · exact half_aux hm hD h1 h2 (by exact_mod_cast x2)
section
variable {m : Nat} (m0 : m ≠ 0) (m1 : m < 2 ^ 6) {a b c d : Zp} (sa : Small a) (sb : Small b) {h : Ho} {Q : KD} {E : XD}
include m0 m1 sa sb
theorem wp_pdue (hc : crB a b c d = true) {t o S : Int} (hS : 0 < S) (e : t * (areaZ c d a - areaZ c d b) = areaZ c d a * S) (bt : Bd 30 t) (bS : Bd 30 S) (k : Q (.d (ptD (crP m a b c d))) h) :
    M__law_point_due [.d (zD a), .d (zD b), .d (.tuple [.int t, .int o, .int S]), .d (.int m)] h Q E := by
  have n1 := cr_ne hc
  have bm := bdN m1
  obtain ⟨a1, a2⟩ := sa
  obtain ⟨b1, b2⟩ := sb
  have e3 : (m : Int) * S = ((m * S.natAbs : Nat) : Int) := by rw [Int.natCast_mul, Int.natAbs_of_nonneg (by omega)]
  have q0 : m * S.natAbs ≠ 0 := Nat.mul_ne_zero m0 (by omega)
  have q1 : m * S.natAbs < 2 ^ 36 := mul_lt_pow m1 bS
  refine i_mir rfl (by repeat constructor) (by repeat constructor) ?_
  unfold B__law_point_due
  repeat' array_get_dec
  refine i_ifF rfl ?_
  repeat' array_get_dec
  · exact cmB a1 bS (by decide)
  · exact cmB bt (b1.sub a1) (by decide)
  · exact cmB bm bS (by decide)
  rw [e3]
  refine wp_low (n := 60) (m := 36) q0 (((a1.mul bS).add (bt.mul (b1.sub a1))).mono (by decide)) q1 (by decide) (by decide) ?_
  rw [crP_eq m0 n1 hS e]
  repeat' array_get_dec
  · exact cmB a2 bS (by decide)
  · exact cmB bt (b2.sub a2) (by decide)
  · exact cmB bm bS (by decide)
  rw [e3]
  refine wp_low (n := 60) (m := 36) q0 (((a2.mul bS).add (bt.mul (b2.sub a2))).mono (by decide)) q1 (by decide) (by decide) ?_
  rw [crP_eq m0 n1 hS e]
  repeat' array_get_dec
  exact k
end
end LW
set_option Elab.async false
set_option linter.all false
set_option maxRecDepth 100000
set_option maxHeartbeats 40000000
namespace LW
open PySem PySem.Spec PyProof.Rows L2 V2
local macro_rules
  | `(tactic| array_get_dec) => `(tactic| with_reducible first
    | refine i_seq ?_
    | refine i_asg2v (by repeat constructor) (by repeat constructor) (by repeat constructor) ?_
    | refine i_asgn ?_ (by with_unfolding_all exact Nat.le_of_ble_eq_true rfl)
    | refine i_set (by repeat constructor) ?_
    | refine i_par ?_ (by with_unfolding_all exact Nat.le_of_ble_eq_true rfl) (by with_unfolding_all exact Nat.le_of_ble_eq_true rfl)
    | refine i_pair (by repeat constructor) (by repeat constructor) ?_
    | refine i_par3 ?_ (by with_unfolding_all exact Nat.le_of_ble_eq_true rfl) (by with_unfolding_all exact Nat.le_of_ble_eq_true rfl) (by with_unfolding_all exact Nat.le_of_ble_eq_true rfl)
    | refine i_trip (by repeat constructor) (by repeat constructor) (by repeat constructor) ?_
    | refine i_ret ?_
    | refine i_if ?_
    | refine i_var (by repeat constructor) ?_
    | refine i_c ?_
    | refine i_cons ?_
    | refine i_nil ?_
    | refine i_bin ?_
    | refine i_ints0 ?_
    | refine i_ints ?_ ?_
    | refine i_add ?_
    | refine i_eqi ?_
    | refine i_nei ?_
    | refine i_eqs ?_
    | refine i_nes ?_
    | refine i_un ?_
    | refine i_val ?_
    | refine i_isb ?_
    | refine i_isi ?_
    | refine i_isr ?_
    | refine i_and2 ?_
    | refine i_or2 ?_
    | refine i_not2 ?_
    | refine i_fif ?_
    | refine i_fand ?_
    | refine i_tup ?_
    | refine i_lst ?_
    | refine i_all (by repeat constructor) (by with_unfolding_all exact Nat.le_of_ble_eq_true rfl) ?_
    | refine i_ix (by assumption) (by with_unfolding_all exact rfl) ?_
    | refine i_ix (by with_unfolding_all exact rfl) (by with_unfolding_all exact rfl) ?_
    | refine i_call ?_
    | refine i_fn ?_
    | refine i_fnk ?_
    | refine i_pk1 ?_
    | refine i_pk2 ?_
    | refine i_pk3 ?_
    | refine i_pk4 ?_
    | refine i_abs ?_
    | refine i_toint ?_
    | refine i_gcd ?_
    | refine i_lcm3 ?_ ?_
    | refine i_chain ?_
    | refine i_max2 ?_
    | refine i_min2 ?_
    | refine i_isN ?_
    | refine i_notN ?_
    | refine i_len (by with_unfolding_all exact rfl) ?_
    | refine i_drop ?_
    | refine i_pop ?_
    | refine i_append ?_
    | refine i_sub ?_
    | refine i_raise ?_
    | refine i_one ?_
    | refine i_brk ?_
    | refine i_for ?_
    | refine i_range1 ?_
    | refine i_next ?_)

local macro_rules
  | `(tactic| decreasing_trivial_pre_omega) => `(tactic| (apply cmB; (repeat' (first | assumption | apply Bd.add | apply Bd.sub | apply Bd.mul | apply Bd.neg)); decide))

theorem In.small {z : Zp} (h : In 1000 z) : Small z := by
  unfold In at h
  refine ⟨?_, ?_⟩
  · show z.1.natAbs < 2 ^ 12
    omega
  · show z.2.natAbs < 2 ^ 12
    omega
/-- the spots stand at a place -/
def Sp (B f t : Int) (ρ : En) (h : Ho) : Prop := ∃ (rest : Ho) (i : Nat) (p0 p1 p2 p3 : Zp) (z1 z3 z6 z7 z8 z9 : Option D), ρ = [some (.loc 1), z1, some (.loc (i + 2)), z3, some (.d (.int f)), some (.d (.int t)), z6, z7, z8, z9] ∧ Deal rest h ∧
  rest[i]? = some (.lst [.d (zD p0), .d (zD p1), .d (zD p2), .d (zD p3)]) ∧ In B p0 ∧ In B p1 ∧ In B p2 ∧ In B p3
theorem mid_in {p q : Zp} (hp : In 80 p) (hq : In 80 q) : In 80 ((p.1 + q.1).fdiv 2, (p.2 + q.2).fdiv 2) := by
  unfold In at *
  simp only [Int.fdiv_eq_ediv_of_nonneg _ (by decide : (0 : Int) ≤ 2)]
  omega
theorem wp_spots {rest h : Ho} {Q : KD} {E : XD} (dh : Deal rest h) (k : ∀ rest' i p0 p1 p2 p3 h', Deal rest' h' → rest'[i]? = some (.lst [.d (zD p0), .d (zD p1), .d (zD p2), .d (zD p3)]) → In 100 p0 → In 100 p1 → In 100 p2 → In 100 p3 → Q (.loc (i + 2)) h') :
    M__law_spots [.loc 1] h Q E := by
  refine i_mir rfl (by repeat constructor) (by repeat constructor) ?_
  unfold B__law_spots
  repeat' array_get_dec
  refine wp_of (by simp) (by simp) dh fun x h1 hx dh => ?_
  have hx : ∃ r : Int, x = .int r ∧ 0 ≤ r ∧ r ≤ 40 := by
    simp only [List.mem_cons, List.not_mem_nil, or_false] at hx
    rcases hx with rfl | rfl | rfl
    all_goals exact ⟨_, rfl, by omega, by omega⟩
  obtain ⟨r, rfl, r0, r1⟩ := hx
  repeat' array_get_dec
  refine i_lcl ?_
  repeat' array_get_dec
  refine ⟨by decide, by decide, ?_⟩
  refine lc_pts (B := r) (ρf := fun x => [some (.loc 1), some (.d (.int r)), none, some x, none, none, none, none, none, none]) dh (fun _ _ => rfl) ?_ (fun _ _ _ _ => trivial) (by simp [rangeD]) ?_
  · intro k x rest2 h K _ d _ hK
    repeat' array_get_dec
    exact wp_spot r0 (by omega) d hK
  intro p0 p1 p2 p3 h2 dh i0 i1 i2 i3
  have eg : (rest ++ [O.lst [.d (zD p0), .d (zD p1), .d (zD p2), .d (zD p3)]])[rest.length]? = some (.lst [.d (zD p0), .d (zD p1), .d (zD p2), .d (zD p3)]) := by simp
  rename_i dh0
  rw [dh0.len]
  repeat' array_get_dec
  refine wp_any (by decide) (by decide) dh fun f h3 f0 f1 dh => ?_
  repeat' array_get_dec
  refine wp_any (by decide) (by decide) dh fun t h3 t0 t1 dh => ?_
  have ht : t = 0 ∨ t = 1 ∨ t = 2 ∨ t = 3 := by omega
  repeat' (first | refine i_nil ?_ | refine i_pair (by repeat constructor) (by repeat constructor) ?_)
  array_get_dec
  refine i_cut (Sp 40 f t) ?tail1 fun tl => ?_
  case tail1 =>
    rintro ρ h ⟨rest, i, p0, p1, p2, p3, z1, z3, z6, z7, z8, z9, rfl, dh, eg, i0, i1, i2, i3⟩
    array_get_dec
    refine i_cut (Sp 40 f t) ?tail2 fun tl => ?_
    case tail2 =>
      rintro ρ h ⟨rest, i, p0, p1, p2, p3, z1, z3, z6, z7, z8, z9, rfl, dh, eg, i0, i1, i2, i3⟩
      array_get_dec
      refine i_cut (Sp 40 f t) ?tail3 fun tl => ?_
      case tail3 =>
        rintro ρ h ⟨rest, i, p0, p1, p2, p3, z1, z3, z6, z7, z8, z9, rfl, dh, eg, i0, i1, i2, i3⟩
        array_get_dec
        refine i_cut (Sp 80 f t) ?tail4 fun tl => ?_
        case tail4 =>
          rintro ρ h ⟨rest, i, p0, p1, p2, p3, z1, z3, z6, z7, z8, z9, rfl, dh, eg, i0, i1, i2, i3⟩
          array_get_dec
          refine i_cut (Sp 100 f t) ?tail5 fun tl => ?_
          case tail5 =>
            rintro ρ h ⟨rest, i, p0, p1, p2, p3, z1, z3, z6, z7, z8, z9, rfl, dh, eg, i0, i1, i2, i3⟩
            repeat' array_get_dec
            exact k _ _ _ _ _ _ _ dh eg i0 i1 i2 i3
          repeat' array_get_dec
          refine i_ite (fun c => ?_) (fun c => ?_)
          · repeat' array_get_dec
            refine wp_any (by decide) (by decide) dh fun v h' v0 v1 dh => ?_
            have hi := dh.items eg
            repeat' array_get_dec
            refine i_loc ?_
            repeat' array_get_dec
            refine ⟨Nat.le_of_ble_eq_true rfl, ?_⟩
            rw [dh.len]
            array_get_dec
            have j0 : In 100 (p0.1 + v, p0.2) := by unfold In at *; simp only; omega
            have j1 : In 100 (p0.1 - v, p0.2) := by unfold In at *; simp only; omega
            have j2 : In 100 (p0.1, 5) := by unfold In at *; simp only; omega
            have j3 : In 100 (p0.1, -5) := by unfold In at *; simp only; omega
            have dh4 := dh.snoc (.lst [.d (zD (p0.1 + v, p0.2)), .d (zD (p0.1 - v, p0.2)), .d (zD (p0.1, 5)), .d (zD (p0.1, -5))])
            refine tl _ _ ⟨_, _, (p0.1 + v, p0.2), (p0.1 - v, p0.2), (p0.1, 5), (p0.1, -5), _, _, _, _, _, _, rfl, dh4, ?_, j0, j1, j2, j3⟩
            simp
          · array_get_dec
            exact tl _ _ ⟨_, i, p0, p1, p2, p3, _, _, _, _, _, _, rfl, dh, eg, i0.mono (by decide), i1.mono (by decide), i2.mono (by decide), i3.mono (by decide)⟩
        have hi := dh.items eg
        have il : i < rest.length := (List.getElem?_eq_some_iff.1 eg).1
        repeat' array_get_dec
        refine i_ite (fun c => ?_) (fun c => ?_)
        · array_get_dec
          array_get_dec
          refine i_lcl ?_
          refine i_iseq (by repeat constructor) hi ?_
          refine lc_pts (B := 80) (ρf := fun x => [some (.loc 1), z1, some (.loc (i + 2)), z3, some (.d (.int f)), some (.d (.int t)), some x, z7, z8, z9]) dh (fun _ _ => rfl) ?_ ?_ rfl ?_
          · intro k x rest2 h K ex d o hK
            have hx : ∃ z : Zp, x = .d (zD z) ∧ In 40 z := by
              have := List.mem_of_getElem? ex
              simp only [List.mem_cons, List.not_mem_nil, or_false] at this
              rcases this with rfl | rfl | rfl | rfl
              · exact ⟨_, rfl, i0⟩
              · exact ⟨_, rfl, i1⟩
              · exact ⟨_, rfl, i2⟩
              · exact ⟨_, rfl, i3⟩
            obtain ⟨z, rfl, hz⟩ := hx
            repeat' array_get_dec
            · exact cmulw (n := 20) (by decide) (by decide) (by unfold In at hz; omega) (by decide)
            · exact cmulw (n := 20) (by decide) (by decide) (by unfold In at hz; omega) (by decide)
            refine hK (2 * z.1, 2 * z.2) _ ?_ d
            unfold In at *
            simp only
            omega
          · intro rest2 h d o
            show h[i + 2]? = _
            rw [d.get, o _ il, eg]
          · intro o0 o1 o2 o3 h5 dh3 l0 l1 l2 l3
            rw [dh.len]
            have eg2 : (rest ++ [O.lst [.d (zD o0), .d (zD o1), .d (zD o2), .d (zD o3)]])[rest.length]? = some (.lst [.d (zD o0), .d (zD o1), .d (zD o2), .d (zD o3)]) := by simp
            have hi2 := dh3.items eg2
            rcases ht with rfl | rfl | rfl | rfl
            · repeat' array_get_dec
              · decide
              refine i_ifT rfl ?_
              repeat' array_get_dec
              · exact ⟨by decide, by decide⟩
              · exact ⟨by decide, by decide⟩
              refine subK_loc (j := 0) (dh3.at' eg2) rfl rfl ?_
              exact tl _ _ ⟨_, _, ((o2.1 + o3.1).fdiv 2, (o2.2 + o3.2).fdiv 2), o1, o2, o3, _, _, _, _, _, _, rfl, dh3.put _ _, set_get eg2, mid_in l2 l3, l1, l2, l3⟩
            · repeat' array_get_dec
              · decide
              refine i_ifF rfl ?_
              repeat' array_get_dec
              · exact ⟨by decide, by decide⟩
              · exact ⟨by decide, by decide⟩
              refine subK_loc (j := 1) (dh3.at' eg2) rfl rfl ?_
              exact tl _ _ ⟨_, _, o0, ((o3.1 + o2.1).fdiv 2, (o3.2 + o2.2).fdiv 2), o2, o3, _, _, _, _, _, _, rfl, dh3.put _ _, set_get eg2, l0, mid_in l3 l2, l2, l3⟩
            · repeat' array_get_dec
              · decide
              refine i_ifT rfl ?_
              repeat' array_get_dec
              · exact ⟨by decide, by decide⟩
              · exact ⟨by decide, by decide⟩
              refine subK_loc (j := 2) (dh3.at' eg2) rfl rfl ?_
              exact tl _ _ ⟨_, _, o0, o1, ((o0.1 + o1.1).fdiv 2, (o0.2 + o1.2).fdiv 2), o3, _, _, _, _, _, _, rfl, dh3.put _ _, set_get eg2, l0, l1, mid_in l0 l1, l3⟩
            · repeat' array_get_dec
              · decide
              refine i_ifF rfl ?_
              repeat' array_get_dec
              · exact ⟨by decide, by decide⟩
              · exact ⟨by decide, by decide⟩
              refine subK_loc (j := 3) (dh3.at' eg2) rfl rfl ?_
              exact tl _ _ ⟨_, _, o0, o1, o2, ((o1.1 + o0.1).fdiv 2, (o1.2 + o0.2).fdiv 2), _, _, _, _, _, _, rfl, dh3.put _ _, set_get eg2, l0, l1, l2, mid_in l1 l0⟩
        · array_get_dec
          exact tl _ _ ⟨_, i, p0, p1, p2, p3, _, _, _, _, _, _, rfl, dh, eg, i0.mono (by decide), i1.mono (by decide), i2.mono (by decide), i3.mono (by decide)⟩
      have hi := dh.items eg
      have il : i < rest.length := (List.getElem?_eq_some_iff.1 eg).1
      repeat' array_get_dec
      refine i_ite (fun c => ?_) (fun c => ?_)
      · repeat' array_get_dec
        refine i_lcl ?_
        refine i_iseq (by repeat constructor) hi ?_
        refine lc_pts (B := 40) (ρf := fun x => [some (.loc 1), z1, some (.loc (i + 2)), z3, some (.d (.int f)), some (.d (.int t)), some x, z7, z8, z9]) dh (fun _ _ => rfl) ?_ ?_ rfl ?_
        · intro k x rest2 h K ex d o hK
          repeat' array_get_dec
          refine wp_any (by decide) (by decide) d fun v h' v0 v1 d => ?_
          repeat' array_get_dec
          refine hK (v, 0) _ ?_ d
          unfold In
          simp only
          omega
        · intro rest2 h d o
          show h[i + 2]? = _
          rw [d.get, o _ il, eg]
        · intro o0 o1 o2 o3 h5 dh3 l0 l1 l2 l3
          rw [dh.len]
          array_get_dec
          refine tl _ _ ⟨_, _, o0, o1, o2, o3, _, _, _, _, _, _, rfl, dh3, ?_, l0, l1, l2, l3⟩
          simp
      · array_get_dec
        exact tl _ _ ⟨_, i, p0, p1, p2, p3, _, _, _, _, _, _, rfl, dh, eg, i0, i1, i2, i3⟩
    have hi := dh.items eg
    repeat' array_get_dec
    refine i_ite (fun c => ?_) (fun c => ?_)
    · rcases ht with rfl | rfl | rfl | rfl
      · repeat' array_get_dec
        refine subK_loc (j := 0) (dh.at' eg) rfl rfl ?_
        exact tl _ _ ⟨_, i, p2, p1, p2, p3, _, _, _, _, _, _, rfl, dh.put i _, set_get eg, i2, i1, i2, i3⟩
      · repeat' array_get_dec
        refine subK_loc (j := 1) (dh.at' eg) rfl rfl ?_
        exact tl _ _ ⟨_, i, p0, p3, p2, p3, _, _, _, _, _, _, rfl, dh.put i _, set_get eg, i0, i3, i2, i3⟩
      · repeat' array_get_dec
        refine subK_loc (j := 2) (dh.at' eg) rfl rfl ?_
        exact tl _ _ ⟨_, i, p0, p1, p0, p3, _, _, _, _, _, _, rfl, dh.put i _, set_get eg, i0, i1, i0, i3⟩
      · repeat' array_get_dec
        refine subK_loc (j := 3) (dh.at' eg) rfl rfl ?_
        exact tl _ _ ⟨_, i, p0, p1, p2, p1, _, _, _, _, _, _, rfl, dh.put i _, set_get eg, i0, i1, i2, i1⟩
    · array_get_dec
      exact tl _ _ ⟨_, i, p0, p1, p2, p3, _, _, _, _, _, _, rfl, dh, eg, i0, i1, i2, i3⟩
  have hi := dh.items eg
  repeat' array_get_dec
  refine i_ite (fun c => ?_) (fun c => ?_)
  · rcases ht with rfl | rfl | rfl | rfl
    · repeat' array_get_dec
      refine subK_loc (j := 0) (dh.at' eg) rfl rfl ?_
      exact tl _ _ ⟨_, _, p3, p1, p2, p3, _, _, _, _, _, _, rfl, dh.put _ _, set_get eg, i3.mono (by omega), i1.mono (by omega), i2.mono (by omega), i3.mono (by omega)⟩
    · repeat' array_get_dec
      refine subK_loc (j := 1) (dh.at' eg) rfl rfl ?_
      exact tl _ _ ⟨_, _, p0, p0, p2, p3, _, _, _, _, _, _, rfl, dh.put _ _, set_get eg, i0.mono (by omega), i0.mono (by omega), i2.mono (by omega), i3.mono (by omega)⟩
    · repeat' array_get_dec
      refine subK_loc (j := 2) (dh.at' eg) rfl rfl ?_
      exact tl _ _ ⟨_, _, p0, p1, p1, p3, _, _, _, _, _, _, rfl, dh.put _ _, set_get eg, i0.mono (by omega), i1.mono (by omega), i1.mono (by omega), i3.mono (by omega)⟩
    · repeat' array_get_dec
      refine subK_loc (j := 3) (dh.at' eg) rfl rfl ?_
      exact tl _ _ ⟨_, _, p0, p1, p2, p2, _, _, _, _, _, _, rfl, dh.put _ _, set_get eg, i0.mono (by omega), i1.mono (by omega), i2.mono (by omega), i2.mono (by omega)⟩
  · array_get_dec
    exact tl _ _ ⟨_, _, p0, p1, p2, p3, _, _, _, _, _, _, rfl, dh, eg, i0.mono (by omega), i1.mono (by omega), i2.mono (by omega), i3.mono (by omega)⟩
end LW
set_option Elab.async false
set_option linter.all false
set_option maxRecDepth 100000
set_option maxHeartbeats 40000000
namespace LW
open PySem PySem.Spec PyProof.Rows L2 V2
local macro_rules
  | `(tactic| array_get_dec) => `(tactic| with_reducible first
    | refine i_seqg (fun _ _ => ?_)
    | refine i_asg2v (by repeat constructor) (by repeat constructor) (by repeat constructor) ?_
    | refine i_asgn ?_ (by with_unfolding_all exact Nat.le_of_ble_eq_true rfl)
    | refine i_set (by repeat constructor) ?_
    | refine i_par ?_ (by with_unfolding_all exact Nat.le_of_ble_eq_true rfl) (by with_unfolding_all exact Nat.le_of_ble_eq_true rfl)
    | refine i_pair (by repeat constructor) (by repeat constructor) ?_
    | refine i_par3 ?_ (by with_unfolding_all exact Nat.le_of_ble_eq_true rfl) (by with_unfolding_all exact Nat.le_of_ble_eq_true rfl) (by with_unfolding_all exact Nat.le_of_ble_eq_true rfl)
    | refine i_trip (by repeat constructor) (by repeat constructor) (by repeat constructor) ?_
    | refine i_ret ?_
    | refine i_if ?_
    | refine i_var (by repeat constructor) ?_
    | refine i_c ?_
    | refine i_cons ?_
    | refine i_nil ?_
    | refine i_bin ?_
    | refine i_ints0 ?_
    | refine i_ints ?_ ?_
    | refine i_add ?_
    | refine i_eqi ?_
    | refine i_nei ?_
    | refine i_eqs ?_
    | refine i_nesr ?_
    | refine i_nes ?_
    | refine i_un ?_
    | refine i_val ?_
    | refine i_isb ?_
    | refine i_isi ?_
    | refine i_isr ?_
    | refine i_and2 ?_
    | refine i_or2 ?_
    | refine i_not2 ?_
    | refine i_fif ?_
    | refine i_fand ?_
    | refine i_tup ?_
    | refine i_lst ?_
    | refine i_all (by repeat constructor) (by with_unfolding_all exact Nat.le_of_ble_eq_true rfl) ?_
    | refine i_ix (by assumption) (by with_unfolding_all exact rfl) ?_
    | refine i_ix (by with_unfolding_all exact rfl) (by with_unfolding_all exact rfl) ?_
    | refine i_call ?_
    | refine i_fn ?_
    | refine i_fnk ?_
    | refine i_pk1 ?_
    | refine i_pk2 ?_
    | refine i_pk3 ?_
    | refine i_pk4 ?_
    | refine i_abs ?_
    | refine i_toint ?_
    | refine i_gcd ?_
    | refine i_lcm3 ?_ ?_
    | refine i_chain ?_
    | refine i_max2 ?_
    | refine i_min2 ?_
    | refine i_isN ?_
    | refine i_notN ?_
    | refine i_len (by with_unfolding_all exact rfl) ?_
    | refine i_drop ?_
    | refine i_pop ?_
    | refine i_append ?_
    | refine i_sub ?_
    | refine i_raise ?_
    | refine i_one ?_
    | refine i_brk ?_
    | refine i_for ?_
    | refine i_range1 ?_
    | refine i_next ?_
    | refine i_go (by assumption) ?_)

local macro_rules
  | `(tactic| decreasing_trivial_pre_omega) => `(tactic| (apply cmB; (repeat' (first | assumption | apply Bd.add | apply Bd.sub | apply Bd.mul | apply Bd.neg)); decide))

theorem Sh.mono {k n : Nat} {p : PyData} (s : Sh k p) (h : k ≤ n) : Sh n p :=
  ⟨s.1, Nat.le_trans s.2.1 h, s.2.2.1, Nat.le_trans s.2.2.2 (Nat.pow_le_pow_right (by decide) h)⟩
/-- what is told as crossing -/
def crD (m : Nat) (a b c d : Zp) : PyData := if crB a b c d = true then ptD (crP m a b c d) else .none
theorem crD_t {m : Nat} {a b c d : Zp} (h : crB a b c d = true) : crD m a b c d = ptD (crP m a b c d) := if_pos h
theorem crD_f {m : Nat} {a b c d : Zp} (h : crB a b c d = false) : crD m a b c d = .none := if_neg (by rw [h]; decide)
theorem crD_shaped (m : Nat) (a b c d : Zp) : SeqAt.shaped (crD m a b c d) = true := by
  unfold crD
  split <;> rfl
theorem crD_half {m : Nat} (m0 : m ≠ 0) (a b c d : Zp) : crD m c d a b = crD m a b c d := by
  unfold crD
  rw [cr_half]
  by_cases hc : crB a b c d = true
  · rw [if_pos hc, if_pos hc, crP_half m0 hc]
  · rw [if_neg hc, if_neg hc]
section
variable {m : Nat} (m0 : m ≠ 0) (m1 : m < 2 ^ 6) {a b c d : Zp} (sa : Small a) (sb : Small b) (sc : Small c) (sd : Small d) {h : Ho} {Q : KD} {E : XD}
include m0 m1 sa sb sc sd
theorem crD_sh : Sh 2 (crD m a b c d) := by
  by_cases hc : crB a b c d = true
  · rw [crD_t hc]
    have s := crP_sz m0 m1 sa sb sc sd hc
    exact pt_sh (s.1.mono (by decide)) (s.2.mono (by decide))
  · rw [crD_f (by simpa using hc)]
    exact Sh.mono none_sh (by decide)
theorem wp_crossD (k : Q (.d (crD m a b c d)) h) : M_crossing_point [.d (ptD (ptOf m a)), .d (ptD (ptOf m b)), .d (ptD (ptOf m c)), .d (ptD (ptOf m d))] h Q E :=
  wp_crossing m0 m1 sa sb sc sd (fun e => by rw [← crD_f e]; exact k) (fun e => by rw [← crD_t e]; exact k)
theorem wp_partsD (k : ∀ pr : PyData, isNon (.d pr) = !crB a b c d → (∀ (h : Ho) (Q : KD) (E : XD), Q (.d (crD m a b c d)) h → M__law_point_due [.d (zD a), .d (zD b), .d pr, .d (.int m)] h Q E) → Q (.d pr) h) :
    M__law_parts [.d (zD a), .d (zD b), .d (zD c), .d (zD d)] h Q E := by
  refine wp_lparts sa sb sc sd (fun e => ?_) (fun e t o S hS e1 bt bS => ?_)
  · exact k .none (by rw [e]; rfl) fun h Q E q => wp_pdue0 (by rw [← crD_f e]; exact q)
  · exact k _ (by rw [e]; rfl) fun h Q E q => wp_pdue m0 m1 sa sb e hS e1 bt bS (by rw [← crD_t e]; exact q)
end
theorem area_back (a b c : Zp) : areaZ c b a = 0 - areaZ a b c := by unfold areaZ; grind
theorem bd_show {n : Nat} {i : Int} (h : Bd n i) (hn : n ≤ 1000) : i.natAbs < 2 ^ 1000 := h.mono hn
section
variable {a b c d : Zp} (sa : Small a) (sb : Small b) (sc : Small c) (sd : Small d) {h : Ho} {Q : KD} {E : XD}
include sa sb sc sd
theorem wp_wright {e : Bool} (he : crB a b c d = e) (k : Q (.d (.bool true)) h) : M__law_whole_right [.d (zD a), .d (zD b), .d (zD c), .d (zD d), .d (.bool e)] h Q E := by
  have s1 := (int_sh (bd_show (small_area sa sb sc) (by decide))).len (by decide)
  have s2 := (int_sh (sgn_small (areaZ a b c))).len (by decide)
  have s3 := (bool_sh e).len (by decide)
  have s4 := (bool_sh (onB a b c)).len (by decide)
  refine i_mir rfl (by repeat constructor) (by repeat constructor) ?_
  unfold B__law_whole_right
  repeat' array_get_dec
  refine wp_lcross sa sb sc ?_
  repeat' array_get_dec
  refine wp_area (bz_small sa) (bz_small sb) (bz_small sc) ?_
  repeat' array_get_dec
  refine wp_same s1.1 s1.2.1 s1.2.2 ?_
  repeat' array_get_dec
  refine i_ifF rfl ?_
  repeat' array_get_dec
  refine wp_wturn (bz_small sa) (bz_small sb) (bz_small sc) ?_
  repeat' array_get_dec
  refine wp_lsign ?_
  repeat' array_get_dec
  refine wp_same s2.1 s2.2.1 s2.2.2 ?_
  repeat' array_get_dec
  refine i_ifF rfl ?_
  repeat' array_get_dec
  refine wp_area (bz_small sc) (bz_small sb) (bz_small sa) ?_
  repeat' array_get_dec
  refine i_ifF (by rw [decide_eq_true (area_back a b c)]; rfl) ?_
  repeat' array_get_dec
  refine wp_wturn (bz_small sc) (bz_small sb) (bz_small sa) ?_
  repeat' array_get_dec
  refine wp_lsign ?_
  repeat' array_get_dec
  refine i_ifF (by rw [decide_eq_true (by rw [area_back a b c, Int.zero_sub, sgn_neg])]; rfl) ?_
  repeat' array_get_dec
  refine wp_whole_crosses (bz_small sa) (bz_small sb) (bz_small sc) (bz_small sd) ?_
  rw [he]
  repeat' array_get_dec
  refine wp_same s3.1 s3.2.1 s3.2.2 ?_
  repeat' array_get_dec
  refine i_ifF rfl ?_
  repeat' array_get_dec
  refine wp_whole_crosses (bz_small sd) (bz_small sc) (bz_small sb) (bz_small sa) ?_
  rw [cr_back, he]
  repeat' array_get_dec
  refine i_neG rfl rfl ?_
  repeat' array_get_dec
  refine i_ifF rfl ?_
  repeat' array_get_dec
  refine wp_whole_on (bz_small sa) (bz_small sb) (bz_small sc) ?_
  repeat' array_get_dec
  refine wp_lon sa sb sc ?_
  repeat' array_get_dec
  refine wp_same s4.1 s4.2.1 s4.2.2 ?_
  repeat' array_get_dec
  refine i_ifT rfl ?_
  repeat' array_get_dec
  refine wp_whole_on (bz_small sb) (bz_small sa) (bz_small sd) ?_
  repeat' array_get_dec
  refine wp_lon sa sb sd ?_
  refine i_eqG (by rw [on_flip]) rfl ?_
  exact k
end
theorem gTp4 {h : Ho} {x a b c d : D} {ρ : En} {i j k l : Nat} (e : items h x = some [a, b, c, d]) : gTp 4 (gsCons (gNm i) (gsCons (gNm j) (gsCons (gNm k) (gsCons (gNm l) gsNil)))) x h ρ = some ((((ρ.set i (some a)).set j (some b)).set k (some c)).set l (some d)) := by
  simp only [gTp, e]
  rfl
theorem says (ns : List Int) (hl : ns.length ≤ 63) {P : Prop} (hb : P) : V2.Says M_law ns := by
  unfold Says scriptD
  refine i_mir rfl (by repeat constructor) (by repeat constructor) ?_
  unfold B_law
  repeat' array_get_dec
  refine wp_source hl fun h0 dh => ?_
  repeat' array_get_dec
  refine ⟨by decide, by decide, ?_⟩
  refine for_ind (fun i ρ h' => (∃ rest, Deal rest h') ∧ ∃ z2 z3 z4 z5 z6 z7 z8 z9 z10 z11 z12 z13 z14 z15 z16 z17, ρ = [some (.d (.list (ns.map PyData.int))), some (.loc 1), z2, z3, z4, z5, z6, z7, z8, z9, z10, z11, z12, z13, z14, z15, z16, z17]) ?_ ?_ ⟨⟨_, dh⟩, _, _, _, _, _, _, _, _, _, _, _, _, _, _, _, _, rfl⟩
  · rintro i x ρ h G ex ⟨⟨rest, dh⟩, z2, z3, z4, z5, z6, z7, z8, z9, z10, z11, z12, z13, z14, z15, z16, z17, rfl⟩ hG
    refine ⟨_, rfl, ?_⟩
    show sSeq _ _ [_, _, some x, _, _, _, _, _, _, _, _, _, _, _, _, _, _, _] _ _
    array_get_dec
    refine i_asgG ?_
    repeat' array_get_dec
    refine wp_spots dh fun rest i a b c d h1 dh eg ia ib ic id => ?_
    have sa := (ia.mono (by decide)).small
    have sb := (ib.mono (by decide)).small
    have sc := (ic.mono (by decide)).small
    have sd := (id.mono (by decide)).small
    refine ⟨[some (.d (.list (ns.map PyData.int))), some (.loc 1), some x, some (.d (zD a)), some (.d (zD b)), some (.d (zD c)), some (.d (zD d)), z7, z8, z9, z10, z11, z12, z13, z14, z15, z16, z17], by rw [gTp4 (dh.items eg)]; rfl, ?_⟩
    repeat' array_get_dec
    refine wp_any (by decide) (by decide) dh fun v h2 v0 v1 dh => ?_
    repeat' array_get_dec
    refine wp_of (by simp) (by simp) dh fun y h3 hy dh => ?_
    have hy : ∃ m : Nat, y = .int m ∧ m ≠ 0 ∧ m < 2 ^ 6 := by
      simp only [List.mem_cons, List.not_mem_nil, or_false] at hy
      rcases hy with rfl | rfl | rfl
      · exact ⟨1, rfl, by decide, by decide⟩
      · exact ⟨2, rfl, by decide, by decide⟩
      · exact ⟨(1 + v).toNat, by rw [Int.toNat_of_nonneg (by omega)], by omega, by omega⟩
    obtain ⟨m, rfl, m0, m1⟩ := hy
    have pS : ∀ {a : Zp}, Small a → Sh 2 (ptD (ptOf m a)) := fun s => pt_sh ((pt_sz m0 m1 s).1.mono (by decide)) ((pt_sz m0 m1 s).2.mono (by decide))
    have ps := (four_sh (pS sa) (pS sb) (pS sc) (pS sd)).len (by decide)
    have bs := fun b => (bool_sh b).len (by decide)
    have ts := (crD_sh m0 m1 sa sb sc sd).len (by decide)
    repeat' array_get_dec
    refine i_asgG ?_
    repeat' array_get_dec
    refine wp_lpoint m0 m1 sa ?_
    repeat' array_get_dec
    refine wp_lpoint m0 m1 sb ?_
    repeat' array_get_dec
    refine wp_lpoint m0 m1 sc ?_
    repeat' array_get_dec
    refine wp_lpoint m0 m1 sd ?_
    repeat' array_get_dec
    refine ⟨[some (.d (.list (ns.map PyData.int))), some (.loc 1), some x, some (.d (zD a)), some (.d (zD b)), some (.d (zD c)), some (.d (zD d)), some (.d (.int m)), some (.d (ptD (ptOf m a))), some (.d (ptD (ptOf m b))), some (.d (ptD (ptOf m c))), some (.d (ptD (ptOf m d))), z12, z13, z14, z15, z16, z17], rfl, ?_⟩
    repeat' array_get_dec
    refine i_repr ps.1 ps.2.1 ps.2.2 ?_
    repeat' array_get_dec
    refine wp_partsD m0 m1 sa sb sc sd fun pr hpr hdue => ?_
    repeat' array_get_dec
    rw [hpr, Bool.not_not]
    refine wp_crosses m0 m1 sa sb sc sd ?_
    repeat' array_get_dec
    refine wp_same (bs _).1 (bs _).2.1 (bs _).2.2 ?_
    repeat' array_get_dec
    refine i_ifF rfl ?_
    repeat' array_get_dec
    refine wp_crosses m0 m1 sa sb sd sc ?_
    repeat' array_get_dec
    refine i_neG (by rw [cr_34]) rfl ?_
    repeat' array_get_dec
    refine i_ifF rfl ?_
    repeat' array_get_dec
    refine wp_crosses m0 m1 sc sd sa sb ?_
    repeat' array_get_dec
    refine i_neG (by rw [cr_half]) rfl ?_
    repeat' array_get_dec
    refine i_ifF rfl ?_
    repeat' array_get_dec
    refine hdue _ _ _ ?_
    repeat' array_get_dec
    refine wp_crossD m0 m1 sa sb sc sd ?_
    repeat' array_get_dec
    refine wp_same ts.1 ts.2.1 ts.2.2 ?_
    repeat' array_get_dec
    refine i_ifF rfl ?_
    repeat' array_get_dec
    refine wp_crossD m0 m1 sc sd sa sb ?_
    repeat' array_get_dec
    refine i_neG (crD_half m0 a b c d) (crD_shaped _ _ _ _ _) ?_
    repeat' array_get_dec
    refine i_ifF rfl ?_
    repeat' array_get_dec
    refine i_iseqG ?_
    repeat' array_get_dec
    · exact ⟨by decide, by decide⟩
    · exact ⟨by decide, by decide⟩
    · exact cmulw (n := 20) (by decide) (by decide) (by unfold In at ib; omega) (by decide)
    · exact cmulw (n := 20) (by decide) (by decide) (by unfold In at ib; omega) (by decide)
    refine ⟨_, rfl, ?_⟩
    refine for_ind (fun k ρ h' => h' = h3 ∧ ∃ z16 z17, ρ = [some (.d (.list (ns.map PyData.int))), some (.loc 1), some x, some (.d (zD a)), some (.d (zD b)), some (.d (zD c)), some (.d (zD d)), some (.d (.int m)), some (.d (ptD (ptOf m a))), some (.d (ptD (ptOf m b))), some (.d (ptD (ptOf m c))), some (.d (ptD (ptOf m d))), _, _, some (.d (.bool (crB a b c d))), _, z16, z17]) ?_ ?_ ⟨rfl, _, _, rfl⟩
    · rintro j y ρ h' G2 ey ⟨rfl, z16, z17, rfl⟩ hG2
      have hy : ∃ s : Zp, y = .d (zD s) ∧ Small s := by
        have := List.mem_of_getElem? ey
        simp only [List.map_cons, List.map_nil, List.mem_cons, List.not_mem_nil, or_false] at this
        rcases this with rfl | rfl | rfl | rfl | rfl
        · exact ⟨_, rfl, sc⟩
        · exact ⟨_, rfl, sd⟩
        · exact ⟨_, rfl, sa⟩
        · refine ⟨((a.1 + b.1).fdiv 2, (a.2 + b.2).fdiv 2), rfl, In.small ?_⟩
          unfold In at *
          simp only [Int.fdiv_eq_ediv_of_nonneg _ (by decide : (0 : Int) ≤ 2)]
          omega
        · refine ⟨(2 * b.1 - a.1, 2 * b.2 - a.2), rfl, In.small ?_⟩
          unfold In at *
          simp only
          omega
      obtain ⟨s, rfl, ss⟩ := hy
      refine ⟨_, rfl, ?_⟩
      show sSeq _ _ [_, _, _, _, _, _, _, _, _, _, _, _, _, _, _, _, some (.d (zD s)), _] _ _
      repeat' array_get_dec
      refine wp_lon sa sb ss ?_
      repeat' array_get_dec
      refine wp_lpoint m0 m1 ss ?_
      repeat' array_get_dec
      refine wp_on_segment m0 m1 sa sb ss ?_
      repeat' array_get_dec
      refine wp_same (bs _).1 (bs _).2.1 (bs _).2.2 ?_
      repeat' array_get_dec
      refine i_ifF rfl ?_
      repeat' array_get_dec
      refine wp_lpoint m0 m1 ss ?_
      repeat' array_get_dec
      refine wp_on_segment m0 m1 sb sa ss ?_
      repeat' array_get_dec
      refine i_neG (by rw [on_flip]) rfl ?_
      repeat' array_get_dec
      refine i_ifF rfl ?_
      repeat' array_get_dec
      exact ⟨stay_d _, hG2 _ _ ⟨rfl, _, _, rfl⟩⟩
    · rintro ρ h' ⟨rfl, z16, z17, rfl⟩
      repeat' array_get_dec
      refine wp_wright sa sb sc sd rfl ?_
      repeat' array_get_dec
      refine i_ifF rfl ?_
      repeat' array_get_dec
      refine wp_wright sc sd sa sb (cr_half a b c d) ?_
      repeat' array_get_dec
      refine i_ifF rfl ?_
      repeat' array_get_dec
      refine i_repr ps.1 ps.2.1 ps.2.2 ?_
      repeat' array_get_dec
      refine i_ifF (by first | (rw [decide_eq_true rfl]; rfl) | rfl) ?_
      repeat' array_get_dec
      exact ⟨trivial, hG _ _ ⟨⟨_, dh⟩, _, _, _, _, _, _, _, _, _, _, _, _, _, _, _, _, rfl⟩⟩
  · rintro ρ h ⟨_, z2, z3, z4, z5, z6, z7, z8, z9, z10, z11, z12, z13, z14, z15, z16, z17, rfl⟩
    repeat' array_get_dec
    rfl
end LW
set_option Elab.async false
set_option linter.all false
set_option maxRecDepth 100000
set_option maxHeartbeats 8000000
namespace LW
open PySem PySem.Spec PyProof.Rows L2 V2
open PySem.W (Frag)
def top (i : Nat) : Stmt := PySem.Challenge.pw_leastfield_k08_whole_segments_and_crossi.main.body.getD i (.Pass ⟨0, 0, 0, 0⟩)
abbrev s_fraction : Stmt := top 5
abbrev s_whole : Stmt := top 6
abbrev s_plus : Stmt := top 7
abbrev s_minus : Stmt := top 8
abbrev s_times : Stmt := top 9
abbrev s_negative : Stmt := top 10
abbrev s_sign_of : Stmt := top 11
abbrev s_on_grid : Stmt := top 13
abbrev s_moved : Stmt := top 15
abbrev s_whole_area : Stmt := top 16
abbrev s_whole_turn : Stmt := top 17
abbrev s_whole_on : Stmt := top 18
abbrev s_on_segment : Stmt := top 19
abbrev s_whole_crosses : Stmt := top 20
abbrev s_crosses : Stmt := top 21
abbrev s_crossing_point : Stmt := top 22
abbrev s__law_source : Stmt := top 24
abbrev s__law_any : Stmt := top 25
abbrev s__law_of : Stmt := top 26
abbrev s__law_common : Stmt := top 27
abbrev s__law_low : Stmt := top 28
abbrev s__law_same : Stmt := top 29
abbrev s__law_spot : Stmt := top 30
abbrev s__law_point : Stmt := top 31
abbrev s__law_cross : Stmt := top 32
abbrev s__law_sign : Stmt := top 33
abbrev s__law_on : Stmt := top 34
abbrev s__law_parts : Stmt := top 35
abbrev s__law_spots : Stmt := top 36
abbrev s__law_point_due : Stmt := top 37
abbrev s__law_whole_right : Stmt := top 38
abbrev s_law : Stmt := top 39
structure Ad where
  a_fraction : Addr
  fd_fraction : FuncData
  a_whole : Addr
  fd_whole : FuncData
  a_plus : Addr
  fd_plus : FuncData
  a_minus : Addr
  fd_minus : FuncData
  a_times : Addr
  fd_times : FuncData
  a_negative : Addr
  fd_negative : FuncData
  a_sign_of : Addr
  fd_sign_of : FuncData
  a_on_grid : Addr
  fd_on_grid : FuncData
  a_moved : Addr
  fd_moved : FuncData
  a_whole_area : Addr
  fd_whole_area : FuncData
  a_whole_turn : Addr
  fd_whole_turn : FuncData
  a_whole_on : Addr
  fd_whole_on : FuncData
  a_on_segment : Addr
  fd_on_segment : FuncData
  a_whole_crosses : Addr
  fd_whole_crosses : FuncData
  a_crosses : Addr
  fd_crosses : FuncData
  a_crossing_point : Addr
  fd_crossing_point : FuncData
  a__law_source : Addr
  fd__law_source : FuncData
  a__law_any : Addr
  fd__law_any : FuncData
  a__law_of : Addr
  fd__law_of : FuncData
  a__law_common : Addr
  fd__law_common : FuncData
  a__law_low : Addr
  fd__law_low : FuncData
  a__law_same : Addr
  fd__law_same : FuncData
  a__law_spot : Addr
  fd__law_spot : FuncData
  a__law_point : Addr
  fd__law_point : FuncData
  a__law_cross : Addr
  fd__law_cross : FuncData
  a__law_sign : Addr
  fd__law_sign : FuncData
  a__law_on : Addr
  fd__law_on : FuncData
  a__law_parts : Addr
  fd__law_parts : FuncData
  a__law_spots : Addr
  fd__law_spots : FuncData
  a__law_point_due : Addr
  fd__law_point_due : FuncData
  a__law_whole_right : Addr
  fd__law_whole_right : FuncData
  a_law : Addr
  fd_law : FuncData
  c_InvalidSize : Addr
  i_InvalidSize : Addr
structure Txt (K : Frag) (mg : Str → Option Value) (z : Ad) : Prop where
  d_fraction : DefAt K mg "fraction" s_fraction z.a_fraction z.fd_fraction
  b_fraction : Binds K z.fd_fraction ["top", "bottom"] []
  d_whole : DefAt K mg "whole" s_whole z.a_whole z.fd_whole
  b_whole : Binds K z.fd_whole ["number"] []
  d_plus : DefAt K mg "plus" s_plus z.a_plus z.fd_plus
  b_plus : Binds K z.fd_plus ["one", "other"] []
  d_minus : DefAt K mg "minus" s_minus z.a_minus z.fd_minus
  b_minus : Binds K z.fd_minus ["one", "other"] []
  d_times : DefAt K mg "times" s_times z.a_times z.fd_times
  b_times : Binds K z.fd_times ["one", "other"] []
  d_negative : DefAt K mg "negative" s_negative z.a_negative z.fd_negative
  b_negative : Binds K z.fd_negative ["one"] []
  d_sign_of : DefAt K mg "sign_of" s_sign_of z.a_sign_of z.fd_sign_of
  b_sign_of : Binds K z.fd_sign_of ["one"] []
  d_on_grid : DefAt K mg "on_grid" s_on_grid z.a_on_grid z.fd_on_grid
  b_on_grid : Binds K z.fd_on_grid ["points"] []
  d_moved : DefAt K mg "moved" s_moved z.a_moved z.fd_moved
  b_moved : Binds K z.fd_moved ["a", "b", "part"] []
  d_whole_area : DefAt K mg "whole_area" s_whole_area z.a_whole_area z.fd_whole_area
  b_whole_area : Binds K z.fd_whole_area ["a", "b", "c"] []
  k_whole_area_c_b_a : KwB K z.fd_whole_area ["a", "b", "c"] ["c", "b", "a"] [2, 1, 0]
  d_whole_turn : DefAt K mg "whole_turn" s_whole_turn z.a_whole_turn z.fd_whole_turn
  b_whole_turn : Binds K z.fd_whole_turn ["a", "b", "c"] []
  k_whole_turn_c_b_a : KwB K z.fd_whole_turn ["a", "b", "c"] ["c", "b", "a"] [2, 1, 0]
  d_whole_on : DefAt K mg "whole_on" s_whole_on z.a_whole_on z.fd_whole_on
  b_whole_on : Binds K z.fd_whole_on ["a", "b", "p"] []
  k_whole_on_p_b_a : KwB K z.fd_whole_on ["a", "b", "p"] ["p", "b", "a"] [2, 1, 0]
  d_on_segment : DefAt K mg "on_segment" s_on_segment z.a_on_segment z.fd_on_segment
  b_on_segment : Binds K z.fd_on_segment ["a", "b", "p"] []
  k_on_segment_p_b_a : KwB K z.fd_on_segment ["a", "b", "p"] ["p", "b", "a"] [2, 1, 0]
  d_whole_crosses : DefAt K mg "whole_crosses" s_whole_crosses z.a_whole_crosses z.fd_whole_crosses
  b_whole_crosses : Binds K z.fd_whole_crosses ["a", "b", "c", "d"] []
  k_whole_crosses_d_c_b_a : KwB K z.fd_whole_crosses ["a", "b", "c", "d"] ["d", "c", "b", "a"] [3, 2, 1, 0]
  d_crosses : DefAt K mg "crosses" s_crosses z.a_crosses z.fd_crosses
  b_crosses : Binds K z.fd_crosses ["a", "b", "c", "d"] []
  k_crosses_d_c_b_a : KwB K z.fd_crosses ["a", "b", "c", "d"] ["d", "c", "b", "a"] [3, 2, 1, 0]
  d_crossing_point : DefAt K mg "crossing_point" s_crossing_point z.a_crossing_point z.fd_crossing_point
  b_crossing_point : Binds K z.fd_crossing_point ["a", "b", "c", "d"] []
  k_crossing_point_d_c_b_a : KwB K z.fd_crossing_point ["a", "b", "c", "d"] ["d", "c", "b", "a"] [3, 2, 1, 0]
  d__law_source : DefAt K mg "_law_source" s__law_source z.a__law_source z.fd__law_source
  b__law_source : Binds K z.fd__law_source ["_law_script"] []
  d__law_any : DefAt K mg "_law_any" s__law_any z.a__law_any z.fd__law_any
  b__law_any : Binds K z.fd__law_any ["_law_deal", "_law_bound"] []
  d__law_of : DefAt K mg "_law_of" s__law_of z.a__law_of z.fd__law_of
  b__law_of : Binds K z.fd__law_of ["_law_deal", "_law_some"] []
  d__law_common : DefAt K mg "_law_common" s__law_common z.a__law_common z.fd__law_common
  b__law_common : Binds K z.fd__law_common ["_law_one", "_law_other"] []
  d__law_low : DefAt K mg "_law_low" s__law_low z.a__law_low z.fd__law_low
  b__law_low : Binds K z.fd__law_low ["_law_top", "_law_bottom"] []
  d__law_same : DefAt K mg "_law_same" s__law_same z.a__law_same z.fd__law_same
  b__law_same : Binds K z.fd__law_same ["_law_told", "_law_due"] []
  d__law_spot : DefAt K mg "_law_spot" s__law_spot z.a__law_spot z.fd__law_spot
  b__law_spot : Binds K z.fd__law_spot ["_law_deal", "_law_reach"] []
  d__law_point : DefAt K mg "_law_point" s__law_point z.a__law_point z.fd__law_point
  b__law_point : Binds K z.fd__law_point ["_law_spot_here", "_law_bottom"] []
  d__law_cross : DefAt K mg "_law_cross" s__law_cross z.a__law_cross z.fd__law_cross
  b__law_cross : Binds K z.fd__law_cross ["_law_a", "_law_b", "_law_c"] []
  d__law_sign : DefAt K mg "_law_sign" s__law_sign z.a__law_sign z.fd__law_sign
  b__law_sign : Binds K z.fd__law_sign ["_law_number"] []
  d__law_on : DefAt K mg "_law_on" s__law_on z.a__law_on z.fd__law_on
  b__law_on : Binds K z.fd__law_on ["_law_a", "_law_b", "_law_d"] []
  d__law_parts : DefAt K mg "_law_parts" s__law_parts z.a__law_parts z.fd__law_parts
  b__law_parts : Binds K z.fd__law_parts ["_law_a", "_law_b", "_law_c", "_law_d"] []
  d__law_spots : DefAt K mg "_law_spots" s__law_spots z.a__law_spots z.fd__law_spots
  b__law_spots : Binds K z.fd__law_spots ["_law_deal"] []
  d__law_point_due : DefAt K mg "_law_point_due" s__law_point_due z.a__law_point_due z.fd__law_point_due
  b__law_point_due : Binds K z.fd__law_point_due ["_law_a", "_law_b", "_law_parts_here", "_law_bottom"] []
  d__law_whole_right : DefAt K mg "_law_whole_right" s__law_whole_right z.a__law_whole_right z.fd__law_whole_right
  b__law_whole_right : Binds K z.fd__law_whole_right ["_law_a", "_law_b", "_law_c", "_law_d", "_law_due"] []
  d_law : DefAt K mg "law" s_law z.a_law z.fd_law
  b_law : Binds K z.fd_law ["_law_script"] []
  n_abs : mg "abs" = none
  m_gcd : mg "gcd" = some (.builtin "math.gcd")
  n_int : mg "int" = none
  m_lcm : mg "lcm" = some (.builtin "math.lcm")
  n_len : mg "len" = none
  n_max : mg "max" = none
  n_min : mg "min" = none
  n_range : mg "range" = none
  n_repr : mg "repr" = none
  g_InvalidSize : mg "InvalidSize" = some (.ref z.c_InvalidSize)
  x_InvalidSize : XOwn K mg "InvalidSize" z.c_InvalidSize z.i_InvalidSize "word"
section
variable {P : Program} {w : World} {K : Frag} {mg : Str → Option Value} {base : Heap} {z : Ad}
theorem sc_fraction : FnScope ["top", "bottom", "common"] ["top", "bottom"] (defScope s_fraction) := ⟨rfl, rfl, rfl, by decide +kernel, rfl, by decide +kernel, by decide +kernel⟩
theorem g_fraction (T : Txt K mg z) : FnG P w K mg base 1 z.a_fraction z.fd_fraction ["top", "bottom"] M_fraction := by
  refine fnG_of (N := ["top", "bottom", "common"]) T.d_fraction.F sc_fraction fun cdv A outer s H E hr hgu => ?_
  have hu := hr.units
  exact (SB.cons (SS.ifS (ST.eq hu (SE.var 1) SE.int) (SB.one (SS.raise (by rfl) T.x_InvalidSize hr tkD (SA.cons SE.str SA.nil) (by rfl))) SB.nil)
    (SB.cons (SS.set 2 sc_fraction.nd (by rfl) (Or.inl (by rfl)) (SE.gcd (by rfl) T.m_gcd (SA.cons (SE.var 0) (SA.cons (SE.var 1) SA.nil))))
    (SB.cons (SS.ifS (ST.lt (SE.var 1) SE.int) (SB.one (SS.set 2 sc_fraction.nd (by rfl) (Or.inl (by rfl)) (SE.neg (SE.var 2)))) SB.nil)
    (SB.one (SS.ret (SE.tup (SA.cons (SE.div (SE.var 0) (SE.var 2)) (SA.cons (SE.div (SE.var 1) (SE.var 2)) SA.nil))))))))
theorem sc_whole : FnScope ["number"] ["number"] (defScope s_whole) := ⟨rfl, rfl, rfl, by decide +kernel, rfl, by decide +kernel, by decide +kernel⟩
theorem g_whole (T : Txt K mg z) : FnG P w K mg base 1 z.a_whole z.fd_whole ["number"] M_whole := by
  refine fnG_of (N := ["number"]) T.d_whole.F sc_whole fun cdv A outer s H E hr hgu => ?_
  have hu := hr.units
  exact (SB.one (SS.ret (SE.tup (SA.cons (SE.var 0) (SA.cons SE.int SA.nil)))))
theorem sc_plus : FnScope ["one", "other", "top", "bottom", "more", "under", "common", "rest", "total", "left"] ["one", "other"] (defScope s_plus) := ⟨rfl, rfl, rfl, by decide +kernel, rfl, by decide +kernel, by decide +kernel⟩
theorem g_plus (T : Txt K mg z) : FnG P w K mg base 1 z.a_plus z.fd_plus ["one", "other"] M_plus := by
  refine fnG_of (N := ["one", "other", "top", "bottom", "more", "under", "common", "rest", "total", "left"]) T.d_plus.F sc_plus fun cdv A outer s H E hr hgu => ?_
  have hu := hr.units
  exact (SB.cons (SS.asg (SE.var 0) (SG.tup (by rfl) (SGs.cons (SG.name 2 sc_plus.nd (by rfl) (Or.inl (by rfl))) (SGs.cons (SG.name 3 sc_plus.nd (by rfl) (Or.inl (by rfl))) SGs.nil))))
    (SB.cons (SS.asg (SE.var 1) (SG.tup (by rfl) (SGs.cons (SG.name 4 sc_plus.nd (by rfl) (Or.inl (by rfl))) (SGs.cons (SG.name 5 sc_plus.nd (by rfl) (Or.inl (by rfl))) SGs.nil))))
    (SB.cons (SS.set 6 sc_plus.nd (by rfl) (Or.inl (by rfl)) (SE.gcd (by rfl) T.m_gcd (SA.cons (SE.var 3) (SA.cons (SE.var 5) SA.nil))))
    (SB.cons (SS.set 7 sc_plus.nd (by rfl) (Or.inl (by rfl)) (SE.div (SE.var 3) (SE.var 6)))
    (SB.cons (SS.set 8 sc_plus.nd (by rfl) (Or.inl (by rfl)) (SE.add (SE.mul (SE.var 2) (SE.div (SE.var 5) (SE.var 6))) (SE.mul (SE.var 4) (SE.var 7))))
    (SB.cons (SS.set 9 sc_plus.nd (by rfl) (Or.inl (by rfl)) (SE.gcd (by rfl) T.m_gcd (SA.cons (SE.var 8) (SA.cons (SE.var 6) SA.nil))))
    (SB.one (SS.ret (SE.tup (SA.cons (SE.div (SE.var 8) (SE.var 9)) (SA.cons (SE.mul (SE.var 7) (SE.div (SE.var 5) (SE.var 9))) SA.nil)))))))))))
theorem sc_times : FnScope ["one", "other", "top", "bottom", "more", "under", "first", "second"] ["one", "other"] (defScope s_times) := ⟨rfl, rfl, rfl, by decide +kernel, rfl, by decide +kernel, by decide +kernel⟩
theorem g_times (T : Txt K mg z) : FnG P w K mg base 1 z.a_times z.fd_times ["one", "other"] M_times := by
  refine fnG_of (N := ["one", "other", "top", "bottom", "more", "under", "first", "second"]) T.d_times.F sc_times fun cdv A outer s H E hr hgu => ?_
  have hu := hr.units
  exact (SB.cons (SS.asg (SE.var 0) (SG.tup (by rfl) (SGs.cons (SG.name 2 sc_times.nd (by rfl) (Or.inl (by rfl))) (SGs.cons (SG.name 3 sc_times.nd (by rfl) (Or.inl (by rfl))) SGs.nil))))
    (SB.cons (SS.asg (SE.var 1) (SG.tup (by rfl) (SGs.cons (SG.name 4 sc_times.nd (by rfl) (Or.inl (by rfl))) (SGs.cons (SG.name 5 sc_times.nd (by rfl) (Or.inl (by rfl))) SGs.nil))))
    (SB.cons (SS.par 6 7 (by rfl) sc_times.nd (by rfl) (by rfl) (by decide) (by rfl) (by rfl) (SA.cons (SE.gcd (by rfl) T.m_gcd (SA.cons (SE.var 2) (SA.cons (SE.var 5) SA.nil))) (SA.cons (SE.gcd (by rfl) T.m_gcd (SA.cons (SE.var 4) (SA.cons (SE.var 3) SA.nil))) SA.nil)) (by rfl))
    (SB.one (SS.ret (SE.tup (SA.cons (SE.mul (SE.div (SE.var 2) (SE.var 6)) (SE.div (SE.var 4) (SE.var 7))) (SA.cons (SE.mul (SE.div (SE.var 3) (SE.var 7)) (SE.div (SE.var 5) (SE.var 6))) SA.nil))))))))
theorem sc_negative : FnScope ["one"] ["one"] (defScope s_negative) := ⟨rfl, rfl, rfl, by decide +kernel, rfl, by decide +kernel, by decide +kernel⟩
theorem g_negative (T : Txt K mg z) : FnG P w K mg base 1 z.a_negative z.fd_negative ["one"] M_negative := by
  refine fnG_of (N := ["one"]) T.d_negative.F sc_negative fun cdv A outer s H E hr hgu => ?_
  have hu := hr.units
  exact (SB.one (SS.ret (SE.tup (SA.cons (SE.neg (SE.ix (SE.var 0) SE.int)) (SA.cons (SE.ix (SE.var 0) SE.int) SA.nil)))))
theorem sc_sign_of : FnScope ["one"] ["one"] (defScope s_sign_of) := ⟨rfl, rfl, rfl, by decide +kernel, rfl, by decide +kernel, by decide +kernel⟩
theorem g_sign_of (T : Txt K mg z) : FnG P w K mg base 1 z.a_sign_of z.fd_sign_of ["one"] M_sign_of := by
  refine fnG_of (N := ["one"]) T.d_sign_of.F sc_sign_of fun cdv A outer s H E hr hgu => ?_
  have hu := hr.units
  exact (SB.cons (SS.ifS (ST.gt (SE.ix (SE.var 0) SE.int) SE.int) (SB.one (SS.ret SE.int)) SB.nil)
    (SB.cons (SS.ifS (ST.lt (SE.ix (SE.var 0) SE.int) SE.int) (SB.one (SS.ret (SE.neg SE.int))) SB.nil)
    (SB.one (SS.ret SE.int))))
theorem sc_on_grid : FnScope ["points", "bottom", "_", "first", "second", "x", "right", "y", "up"] ["points"] (defScope s_on_grid) := ⟨rfl, rfl, rfl, by decide +kernel, rfl, by decide +kernel, by decide +kernel⟩
theorem g_on_grid (T : Txt K mg z) : FnG P w K mg base 1 z.a_on_grid z.fd_on_grid ["points"] M_on_grid := by
  refine fnG_of (N := ["points", "bottom", "_", "first", "second", "x", "right", "y", "up"]) T.d_on_grid.F sc_on_grid fun cdv A outer s H E hr hgu => ?_
  have hu := hr.units
  exact (SB.cons (SS.set 1 sc_on_grid.nd (by rfl) (Or.inr (by rfl)) SE.int)
    (SB.cons (SS.forS poD (by rfl) (SI.seq (SE.var 0)) (SG.tup (by rfl) (SGs.cons (SG.tup (by rfl) (SGs.cons (SG.name 2 sc_on_grid.nd (by rfl) (Or.inl (by rfl))) (SGs.cons (SG.name 3 sc_on_grid.nd (by rfl) (Or.inl (by rfl))) SGs.nil))) (SGs.cons (SG.tup (by rfl) (SGs.cons (SG.name 2 sc_on_grid.nd (by rfl) (Or.inl (by rfl))) (SGs.cons (SG.name 4 sc_on_grid.nd (by rfl) (Or.inl (by rfl))) SGs.nil))) SGs.nil))) (SB.one (SS.set 1 sc_on_grid.nd (by rfl) (Or.inr (by rfl)) (SE.lcm3 (by rfl) T.m_lcm (SA.cons (SE.var 1) (SA.cons (SE.var 3) (SA.cons (SE.var 4) SA.nil)))))))
    (SB.one (SS.ret (SE.tup (SA.cons (SE.var 1) (SA.cons (SE.lcV (own := [("x", 5), ("right", 6), ("y", 7), ("up", 8)]) (by rfl) sc_on_grid.nd (SI.seq (SE.var 0)) (blkOk_by (N := ["points", "bottom", "_", "first", "second", "x", "right", "y", "up"]) (sc := defScope s_on_grid) (by decide +kernel)) (by decide) (fun _ _ _ _ _ => (SG.tup (by rfl) (SGs.cons (SG.tup (by rfl) (SGs.cons (SG.name 5 sc_on_grid.nd (by rfl) (Or.inl (by rfl))) (SGs.cons (SG.name 6 sc_on_grid.nd (by rfl) (Or.inl (by rfl))) SGs.nil))) (SGs.cons (SG.tup (by rfl) (SGs.cons (SG.name 7 sc_on_grid.nd (by rfl) (Or.inl (by rfl))) (SGs.cons (SG.name 8 sc_on_grid.nd (by rfl) (Or.inl (by rfl))) SGs.nil))) SGs.nil)))) (fun _ _ _ _ _ => STs.nil) (fun _ _ _ _ _ => (SE.tup (SA.cons (SE.mul (SE.var 5) (SE.div (SE.var 1) (SE.var 6))) (SA.cons (SE.mul (SE.var 7) (SE.div (SE.var 1) (SE.var 8))) SA.nil))))) SA.nil)))))))
theorem sc_whole_area : FnScope ["a", "b", "c"] ["a", "b", "c"] (defScope s_whole_area) := ⟨rfl, rfl, rfl, by decide +kernel, rfl, by decide +kernel, by decide +kernel⟩
theorem g_whole_area (T : Txt K mg z) : FnG P w K mg base 1 z.a_whole_area z.fd_whole_area ["a", "b", "c"] M_whole_area := by
  refine fnG_of (N := ["a", "b", "c"]) T.d_whole_area.F sc_whole_area fun cdv A outer s H E hr hgu => ?_
  have hu := hr.units
  exact (SB.one (SS.ret (SE.sub (SE.mul (SE.sub (SE.ix (SE.var 1) SE.int) (SE.ix (SE.var 0) SE.int)) (SE.sub (SE.ix (SE.var 2) SE.int) (SE.ix (SE.var 0) SE.int))) (SE.mul (SE.sub (SE.ix (SE.var 1) SE.int) (SE.ix (SE.var 0) SE.int)) (SE.sub (SE.ix (SE.var 2) SE.int) (SE.ix (SE.var 0) SE.int))))))
theorem sc__law_source : FnScope ["_law_script", "_law_cells", "_law_cell", "_law_blend"] ["_law_script"] (defScope s__law_source) := ⟨rfl, rfl, rfl, by decide +kernel, rfl, by decide +kernel, by decide +kernel⟩
theorem g__law_source (T : Txt K mg z) : FnG P w K mg base 1 z.a__law_source z.fd__law_source ["_law_script"] M__law_source := by
  refine fnG_of (N := ["_law_script", "_law_cells", "_law_cell", "_law_blend"]) T.d__law_source.F sc__law_source fun cdv A outer s H E hr hgu => ?_
  have hu := hr.units
  exact (SB.cons (SS.setLcV (i := 1) (own := [("_law_cell", 2)]) (by rfl) sc__law_source.nd (SI.seq (SE.slice (SE.var 0) SO.none (SO.some SE.int))) (blkOk_by (N := ["_law_script", "_law_cells", "_law_cell", "_law_blend"]) (sc := defScope s__law_source) (by decide +kernel)) (by decide) (fun _ _ _ _ _ => (SG.name 2 sc__law_source.nd (by rfl) (Or.inl (by rfl)))) (fun _ _ _ _ _ => STs.nil) (fun _ _ _ _ _ => (SE.abs (by rfl) T.n_abs (SA.cons (SE.int1 (by rfl) T.n_int (SA.cons (SE.var 2) SA.nil)) SA.nil))) (by rfl) (by rfl) (sw_true (by rfl) (by rfl) (by rfl) (by decide +kernel)))
    (SB.cons (SS.set 3 sc__law_source.nd (by rfl) (Or.inl (by rfl)) SE.int)
    (SB.cons (SS.forS poD (by rfl) (SI.seq (SE.var 1)) (SG.name 2 sc__law_source.nd (by rfl) (Or.inl (by rfl))) (SB.one (SS.set 3 sc__law_source.nd (by rfl) (Or.inl (by rfl)) (SE.mod (SE.int1 (by rfl) T.n_int (SA.cons (SE.add (SE.add (SE.mul (SE.var 3) SE.int) (SE.mod (SE.var 2) SE.int)) SE.int) SA.nil)) SE.int))))
    (SB.one (SS.ret (SE.loc (SA.cons (SE.revLoc (SE.lcV (own := [("_law_cell", 2)]) (by rfl) sc__law_source.nd (SI.seq (SE.var 1)) (blkOk_by (N := ["_law_script", "_law_cells", "_law_cell", "_law_blend"]) (sc := defScope s__law_source) (by decide +kernel)) (by decide) (fun _ _ _ _ _ => (SG.name 2 sc__law_source.nd (by rfl) (Or.inl (by rfl)))) (fun _ _ _ _ _ => (STs.one (ST.ge (SE.var 2) (SE.pow SE.int SE.int)))) (fun _ _ _ _ _ => (SE.var 2)))) (SA.cons (SE.var 3) SA.nil))))))))
theorem sc__law_any : FnScope ["_law_deal", "_law_bound", "_law_rest"] ["_law_deal", "_law_bound"] (defScope s__law_any) := ⟨rfl, rfl, rfl, by decide +kernel, rfl, by decide +kernel, by decide +kernel⟩
theorem g__law_any (T : Txt K mg z) : FnG P w K mg base 1 z.a__law_any z.fd__law_any ["_law_deal", "_law_bound"] M__law_any := by
  refine fnG_of (N := ["_law_deal", "_law_bound", "_law_rest"]) T.d__law_any.F sc__law_any fun cdv A outer s H E hr hgu => ?_
  have hu := hr.units
  exact (SB.cons (SS.whileS poD (SW.pt (SW.and (ST.ne hu (SE.ix (SE.var 0) SE.int) (SE.lst SA.nil)) (SW.and1 (ST.eq hu (SE.ix (SE.ix (SE.var 0) SE.int) (SE.neg SE.int)) SE.int)))) (SB.one (SS.expr (SE.pop (SE.ix (SE.var 0) SE.int)))))
    (SB.cons (SS.ifS (ST.ne hu (SE.ix (SE.var 0) SE.int) (SE.lst SA.nil)) (SB.cons (SS.set 2 sc__law_any.nd (by rfl) (Or.inl (by rfl)) (SE.int1 (by rfl) T.n_int (SA.cons (SE.pop (SE.ix (SE.var 0) SE.int)) SA.nil)))
    (SB.cons (SS.expr (SE.append (SE.ix (SE.var 0) SE.int) (SA.cons (SE.div (SE.var 2) (SE.var 1)) SA.nil)))
    (SB.one (SS.ret (SE.mod (SE.var 2) (SE.var 1)))))) SB.nil)
    (SB.cons (SS.sub (SE.mod (SE.int1 (by rfl) T.n_int (SA.cons (SE.add (SE.mul (SE.ix (SE.var 0) SE.int) SE.int) SE.int) SA.nil)) SE.int) (SE.var 0) SE.int)
    (SB.one (SS.ret (SE.mod (SE.int1 (by rfl) T.n_int (SA.cons (SE.div (SE.ix (SE.var 0) SE.int) SE.int) SA.nil)) (SE.var 1)))))))
theorem sc__law_common : FnScope ["_law_one", "_law_other", "_law_step"] ["_law_one", "_law_other"] (defScope s__law_common) := ⟨rfl, rfl, rfl, by decide +kernel, rfl, by decide +kernel, by decide +kernel⟩
theorem g__law_common (T : Txt K mg z) : FnG P w K mg base 1 z.a__law_common z.fd__law_common ["_law_one", "_law_other"] M__law_common := by
  refine fnG_of (N := ["_law_one", "_law_other", "_law_step"]) T.d__law_common.F sc__law_common fun cdv A outer s H E hr hgu => ?_
  have hu := hr.units
  exact (SB.cons (SS.par 0 1 (by rfl) sc__law_common.nd (by rfl) (by rfl) (by decide) (by rfl) (by rfl) (SA.cons (SE.abs (by rfl) T.n_abs (SA.cons (SE.int1 (by rfl) T.n_int (SA.cons (SE.var 0) SA.nil)) SA.nil)) (SA.cons (SE.abs (by rfl) T.n_abs (SA.cons (SE.int1 (by rfl) T.n_int (SA.cons (SE.var 1) SA.nil)) SA.nil)) SA.nil)) (by rfl))
    (SB.cons (SS.forS poD (by rfl) (SI.range1 (by rfl) T.n_range (SA.cons SE.int SA.nil)) (SG.name 2 sc__law_common.nd (by rfl) (Or.inl (by rfl))) (SB.cons (SS.ifS (ST.eq hu (SE.var 1) SE.int) (SB.one SS.brk) SB.nil)
    (SB.one (SS.par 0 1 (by rfl) sc__law_common.nd (by rfl) (by rfl) (by decide) (by rfl) (by rfl) (SA.cons (SE.var 1) (SA.cons (SE.mod (SE.int1 (by rfl) T.n_int (SA.cons (SE.var 0) SA.nil)) (SE.var 1)) SA.nil)) (by rfl)))))
    (SB.one (SS.ret (SE.var 0)))))
theorem sc__law_same : FnScope ["_law_told", "_law_due"] ["_law_told", "_law_due"] (defScope s__law_same) := ⟨rfl, rfl, rfl, by decide +kernel, rfl, by decide +kernel, by decide +kernel⟩
theorem g__law_same (T : Txt K mg z) : FnG P w K mg base 1 z.a__law_same z.fd__law_same ["_law_told", "_law_due"] M__law_same := by
  refine fnG_of (N := ["_law_told", "_law_due"]) T.d__law_same.F sc__law_same fun cdv A outer s H E hr hgu => ?_
  have hu := hr.units
  exact (SB.one (SS.ret (SE.eq hu (SE.repr hgu hu (by rfl) T.n_repr (SA.cons (SE.var 0) SA.nil)) (SE.repr hgu hu (by rfl) T.n_repr (SA.cons (SE.var 1) SA.nil)))))
theorem sc__law_cross : FnScope ["_law_a", "_law_b", "_law_c"] ["_law_a", "_law_b", "_law_c"] (defScope s__law_cross) := ⟨rfl, rfl, rfl, by decide +kernel, rfl, by decide +kernel, by decide +kernel⟩
theorem g__law_cross (T : Txt K mg z) : FnG P w K mg base 1 z.a__law_cross z.fd__law_cross ["_law_a", "_law_b", "_law_c"] M__law_cross := by
  refine fnG_of (N := ["_law_a", "_law_b", "_law_c"]) T.d__law_cross.F sc__law_cross fun cdv A outer s H E hr hgu => ?_
  have hu := hr.units
  exact (SB.one (SS.ret (SE.add (SE.add (SE.mul (SE.ix (SE.var 0) SE.int) (SE.sub (SE.ix (SE.var 1) SE.int) (SE.ix (SE.var 2) SE.int))) (SE.mul (SE.ix (SE.var 1) SE.int) (SE.sub (SE.ix (SE.var 2) SE.int) (SE.ix (SE.var 0) SE.int)))) (SE.mul (SE.ix (SE.var 2) SE.int) (SE.sub (SE.ix (SE.var 0) SE.int) (SE.ix (SE.var 1) SE.int))))))
theorem sc__law_sign : FnScope ["_law_number"] ["_law_number"] (defScope s__law_sign) := ⟨rfl, rfl, rfl, by decide +kernel, rfl, by decide +kernel, by decide +kernel⟩
theorem g__law_sign (T : Txt K mg z) : FnG P w K mg base 1 z.a__law_sign z.fd__law_sign ["_law_number"] M__law_sign := by
  refine fnG_of (N := ["_law_number"]) T.d__law_sign.F sc__law_sign fun cdv A outer s H E hr hgu => ?_
  have hu := hr.units
  exact (SB.one (SS.ret (SE.ifExp (ST.gt (SE.var 0) SE.int) SE.int (SE.ifExp (ST.eq hu (SE.var 0) SE.int) SE.int (SE.neg SE.int)))))
theorem sc__law_parts : FnScope ["_law_a", "_law_b", "_law_c", "_law_d", "_law_x", "_law_y", "_law_u", "_law_v", "_law_bottom", "_law_one", "_law_other"] ["_law_a", "_law_b", "_law_c", "_law_d"] (defScope s__law_parts) := ⟨rfl, rfl, rfl, by decide +kernel, rfl, by decide +kernel, by decide +kernel⟩
theorem g__law_parts (T : Txt K mg z) : FnG P w K mg base 1 z.a__law_parts z.fd__law_parts ["_law_a", "_law_b", "_law_c", "_law_d"] M__law_parts := by
  refine fnG_of (N := ["_law_a", "_law_b", "_law_c", "_law_d", "_law_x", "_law_y", "_law_u", "_law_v", "_law_bottom", "_law_one", "_law_other"]) T.d__law_parts.F sc__law_parts fun cdv A outer s H E hr hgu => ?_
  have hu := hr.units
  exact (SB.cons (SS.asg (SE.tup (SA.cons (SE.tup (SA.cons (SE.sub (SE.ix (SE.var 1) SE.int) (SE.ix (SE.var 0) SE.int)) (SA.cons (SE.sub (SE.ix (SE.var 1) SE.int) (SE.ix (SE.var 0) SE.int)) SA.nil))) (SA.cons (SE.tup (SA.cons (SE.sub (SE.ix (SE.var 3) SE.int) (SE.ix (SE.var 2) SE.int)) (SA.cons (SE.sub (SE.ix (SE.var 3) SE.int) (SE.ix (SE.var 2) SE.int)) SA.nil))) SA.nil))) (SG.tup (by rfl) (SGs.cons (SG.tup (by rfl) (SGs.cons (SG.name 4 sc__law_parts.nd (by rfl) (Or.inl (by rfl))) (SGs.cons (SG.name 5 sc__law_parts.nd (by rfl) (Or.inl (by rfl))) SGs.nil))) (SGs.cons (SG.tup (by rfl) (SGs.cons (SG.name 6 sc__law_parts.nd (by rfl) (Or.inl (by rfl))) (SGs.cons (SG.name 7 sc__law_parts.nd (by rfl) (Or.inl (by rfl))) SGs.nil))) SGs.nil))))
    (SB.cons (SS.set 8 sc__law_parts.nd (by rfl) (Or.inl (by rfl)) (SE.sub (SE.mul (SE.var 4) (SE.var 7)) (SE.mul (SE.var 5) (SE.var 6))))
    (SB.cons (SS.set 9 sc__law_parts.nd (by rfl) (Or.inl (by rfl)) (SE.sub (SE.mul (SE.sub (SE.ix (SE.var 2) SE.int) (SE.ix (SE.var 0) SE.int)) (SE.var 7)) (SE.mul (SE.sub (SE.ix (SE.var 2) SE.int) (SE.ix (SE.var 0) SE.int)) (SE.var 6))))
    (SB.cons (SS.set 10 sc__law_parts.nd (by rfl) (Or.inl (by rfl)) (SE.sub (SE.mul (SE.sub (SE.ix (SE.var 2) SE.int) (SE.ix (SE.var 0) SE.int)) (SE.var 5)) (SE.mul (SE.sub (SE.ix (SE.var 2) SE.int) (SE.ix (SE.var 0) SE.int)) (SE.var 4))))
    (SB.cons (SS.ifS (ST.lt (SE.var 8) SE.int) (SB.one (SS.par3 9 10 8 (by rfl) sc__law_parts.nd (by rfl) (by rfl) (by rfl) (by decide) (by decide) (by decide) (by rfl) (by rfl) (by rfl) (SA.cons (SE.sub SE.int (SE.var 9)) (SA.cons (SE.sub SE.int (SE.var 10)) (SA.cons (SE.sub SE.int (SE.var 8)) SA.nil))) (by rfl))) SB.nil)
    (SB.one (SS.ret (SE.ifExp (SW.pt (SW.and (ST.chain (CmpR.lt) (CmpR.lt) SE.int (SE.var 9) (SE.var 8)) (SW.and1 (ST.chain (CmpR.lt) (CmpR.lt) SE.int (SE.var 10) (SE.var 8))))) (SE.tup (SA.cons (SE.var 9) (SA.cons (SE.var 10) (SA.cons (SE.var 8) SA.nil)))) SE.non))))))))
theorem sc_minus : FnScope ["one", "other"] ["one", "other"] (defScope s_minus) := ⟨rfl, rfl, rfl, by decide +kernel, rfl, by decide +kernel, by decide +kernel⟩
theorem g_minus (T : Txt K mg z) : FnG P w K mg base 2 z.a_minus z.fd_minus ["one", "other"] M_minus := by
  refine fnG_of (N := ["one", "other"]) T.d_minus.F sc_minus fun cdv A outer s H E hr hgu => ?_
  have hu := hr.units
  exact (SB.one (SS.ret (SE.fn T.d_plus (g_plus T) mir_len hr (by decide) hgu tkD (by rfl) T.b_plus (SA.cons (SE.var 0) (SA.cons (SE.fn T.d_negative (g_negative T) mir_len hr (by decide) hgu tkD (by rfl) T.b_negative (SA.cons (SE.var 1) SA.nil)) SA.nil)))))
theorem sc_whole_turn : FnScope ["a", "b", "c"] ["a", "b", "c"] (defScope s_whole_turn) := ⟨rfl, rfl, rfl, by decide +kernel, rfl, by decide +kernel, by decide +kernel⟩
theorem g_whole_turn (T : Txt K mg z) : FnG P w K mg base 2 z.a_whole_turn z.fd_whole_turn ["a", "b", "c"] M_whole_turn := by
  refine fnG_of (N := ["a", "b", "c"]) T.d_whole_turn.F sc_whole_turn fun cdv A outer s H E hr hgu => ?_
  have hu := hr.units
  exact (SB.one (SS.ret (SE.fn T.d_sign_of (g_sign_of T) mir_len hr (by decide) hgu tkD (by rfl) T.b_sign_of (SA.cons (SE.fn T.d_whole (g_whole T) mir_len hr (by decide) hgu tkD (by rfl) T.b_whole (SA.cons (SE.fn T.d_whole_area (g_whole_area T) mir_len hr (by decide) hgu tkD (by rfl) T.b_whole_area (SA.cons (SE.var 0) (SA.cons (SE.var 1) (SA.cons (SE.var 2) SA.nil)))) SA.nil)) SA.nil))))
theorem sc_whole_on : FnScope ["a", "b", "p"] ["a", "b", "p"] (defScope s_whole_on) := ⟨rfl, rfl, rfl, by decide +kernel, rfl, by decide +kernel, by decide +kernel⟩
theorem g_whole_on (T : Txt K mg z) : FnG P w K mg base 2 z.a_whole_on z.fd_whole_on ["a", "b", "p"] M_whole_on := by
  refine fnG_of (N := ["a", "b", "p"]) T.d_whole_on.F sc_whole_on fun cdv A outer s H E hr hgu => ?_
  have hu := hr.units
  exact (SB.one (SS.ret (SE.and (SE.chain (CmpR.le) (CmpR.le) (SE.callB (call_min2 (by rfl)) cp_min2 (by rfl) T.n_min (by decide +kernel) (SA.cons (SE.ix (SE.var 0) SE.int) (SA.cons (SE.ix (SE.var 1) SE.int) SA.nil))) (SE.ix (SE.var 2) SE.int) (SE.callB (call_max2 (by rfl)) cp_max2 (by rfl) T.n_max (by decide +kernel) (SA.cons (SE.ix (SE.var 0) SE.int) (SA.cons (SE.ix (SE.var 1) SE.int) SA.nil)))) (SE.and (SE.chain (CmpR.le) (CmpR.le) (SE.callB (call_min2 (by rfl)) cp_min2 (by rfl) T.n_min (by decide +kernel) (SA.cons (SE.ix (SE.var 0) SE.int) (SA.cons (SE.ix (SE.var 1) SE.int) SA.nil))) (SE.ix (SE.var 2) SE.int) (SE.callB (call_max2 (by rfl)) cp_max2 (by rfl) T.n_max (by decide +kernel) (SA.cons (SE.ix (SE.var 0) SE.int) (SA.cons (SE.ix (SE.var 1) SE.int) SA.nil)))) (SE.one (SE.eq hu (SE.fn T.d_whole_area (g_whole_area T) mir_len hr (by decide) hgu tkD (by rfl) T.b_whole_area (SA.cons (SE.var 0) (SA.cons (SE.var 1) (SA.cons (SE.var 2) SA.nil)))) SE.int))))))
theorem sc__law_of : FnScope ["_law_deal", "_law_some"] ["_law_deal", "_law_some"] (defScope s__law_of) := ⟨rfl, rfl, rfl, by decide +kernel, rfl, by decide +kernel, by decide +kernel⟩
theorem g__law_of (T : Txt K mg z) : FnG P w K mg base 2 z.a__law_of z.fd__law_of ["_law_deal", "_law_some"] M__law_of := by
  refine fnG_of (N := ["_law_deal", "_law_some"]) T.d__law_of.F sc__law_of fun cdv A outer s H E hr hgu => ?_
  have hu := hr.units
  exact (SB.one (SS.ret (SE.ix (SE.var 1) (SE.fn T.d__law_any (g__law_any T) mir_len hr (by decide) hgu tkD (by rfl) T.b__law_any (SA.cons (SE.var 0) (SA.cons (SE.len (by rfl) T.n_len (SA.cons (SE.var 1) SA.nil)) SA.nil))))))
theorem sc__law_low : FnScope ["_law_top", "_law_bottom", "_law_common_here"] ["_law_top", "_law_bottom"] (defScope s__law_low) := ⟨rfl, rfl, rfl, by decide +kernel, rfl, by decide +kernel, by decide +kernel⟩
theorem g__law_low (T : Txt K mg z) : FnG P w K mg base 2 z.a__law_low z.fd__law_low ["_law_top", "_law_bottom"] M__law_low := by
  refine fnG_of (N := ["_law_top", "_law_bottom", "_law_common_here"]) T.d__law_low.F sc__law_low fun cdv A outer s H E hr hgu => ?_
  have hu := hr.units
  exact (SB.cons (SS.set 2 sc__law_low.nd (by rfl) (Or.inl (by rfl)) (SE.fn T.d__law_common (g__law_common T) mir_len hr (by decide) hgu tkD (by rfl) T.b__law_common (SA.cons (SE.var 0) (SA.cons (SE.var 1) SA.nil))))
    (SB.one (SS.ret (SE.tup (SA.cons (SE.div (SE.int1 (by rfl) T.n_int (SA.cons (SE.var 0) SA.nil)) (SE.var 2)) (SA.cons (SE.div (SE.int1 (by rfl) T.n_int (SA.cons (SE.var 1) SA.nil)) (SE.var 2)) SA.nil))))))
theorem sc__law_on : FnScope ["_law_a", "_law_b", "_law_d"] ["_law_a", "_law_b", "_law_d"] (defScope s__law_on) := ⟨rfl, rfl, rfl, by decide +kernel, rfl, by decide +kernel, by decide +kernel⟩
theorem g__law_on (T : Txt K mg z) : FnG P w K mg base 2 z.a__law_on z.fd__law_on ["_law_a", "_law_b", "_law_d"] M__law_on := by
  refine fnG_of (N := ["_law_a", "_law_b", "_law_d"]) T.d__law_on.F sc__law_on fun cdv A outer s H E hr hgu => ?_
  have hu := hr.units
  exact (SB.cons (SS.ifS (ST.ne hu (SE.fn T.d__law_cross (g__law_cross T) mir_len hr (by decide) hgu tkD (by rfl) T.b__law_cross (SA.cons (SE.var 0) (SA.cons (SE.var 1) (SA.cons (SE.var 2) SA.nil)))) SE.int) (SB.one (SS.ret SE.bl)) SB.nil)
    (SB.one (SS.ret (SE.and (SE.chain (CmpR.le) (CmpR.le) (SE.callB (call_min2 (by rfl)) cp_min2 (by rfl) T.n_min (by decide +kernel) (SA.cons (SE.ix (SE.var 0) SE.int) (SA.cons (SE.ix (SE.var 1) SE.int) SA.nil))) (SE.ix (SE.var 2) SE.int) (SE.callB (call_max2 (by rfl)) cp_max2 (by rfl) T.n_max (by decide +kernel) (SA.cons (SE.ix (SE.var 0) SE.int) (SA.cons (SE.ix (SE.var 1) SE.int) SA.nil)))) (SE.one (SE.chain (CmpR.le) (CmpR.le) (SE.callB (call_min2 (by rfl)) cp_min2 (by rfl) T.n_min (by decide +kernel) (SA.cons (SE.ix (SE.var 0) SE.int) (SA.cons (SE.ix (SE.var 1) SE.int) SA.nil))) (SE.ix (SE.var 2) SE.int) (SE.callB (call_max2 (by rfl)) cp_max2 (by rfl) T.n_max (by decide +kernel) (SA.cons (SE.ix (SE.var 0) SE.int) (SA.cons (SE.ix (SE.var 1) SE.int) SA.nil)))))))))
theorem sc_moved : FnScope ["a", "b", "part"] ["a", "b", "part"] (defScope s_moved) := ⟨rfl, rfl, rfl, by decide +kernel, rfl, by decide +kernel, by decide +kernel⟩
theorem g_moved (T : Txt K mg z) : FnG P w K mg base 3 z.a_moved z.fd_moved ["a", "b", "part"] M_moved := by
  refine fnG_of (N := ["a", "b", "part"]) T.d_moved.F sc_moved fun cdv A outer s H E hr hgu => ?_
  have hu := hr.units
  exact (SB.one (SS.ret (SE.tup (SA.cons (SE.fn T.d_plus (g_plus T) mir_len hr (by decide) hgu tkD (by rfl) T.b_plus (SA.cons (SE.ix (SE.var 0) SE.int) (SA.cons (SE.fn T.d_times (g_times T) mir_len hr (by decide) hgu tkD (by rfl) T.b_times (SA.cons (SE.var 2) (SA.cons (SE.fn T.d_minus (g_minus T) mir_len hr (by decide) hgu tkD (by rfl) T.b_minus (SA.cons (SE.ix (SE.var 1) SE.int) (SA.cons (SE.ix (SE.var 0) SE.int) SA.nil))) SA.nil))) SA.nil))) (SA.cons (SE.fn T.d_plus (g_plus T) mir_len hr (by decide) hgu tkD (by rfl) T.b_plus (SA.cons (SE.ix (SE.var 0) SE.int) (SA.cons (SE.fn T.d_times (g_times T) mir_len hr (by decide) hgu tkD (by rfl) T.b_times (SA.cons (SE.var 2) (SA.cons (SE.fn T.d_minus (g_minus T) mir_len hr (by decide) hgu tkD (by rfl) T.b_minus (SA.cons (SE.ix (SE.var 1) SE.int) (SA.cons (SE.ix (SE.var 0) SE.int) SA.nil))) SA.nil))) SA.nil))) SA.nil)))))
theorem sc_on_segment : FnScope ["a", "b", "p", "_", "first", "second", "at"] ["a", "b", "p"] (defScope s_on_segment) := ⟨rfl, rfl, rfl, by decide +kernel, rfl, by decide +kernel, by decide +kernel⟩
theorem g_on_segment (T : Txt K mg z) : FnG P w K mg base 3 z.a_on_segment z.fd_on_segment ["a", "b", "p"] M_on_segment := by
  refine fnG_of (N := ["a", "b", "p", "_", "first", "second", "at"]) T.d_on_segment.F sc_on_segment fun cdv A outer s H E hr hgu => ?_
  have hu := hr.units
  exact (SB.cons (SS.asg (SE.fn T.d_on_grid (g_on_grid T) mir_len hr (by decide) hgu tkD (by rfl) T.b_on_grid (SA.cons (SE.tup (SA.cons (SE.var 0) (SA.cons (SE.var 1) (SA.cons (SE.var 2) SA.nil)))) SA.nil)) (SG.tup (by rfl) (SGs.cons (SG.name 3 sc_on_segment.nd (by rfl) (Or.inl (by rfl))) (SGs.cons (SG.tup (by rfl) (SGs.cons (SG.name 4 sc_on_segment.nd (by rfl) (Or.inl (by rfl))) (SGs.cons (SG.name 5 sc_on_segment.nd (by rfl) (Or.inl (by rfl))) (SGs.cons (SG.name 6 sc_on_segment.nd (by rfl) (Or.inl (by rfl))) SGs.nil)))) SGs.nil))))
    (SB.one (SS.ret (SE.fn T.d_whole_on (g_whole_on T) mir_len hr (by decide) hgu tkD (by rfl) T.b_whole_on (SA.cons (SE.var 4) (SA.cons (SE.var 5) (SA.cons (SE.var 6) SA.nil)))))))
theorem sc_whole_crosses : FnScope ["a", "b", "c", "d"] ["a", "b", "c", "d"] (defScope s_whole_crosses) := ⟨rfl, rfl, rfl, by decide +kernel, rfl, by decide +kernel, by decide +kernel⟩
theorem g_whole_crosses (T : Txt K mg z) : FnG P w K mg base 3 z.a_whole_crosses z.fd_whole_crosses ["a", "b", "c", "d"] M_whole_crosses := by
  refine fnG_of (N := ["a", "b", "c", "d"]) T.d_whole_crosses.F sc_whole_crosses fun cdv A outer s H E hr hgu => ?_
  have hu := hr.units
  exact (SB.one (SS.ret (SE.and (SE.lt (SE.mul (SE.fn T.d_whole_turn (g_whole_turn T) mir_len hr (by decide) hgu tkD (by rfl) T.b_whole_turn (SA.cons (SE.var 0) (SA.cons (SE.var 1) (SA.cons (SE.var 2) SA.nil)))) (SE.fn T.d_whole_turn (g_whole_turn T) mir_len hr (by decide) hgu tkD (by rfl) T.b_whole_turn (SA.cons (SE.var 0) (SA.cons (SE.var 1) (SA.cons (SE.var 3) SA.nil))))) SE.int) (SE.one (SE.lt (SE.mul (SE.fn T.d_whole_turn (g_whole_turn T) mir_len hr (by decide) hgu tkD (by rfl) T.b_whole_turn (SA.cons (SE.var 2) (SA.cons (SE.var 3) (SA.cons (SE.var 0) SA.nil)))) (SE.fn T.d_whole_turn (g_whole_turn T) mir_len hr (by decide) hgu tkD (by rfl) T.b_whole_turn (SA.cons (SE.var 2) (SA.cons (SE.var 3) (SA.cons (SE.var 1) SA.nil))))) SE.int)))))
theorem sc__law_spot : FnScope ["_law_deal", "_law_reach", "_law_many"] ["_law_deal", "_law_reach"] (defScope s__law_spot) := ⟨rfl, rfl, rfl, by decide +kernel, rfl, by decide +kernel, by decide +kernel⟩
theorem g__law_spot (T : Txt K mg z) : FnG P w K mg base 3 z.a__law_spot z.fd__law_spot ["_law_deal", "_law_reach"] M__law_spot := by
  refine fnG_of (N := ["_law_deal", "_law_reach", "_law_many"]) T.d__law_spot.F sc__law_spot fun cdv A outer s H E hr hgu => ?_
  have hu := hr.units
  exact (SB.cons (SS.set 2 sc__law_spot.nd (by rfl) (Or.inl (by rfl)) (SE.add (SE.mul SE.int (SE.var 1)) SE.int))
    (SB.one (SS.ret (SE.tup (SA.cons (SE.fn T.d__law_of (g__law_of T) mir_len hr (by decide) hgu tkD (by rfl) T.b__law_of (SA.cons (SE.var 0) (SA.cons (SE.lst (SA.cons SE.int (SA.cons (SE.sub (SE.fn T.d__law_any (g__law_any T) mir_len hr (by decide) hgu tkD (by rfl) T.b__law_any (SA.cons (SE.var 0) (SA.cons (SE.var 2) SA.nil))) (SE.var 1)) (SA.cons (SE.sub (SE.fn T.d__law_any (g__law_any T) mir_len hr (by decide) hgu tkD (by rfl) T.b__law_any (SA.cons (SE.var 0) (SA.cons (SE.var 2) SA.nil))) (SE.var 1)) SA.nil)))) SA.nil))) (SA.cons (SE.sub (SE.fn T.d__law_any (g__law_any T) mir_len hr (by decide) hgu tkD (by rfl) T.b__law_any (SA.cons (SE.var 0) (SA.cons (SE.var 2) SA.nil))) (SE.var 1)) SA.nil))))))
theorem sc__law_point : FnScope ["_law_spot_here", "_law_bottom"] ["_law_spot_here", "_law_bottom"] (defScope s__law_point) := ⟨rfl, rfl, rfl, by decide +kernel, rfl, by decide +kernel, by decide +kernel⟩
theorem g__law_point (T : Txt K mg z) : FnG P w K mg base 3 z.a__law_point z.fd__law_point ["_law_spot_here", "_law_bottom"] M__law_point := by
  refine fnG_of (N := ["_law_spot_here", "_law_bottom"]) T.d__law_point.F sc__law_point fun cdv A outer s H E hr hgu => ?_
  have hu := hr.units
  exact (SB.one (SS.ret (SE.tup (SA.cons (SE.fn T.d__law_low (g__law_low T) mir_len hr (by decide) hgu tkD (by rfl) T.b__law_low (SA.cons (SE.ix (SE.var 0) SE.int) (SA.cons (SE.var 1) SA.nil))) (SA.cons (SE.fn T.d__law_low (g__law_low T) mir_len hr (by decide) hgu tkD (by rfl) T.b__law_low (SA.cons (SE.ix (SE.var 0) SE.int) (SA.cons (SE.var 1) SA.nil))) SA.nil)))))
theorem sc__law_point_due : FnScope ["_law_a", "_law_b", "_law_parts_here", "_law_bottom", "_law_low_here", "_law_x", "_law_y"] ["_law_a", "_law_b", "_law_parts_here", "_law_bottom"] (defScope s__law_point_due) := ⟨rfl, rfl, rfl, by decide +kernel, rfl, by decide +kernel, by decide +kernel⟩
theorem g__law_point_due (T : Txt K mg z) : FnG P w K mg base 3 z.a__law_point_due z.fd__law_point_due ["_law_a", "_law_b", "_law_parts_here", "_law_bottom"] M__law_point_due := by
  refine fnG_of (N := ["_law_a", "_law_b", "_law_parts_here", "_law_bottom", "_law_low_here", "_law_x", "_law_y"]) T.d__law_point_due.F sc__law_point_due fun cdv A outer s H E hr hgu => ?_
  have hu := hr.units
  exact (SB.cons (SS.ifS (ST.isN (SE.var 2) SE.non) (SB.one (SS.ret SE.non)) SB.nil)
    (SB.cons (SS.par3 4 5 6 (by rfl) sc__law_point_due.nd (by rfl) (by rfl) (by rfl) (by decide) (by decide) (by decide) (by rfl) (by rfl) (by rfl) (SA.cons (SE.ix (SE.var 2) SE.int) (SA.cons (SE.sub (SE.ix (SE.var 1) SE.int) (SE.ix (SE.var 0) SE.int)) (SA.cons (SE.sub (SE.ix (SE.var 1) SE.int) (SE.ix (SE.var 0) SE.int)) SA.nil))) (by rfl))
    (SB.one (SS.ret (SE.tup (SA.cons (SE.fn T.d__law_low (g__law_low T) mir_len hr (by decide) hgu tkD (by rfl) T.b__law_low (SA.cons (SE.add (SE.mul (SE.ix (SE.var 0) SE.int) (SE.var 4)) (SE.mul (SE.ix (SE.var 2) SE.int) (SE.var 5))) (SA.cons (SE.mul (SE.var 3) (SE.var 4)) SA.nil))) (SA.cons (SE.fn T.d__law_low (g__law_low T) mir_len hr (by decide) hgu tkD (by rfl) T.b__law_low (SA.cons (SE.add (SE.mul (SE.ix (SE.var 0) SE.int) (SE.var 4)) (SE.mul (SE.ix (SE.var 2) SE.int) (SE.var 6))) (SA.cons (SE.mul (SE.var 3) (SE.var 4)) SA.nil))) SA.nil)))))))
theorem sc_crosses : FnScope ["a", "b", "c", "d", "_", "p", "q", "r", "s"] ["a", "b", "c", "d"] (defScope s_crosses) := ⟨rfl, rfl, rfl, by decide +kernel, rfl, by decide +kernel, by decide +kernel⟩
theorem g_crosses (T : Txt K mg z) : FnG P w K mg base 4 z.a_crosses z.fd_crosses ["a", "b", "c", "d"] M_crosses := by
  refine fnG_of (N := ["a", "b", "c", "d", "_", "p", "q", "r", "s"]) T.d_crosses.F sc_crosses fun cdv A outer s H E hr hgu => ?_
  have hu := hr.units
  exact (SB.cons (SS.asg (SE.fn T.d_on_grid (g_on_grid T) mir_len hr (by decide) hgu tkD (by rfl) T.b_on_grid (SA.cons (SE.tup (SA.cons (SE.var 0) (SA.cons (SE.var 1) (SA.cons (SE.var 2) (SA.cons (SE.var 3) SA.nil))))) SA.nil)) (SG.tup (by rfl) (SGs.cons (SG.name 4 sc_crosses.nd (by rfl) (Or.inl (by rfl))) (SGs.cons (SG.tup (by rfl) (SGs.cons (SG.name 5 sc_crosses.nd (by rfl) (Or.inl (by rfl))) (SGs.cons (SG.name 6 sc_crosses.nd (by rfl) (Or.inl (by rfl))) (SGs.cons (SG.name 7 sc_crosses.nd (by rfl) (Or.inl (by rfl))) (SGs.cons (SG.name 8 sc_crosses.nd (by rfl) (Or.inl (by rfl))) SGs.nil))))) SGs.nil))))
    (SB.one (SS.ret (SE.fn T.d_whole_crosses (g_whole_crosses T) mir_len hr (by decide) hgu tkD (by rfl) T.b_whole_crosses (SA.cons (SE.var 5) (SA.cons (SE.var 6) (SA.cons (SE.var 7) (SA.cons (SE.var 8) SA.nil))))))))
theorem sc_crossing_point : FnScope ["a", "b", "c", "d", "_", "p", "q", "r", "s", "before", "behind"] ["a", "b", "c", "d"] (defScope s_crossing_point) := ⟨rfl, rfl, rfl, by decide +kernel, rfl, by decide +kernel, by decide +kernel⟩
theorem g_crossing_point (T : Txt K mg z) : FnG P w K mg base 4 z.a_crossing_point z.fd_crossing_point ["a", "b", "c", "d"] M_crossing_point := by
  refine fnG_of (N := ["a", "b", "c", "d", "_", "p", "q", "r", "s", "before", "behind"]) T.d_crossing_point.F sc_crossing_point fun cdv A outer s H E hr hgu => ?_
  have hu := hr.units
  exact (SB.cons (SS.asg (SE.fn T.d_on_grid (g_on_grid T) mir_len hr (by decide) hgu tkD (by rfl) T.b_on_grid (SA.cons (SE.tup (SA.cons (SE.var 0) (SA.cons (SE.var 1) (SA.cons (SE.var 2) (SA.cons (SE.var 3) SA.nil))))) SA.nil)) (SG.tup (by rfl) (SGs.cons (SG.name 4 sc_crossing_point.nd (by rfl) (Or.inl (by rfl))) (SGs.cons (SG.tup (by rfl) (SGs.cons (SG.name 5 sc_crossing_point.nd (by rfl) (Or.inl (by rfl))) (SGs.cons (SG.name 6 sc_crossing_point.nd (by rfl) (Or.inl (by rfl))) (SGs.cons (SG.name 7 sc_crossing_point.nd (by rfl) (Or.inl (by rfl))) (SGs.cons (SG.name 8 sc_crossing_point.nd (by rfl) (Or.inl (by rfl))) SGs.nil))))) SGs.nil))))
    (SB.cons (SS.ifS (ST.not (ST.val (SE.fn T.d_whole_crosses (g_whole_crosses T) mir_len hr (by decide) hgu tkD (by rfl) T.b_whole_crosses (SA.cons (SE.var 5) (SA.cons (SE.var 6) (SA.cons (SE.var 7) (SA.cons (SE.var 8) SA.nil))))))) (SB.one (SS.ret SE.non)) SB.nil)
    (SB.cons (SS.par 9 10 (by rfl) sc_crossing_point.nd (by rfl) (by rfl) (by decide) (by rfl) (by rfl) (SA.cons (SE.fn T.d_whole_area (g_whole_area T) mir_len hr (by decide) hgu tkD (by rfl) T.b_whole_area (SA.cons (SE.var 7) (SA.cons (SE.var 8) (SA.cons (SE.var 5) SA.nil)))) (SA.cons (SE.fn T.d_whole_area (g_whole_area T) mir_len hr (by decide) hgu tkD (by rfl) T.b_whole_area (SA.cons (SE.var 7) (SA.cons (SE.var 8) (SA.cons (SE.var 6) SA.nil)))) SA.nil)) (by rfl))
    (SB.one (SS.ret (SE.fn T.d_moved (g_moved T) mir_len hr (by decide) hgu tkD (by rfl) T.b_moved (SA.cons (SE.var 0) (SA.cons (SE.var 1) (SA.cons (SE.fn T.d_fraction (g_fraction T) mir_len hr (by decide) hgu tkD (by rfl) T.b_fraction (SA.cons (SE.var 9) (SA.cons (SE.sub (SE.var 9) (SE.var 10)) SA.nil))) SA.nil)))))))))
theorem sc__law_spots : FnScope ["_law_deal", "_law_reach", "_law_spots_here", "_law_end", "_law_form", "_law_at", "_law_spot_here", "_law_one", "_law_other", "_law_number"] ["_law_deal"] (defScope s__law_spots) := ⟨rfl, rfl, rfl, by decide +kernel, rfl, by decide +kernel, by decide +kernel⟩
theorem g__law_spots (T : Txt K mg z) : FnG P w K mg base 4 z.a__law_spots z.fd__law_spots ["_law_deal"] M__law_spots := by
  refine fnG_of (N := ["_law_deal", "_law_reach", "_law_spots_here", "_law_end", "_law_form", "_law_at", "_law_spot_here", "_law_one", "_law_other", "_law_number"]) T.d__law_spots.F sc__law_spots fun cdv A outer s H E hr hgu => ?_
  have hu := hr.units
  exact (SB.cons (SS.set 1 sc__law_spots.nd (by rfl) (Or.inr (by rfl)) (SE.fn T.d__law_of (g__law_of T) mir_len hr (by decide) hgu tkD (by rfl) T.b__law_of (SA.cons (SE.var 0) (SA.cons (SE.lst (SA.cons SE.int (SA.cons SE.int (SA.cons SE.int SA.nil)))) SA.nil))))
    (SB.cons (SS.setLcL (i := 2) (own := [("_law_end", 3)]) (by rfl) sc__law_spots.nd (SI.range1 (by rfl) T.n_range (SA.cons SE.int SA.nil)) (blkOk_by (N := ["_law_deal", "_law_reach", "_law_spots_here", "_law_end", "_law_form", "_law_at", "_law_spot_here", "_law_one", "_law_other", "_law_number"]) (sc := defScope s__law_spots) (by decide +kernel)) (by decide) (fun _ _ _ _ _ => (SG.name 3 sc__law_spots.nd (by rfl) (Or.inl (by rfl)))) (fun _ _ _ _ _ => STs.nil) (fun _ _ _ _ _ => (SE.fn T.d__law_spot (g__law_spot T) mir_len hr (by decide) hgu tk0 (by rfl) T.b__law_spot (SA.cons (SE.var 0) (SA.cons (SE.var 1) SA.nil)))) (by rfl) (by rfl) (sw_true (by rfl) (by rfl) (by rfl) (by decide +kernel)))
    (SB.cons (SS.par 4 5 (by rfl) sc__law_spots.nd (by rfl) (by rfl) (by decide) (by rfl) (by rfl) (SA.cons (SE.fn T.d__law_any (g__law_any T) mir_len hr (by decide) hgu tkD (by rfl) T.b__law_any (SA.cons (SE.var 0) (SA.cons SE.int SA.nil))) (SA.cons (SE.fn T.d__law_any (g__law_any T) mir_len hr (by decide) hgu tkD (by rfl) T.b__law_any (SA.cons (SE.var 0) (SA.cons SE.int SA.nil))) SA.nil)) (by rfl))
    (SB.cons (SS.ifS (ST.eq hu (SE.var 4) SE.int) (SB.one (SS.sub (SE.ix (SE.var 2) (SE.sub (SE.var 5) SE.int)) (SE.var 2) (SE.var 5))) SB.nil)
    (SB.cons (SS.ifS (ST.eq hu (SE.var 4) SE.int) (SB.one (SS.sub (SE.ix (SE.var 2) (SE.sub (SE.var 5) SE.int)) (SE.var 2) (SE.var 5))) SB.nil)
    (SB.cons (SS.ifS (ST.eq hu (SE.var 4) SE.int) (SB.one (SS.setLcL (i := 2) (own := [("_law_spot_here", 6)]) (by rfl) sc__law_spots.nd (SI.seq (SE.var 2)) (blkOk_by (N := ["_law_deal", "_law_reach", "_law_spots_here", "_law_end", "_law_form", "_law_at", "_law_spot_here", "_law_one", "_law_other", "_law_number"]) (sc := defScope s__law_spots) (by decide +kernel)) (by decide) (fun _ _ _ _ _ => (SG.name 6 sc__law_spots.nd (by rfl) (Or.inl (by rfl)))) (fun _ _ _ _ _ => STs.nil) (fun _ _ _ _ _ => (SE.tup (SA.cons (SE.fn T.d__law_any (g__law_any T) mir_len hr (by decide) hgu tk0 (by rfl) T.b__law_any (SA.cons (SE.var 0) (SA.cons SE.int SA.nil))) (SA.cons SE.int SA.nil)))) (by rfl) (by rfl) (sw_true (by rfl) (by rfl) (by rfl) (by decide +kernel)))) SB.nil)
    (SB.cons (SS.ifS (ST.eq hu (SE.var 4) SE.int) (SB.cons (SS.setLcL (i := 2) (own := [("_law_spot_here", 6)]) (by rfl) sc__law_spots.nd (SI.seq (SE.var 2)) (blkOk_by (N := ["_law_deal", "_law_reach", "_law_spots_here", "_law_end", "_law_form", "_law_at", "_law_spot_here", "_law_one", "_law_other", "_law_number"]) (sc := defScope s__law_spots) (by decide +kernel)) (by decide) (fun _ _ _ _ _ => (SG.name 6 sc__law_spots.nd (by rfl) (Or.inl (by rfl)))) (fun _ _ _ _ _ => STs.nil) (fun _ _ _ _ _ => (SE.tup (SA.cons (SE.mul SE.int (SE.ix (SE.var 6) SE.int)) (SA.cons (SE.mul SE.int (SE.ix (SE.var 6) SE.int)) SA.nil)))) (by rfl) (by rfl) (sw_true (by rfl) (by rfl) (by rfl) (by decide +kernel)))
    (SB.cons (SS.par 7 8 (by rfl) sc__law_spots.nd (by rfl) (by rfl) (by decide) (by rfl) (by rfl) (SA.cons (SE.ix (SE.var 2) (SE.sub (SE.var 5) SE.int)) (SA.cons (SE.ix (SE.var 2) (SE.ifExp (ST.eq hu (SE.mod (SE.int1 (by rfl) T.n_int (SA.cons (SE.var 5) SA.nil)) SE.int) SE.int) (SE.sub (SE.var 5) SE.int) (SE.sub (SE.var 5) SE.int))) SA.nil)) (by rfl))
    (SB.one (SS.sub (SE.tup (SA.cons (SE.div (SE.add (SE.ix (SE.var 7) SE.int) (SE.ix (SE.var 8) SE.int)) SE.int) (SA.cons (SE.div (SE.add (SE.ix (SE.var 7) SE.int) (SE.ix (SE.var 8) SE.int)) SE.int) SA.nil))) (SE.var 2) (SE.var 5))))) SB.nil)
    (SB.cons (SS.ifS (ST.eq hu (SE.var 4) SE.int) (SB.cons (SS.set 9 sc__law_spots.nd (by rfl) (Or.inl (by rfl)) (SE.fn T.d__law_any (g__law_any T) mir_len hr (by decide) hgu tkD (by rfl) T.b__law_any (SA.cons (SE.var 0) (SA.cons SE.int SA.nil))))
    (SB.one (SS.set 2 sc__law_spots.nd (by rfl) (Or.inl (by rfl)) (SE.loc (SA.cons (SE.tup (SA.cons (SE.add (SE.ix (SE.ix (SE.var 2) SE.int) SE.int) (SE.var 9)) (SA.cons (SE.ix (SE.ix (SE.var 2) SE.int) SE.int) SA.nil))) (SA.cons (SE.tup (SA.cons (SE.sub (SE.ix (SE.ix (SE.var 2) SE.int) SE.int) (SE.var 9)) (SA.cons (SE.ix (SE.ix (SE.var 2) SE.int) SE.int) SA.nil))) (SA.cons (SE.tup (SA.cons (SE.ix (SE.ix (SE.var 2) SE.int) SE.int) (SA.cons SE.int SA.nil))) (SA.cons (SE.tup (SA.cons (SE.ix (SE.ix (SE.var 2) SE.int) SE.int) (SA.cons (SE.neg SE.int) SA.nil))) SA.nil)))))))) SB.nil)
    (SB.one (SS.ret (SE.var 2)))))))))))
theorem sc__law_whole_right : FnScope ["_law_a", "_law_b", "_law_c", "_law_d", "_law_due", "_law_area"] ["_law_a", "_law_b", "_law_c", "_law_d", "_law_due"] (defScope s__law_whole_right) := ⟨rfl, rfl, rfl, by decide +kernel, rfl, by decide +kernel, by decide +kernel⟩
theorem g__law_whole_right (T : Txt K mg z) : FnG P w K mg base 4 z.a__law_whole_right z.fd__law_whole_right ["_law_a", "_law_b", "_law_c", "_law_d", "_law_due"] M__law_whole_right := by
  refine fnG_of (N := ["_law_a", "_law_b", "_law_c", "_law_d", "_law_due", "_law_area"]) T.d__law_whole_right.F sc__law_whole_right fun cdv A outer s H E hr hgu => ?_
  have hu := hr.units
  exact (SB.cons (SS.set 5 sc__law_whole_right.nd (by rfl) (Or.inl (by rfl)) (SE.fn T.d__law_cross (g__law_cross T) mir_len hr (by decide) hgu tkD (by rfl) T.b__law_cross (SA.cons (SE.var 0) (SA.cons (SE.var 1) (SA.cons (SE.var 2) SA.nil)))))
    (SB.cons (SS.ifS (SW.pt (SW.or (ST.not (ST.val (SE.fn T.d__law_same (g__law_same T) mir_len hr (by decide) hgu tkD (by rfl) T.b__law_same (SA.cons (SE.fn T.d_whole_area (g_whole_area T) mir_len hr (by decide) hgu tkD (by rfl) T.b_whole_area (SA.cons (SE.var 0) (SA.cons (SE.var 1) (SA.cons (SE.var 2) SA.nil)))) (SA.cons (SE.var 5) SA.nil))))) (SW.or1 (ST.not (ST.val (SE.fn T.d__law_same (g__law_same T) mir_len hr (by decide) hgu tkD (by rfl) T.b__law_same (SA.cons (SE.fn T.d_whole_turn (g_whole_turn T) mir_len hr (by decide) hgu tkD (by rfl) T.b_whole_turn (SA.cons (SE.var 0) (SA.cons (SE.var 1) (SA.cons (SE.var 2) SA.nil)))) (SA.cons (SE.fn T.d__law_sign (g__law_sign T) mir_len hr (by decide) hgu tkD (by rfl) T.b__law_sign (SA.cons (SE.var 5) SA.nil)) SA.nil)))))))) (SB.one (SS.ret SE.bl)) SB.nil)
    (SB.cons (SS.ifS (SW.pt (SW.or (ST.ne hu (SE.fnK T.d_whole_area (g_whole_area T) mir_len hr (by decide) hgu tkD (by rfl) T.k_whole_area_c_b_a (SKw.cons (SE.var 0) (SKw.cons (SE.var 1) (SKw.cons (SE.var 2) SKw.nil)))) (SE.sub SE.int (SE.var 5))) (SW.or1 (ST.ne hu (SE.fnK T.d_whole_turn (g_whole_turn T) mir_len hr (by decide) hgu tkD (by rfl) T.k_whole_turn_c_b_a (SKw.cons (SE.var 0) (SKw.cons (SE.var 1) (SKw.cons (SE.var 2) SKw.nil)))) (SE.sub SE.int (SE.fn T.d__law_sign (g__law_sign T) mir_len hr (by decide) hgu tkD (by rfl) T.b__law_sign (SA.cons (SE.var 5) SA.nil))))))) (SB.one (SS.ret SE.bl)) SB.nil)
    (SB.cons (SS.ifS (SW.pt (SW.or (ST.not (ST.val (SE.fn T.d__law_same (g__law_same T) mir_len hr (by decide) hgu tkD (by rfl) T.b__law_same (SA.cons (SE.fn T.d_whole_crosses (g_whole_crosses T) mir_len hr (by decide) hgu tkD (by rfl) T.b_whole_crosses (SA.cons (SE.var 0) (SA.cons (SE.var 1) (SA.cons (SE.var 2) (SA.cons (SE.var 3) SA.nil))))) (SA.cons (SE.var 4) SA.nil))))) (SW.or1 (ST.ne hu (SE.fnK T.d_whole_crosses (g_whole_crosses T) mir_len hr (by decide) hgu tkD (by rfl) T.k_whole_crosses_d_c_b_a (SKw.cons (SE.var 0) (SKw.cons (SE.var 1) (SKw.cons (SE.var 2) (SKw.cons (SE.var 3) SKw.nil))))) (SE.var 4))))) (SB.one (SS.ret SE.bl)) SB.nil)
    (SB.one (SS.ret (SE.and (SE.fn T.d__law_same (g__law_same T) mir_len hr (by decide) hgu tkD (by rfl) T.b__law_same (SA.cons (SE.fn T.d_whole_on (g_whole_on T) mir_len hr (by decide) hgu tkD (by rfl) T.b_whole_on (SA.cons (SE.var 0) (SA.cons (SE.var 1) (SA.cons (SE.var 2) SA.nil)))) (SA.cons (SE.fn T.d__law_on (g__law_on T) mir_len hr (by decide) hgu tkD (by rfl) T.b__law_on (SA.cons (SE.var 0) (SA.cons (SE.var 1) (SA.cons (SE.var 2) SA.nil)))) SA.nil))) (SE.one (SE.eq hu (SE.fnK T.d_whole_on (g_whole_on T) mir_len hr (by decide) hgu tkD (by rfl) T.k_whole_on_p_b_a (SKw.cons (SE.var 3) (SKw.cons (SE.var 0) (SKw.cons (SE.var 1) SKw.nil)))) (SE.fn T.d__law_on (g__law_on T) mir_len hr (by decide) hgu tkD (by rfl) T.b__law_on (SA.cons (SE.var 0) (SA.cons (SE.var 1) (SA.cons (SE.var 3) SA.nil)))))))))))))
theorem sc_law : FnScope ["_law_script", "_law_deal", "_law_turn", "_law_a", "_law_b", "_law_c", "_law_d", "_law_bottom", "_law_p", "_law_q", "_law_r", "_law_s", "_law_shown", "_law_parts_here", "_law_due", "_law_told", "_law_spot_here", "_law_on_here"] ["_law_script"] (defScope s_law) := ⟨rfl, rfl, rfl, by decide +kernel, rfl, by decide +kernel, by decide +kernel⟩
theorem g_law (T : Txt K mg z) : FnG P w K mg base 5 z.a_law z.fd_law ["_law_script"] M_law := by
  refine fnG_of (N := ["_law_script", "_law_deal", "_law_turn", "_law_a", "_law_b", "_law_c", "_law_d", "_law_bottom", "_law_p", "_law_q", "_law_r", "_law_s", "_law_shown", "_law_parts_here", "_law_due", "_law_told", "_law_spot_here", "_law_on_here"]) T.d_law.F sc_law fun cdv A outer s H E hr hgu => ?_
  have hu := hr.units
  exact (SB.cons (SS.set 1 sc_law.nd (by rfl) (Or.inl (by rfl)) (SE.fn T.d__law_source (g__law_source T) mir_len hr (by decide) hgu tkD (by rfl) T.b__law_source (SA.cons (SE.var 0) SA.nil)))
    (SB.cons (SS.forS poD (by rfl) (SI.range1 (by rfl) T.n_range (SA.cons SE.int SA.nil)) (SG.name 2 sc_law.nd (by rfl) (Or.inl (by rfl))) (SB.cons (SS.asg (SE.fn T.d__law_spots (g__law_spots T) mir_len hr (by decide) hgu tkD (by rfl) T.b__law_spots (SA.cons (SE.var 1) SA.nil)) (SG.tup (by rfl) (SGs.cons (SG.name 3 sc_law.nd (by rfl) (Or.inl (by rfl))) (SGs.cons (SG.name 4 sc_law.nd (by rfl) (Or.inl (by rfl))) (SGs.cons (SG.name 5 sc_law.nd (by rfl) (Or.inl (by rfl))) (SGs.cons (SG.name 6 sc_law.nd (by rfl) (Or.inl (by rfl))) SGs.nil))))))
    (SB.cons (SS.set 7 sc_law.nd (by rfl) (Or.inl (by rfl)) (SE.fn T.d__law_of (g__law_of T) mir_len hr (by decide) hgu tkD (by rfl) T.b__law_of (SA.cons (SE.var 1) (SA.cons (SE.lst (SA.cons SE.int (SA.cons SE.int (SA.cons (SE.add SE.int (SE.fn T.d__law_any (g__law_any T) mir_len hr (by decide) hgu tkD (by rfl) T.b__law_any (SA.cons (SE.var 1) (SA.cons SE.int SA.nil)))) SA.nil)))) SA.nil))))
    (SB.cons (SS.asg (SE.tup (SA.cons (SE.fn T.d__law_point (g__law_point T) mir_len hr (by decide) hgu tkD (by rfl) T.b__law_point (SA.cons (SE.var 3) (SA.cons (SE.var 7) SA.nil))) (SA.cons (SE.fn T.d__law_point (g__law_point T) mir_len hr (by decide) hgu tkD (by rfl) T.b__law_point (SA.cons (SE.var 4) (SA.cons (SE.var 7) SA.nil))) (SA.cons (SE.fn T.d__law_point (g__law_point T) mir_len hr (by decide) hgu tkD (by rfl) T.b__law_point (SA.cons (SE.var 5) (SA.cons (SE.var 7) SA.nil))) (SA.cons (SE.fn T.d__law_point (g__law_point T) mir_len hr (by decide) hgu tkD (by rfl) T.b__law_point (SA.cons (SE.var 6) (SA.cons (SE.var 7) SA.nil))) SA.nil))))) (SG.tup (by rfl) (SGs.cons (SG.name 8 sc_law.nd (by rfl) (Or.inl (by rfl))) (SGs.cons (SG.name 9 sc_law.nd (by rfl) (Or.inl (by rfl))) (SGs.cons (SG.name 10 sc_law.nd (by rfl) (Or.inl (by rfl))) (SGs.cons (SG.name 11 sc_law.nd (by rfl) (Or.inl (by rfl))) SGs.nil))))))
    (SB.cons (SS.set 12 sc_law.nd (by rfl) (Or.inl (by rfl)) (SE.repr hgu hu (by rfl) T.n_repr (SA.cons (SE.lst (SA.cons (SE.var 8) (SA.cons (SE.var 9) (SA.cons (SE.var 10) (SA.cons (SE.var 11) SA.nil))))) SA.nil)))
    (SB.cons (SS.set 13 sc_law.nd (by rfl) (Or.inl (by rfl)) (SE.fn T.d__law_parts (g__law_parts T) mir_len hr (by decide) hgu tkD (by rfl) T.b__law_parts (SA.cons (SE.var 3) (SA.cons (SE.var 4) (SA.cons (SE.var 5) (SA.cons (SE.var 6) SA.nil))))))
    (SB.cons (SS.set 14 sc_law.nd (by rfl) (Or.inl (by rfl)) (SE.notN (SE.var 13) SE.non))
    (SB.cons (SS.ifS (SW.pt (SW.or (ST.not (ST.val (SE.fn T.d__law_same (g__law_same T) mir_len hr (by decide) hgu tkD (by rfl) T.b__law_same (SA.cons (SE.fn T.d_crosses (g_crosses T) mir_len hr (by decide) hgu tkD (by rfl) T.b_crosses (SA.cons (SE.var 8) (SA.cons (SE.var 9) (SA.cons (SE.var 10) (SA.cons (SE.var 11) SA.nil))))) (SA.cons (SE.var 14) SA.nil))))) (SW.or (ST.ne hu (SE.fnK T.d_crosses (g_crosses T) mir_len hr (by decide) hgu tkD (by rfl) T.k_crosses_d_c_b_a (SKw.cons (SE.var 10) (SKw.cons (SE.var 11) (SKw.cons (SE.var 9) (SKw.cons (SE.var 8) SKw.nil))))) (SE.var 14)) (SW.or1 (ST.ne hu (SE.fn T.d_crosses (g_crosses T) mir_len hr (by decide) hgu tkD (by rfl) T.b_crosses (SA.cons (SE.var 10) (SA.cons (SE.var 11) (SA.cons (SE.var 8) (SA.cons (SE.var 9) SA.nil))))) (SE.var 14)))))) (SB.one (SS.ret SE.bl)) SB.nil)
    (SB.cons (SS.set 15 sc_law.nd (by rfl) (Or.inl (by rfl)) (SE.fn T.d__law_point_due (g__law_point_due T) mir_len hr (by decide) hgu tkD (by rfl) T.b__law_point_due (SA.cons (SE.var 3) (SA.cons (SE.var 4) (SA.cons (SE.var 13) (SA.cons (SE.var 7) SA.nil))))))
    (SB.cons (SS.ifS (SW.pt (SW.or (ST.not (ST.val (SE.fn T.d__law_same (g__law_same T) mir_len hr (by decide) hgu tkD (by rfl) T.b__law_same (SA.cons (SE.fn T.d_crossing_point (g_crossing_point T) mir_len hr (by decide) hgu tkD (by rfl) T.b_crossing_point (SA.cons (SE.var 8) (SA.cons (SE.var 9) (SA.cons (SE.var 10) (SA.cons (SE.var 11) SA.nil))))) (SA.cons (SE.var 15) SA.nil))))) (SW.or1 (ST.ne hu (SE.fnK T.d_crossing_point (g_crossing_point T) mir_len hr (by decide) hgu tkD (by rfl) T.k_crossing_point_d_c_b_a (SKw.cons (SE.var 9) (SKw.cons (SE.var 8) (SKw.cons (SE.var 11) (SKw.cons (SE.var 10) SKw.nil))))) (SE.var 15))))) (SB.one (SS.ret SE.bl)) SB.nil)
    (SB.cons (SS.forS poD (by rfl) (SI.seq (SE.tup (SA.cons (SE.var 5) (SA.cons (SE.var 6) (SA.cons (SE.var 3) (SA.cons (SE.tup (SA.cons (SE.div (SE.add (SE.ix (SE.var 3) SE.int) (SE.ix (SE.var 4) SE.int)) SE.int) (SA.cons (SE.div (SE.add (SE.ix (SE.var 3) SE.int) (SE.ix (SE.var 4) SE.int)) SE.int) SA.nil))) (SA.cons (SE.tup (SA.cons (SE.sub (SE.mul SE.int (SE.ix (SE.var 4) SE.int)) (SE.ix (SE.var 3) SE.int)) (SA.cons (SE.sub (SE.mul SE.int (SE.ix (SE.var 4) SE.int)) (SE.ix (SE.var 3) SE.int)) SA.nil))) SA.nil))))))) (SG.name 16 sc_law.nd (by rfl) (Or.inl (by rfl))) (SB.cons (SS.set 17 sc_law.nd (by rfl) (Or.inl (by rfl)) (SE.fn T.d__law_on (g__law_on T) mir_len hr (by decide) hgu tkD (by rfl) T.b__law_on (SA.cons (SE.var 3) (SA.cons (SE.var 4) (SA.cons (SE.var 16) SA.nil)))))
    (SB.one (SS.ifS (SW.pt (SW.or (ST.not (ST.val (SE.fn T.d__law_same (g__law_same T) mir_len hr (by decide) hgu tkD (by rfl) T.b__law_same (SA.cons (SE.fn T.d_on_segment (g_on_segment T) mir_len hr (by decide) hgu tkD (by rfl) T.b_on_segment (SA.cons (SE.var 8) (SA.cons (SE.var 9) (SA.cons (SE.fn T.d__law_point (g__law_point T) mir_len hr (by decide) hgu tkD (by rfl) T.b__law_point (SA.cons (SE.var 16) (SA.cons (SE.var 7) SA.nil))) SA.nil)))) (SA.cons (SE.var 17) SA.nil))))) (SW.or1 (ST.ne hu (SE.fnK T.d_on_segment (g_on_segment T) mir_len hr (by decide) hgu tkD (by rfl) T.k_on_segment_p_b_a (SKw.cons (SE.fn T.d__law_point (g__law_point T) mir_len hr (by decide) hgu tkD (by rfl) T.b__law_point (SA.cons (SE.var 16) (SA.cons (SE.var 7) SA.nil))) (SKw.cons (SE.var 8) (SKw.cons (SE.var 9) SKw.nil)))) (SE.var 17))))) (SB.one (SS.ret SE.bl)) SB.nil))))
    (SB.cons (SS.ifS (SW.pt (SW.or (ST.not (ST.val (SE.fn T.d__law_whole_right (g__law_whole_right T) mir_len hr (by decide) hgu tkD (by rfl) T.b__law_whole_right (SA.cons (SE.var 3) (SA.cons (SE.var 4) (SA.cons (SE.var 5) (SA.cons (SE.var 6) (SA.cons (SE.var 14) SA.nil)))))))) (SW.or1 (ST.not (ST.val (SE.fn T.d__law_whole_right (g__law_whole_right T) mir_len hr (by decide) hgu tkD (by rfl) T.b__law_whole_right (SA.cons (SE.var 5) (SA.cons (SE.var 6) (SA.cons (SE.var 3) (SA.cons (SE.var 4) (SA.cons (SE.var 14) SA.nil))))))))))) (SB.one (SS.ret SE.bl)) SB.nil)
    (SB.one (SS.ifS (ST.ne hu (SE.repr hgu hu (by rfl) T.n_repr (SA.cons (SE.lst (SA.cons (SE.var 8) (SA.cons (SE.var 9) (SA.cons (SE.var 10) (SA.cons (SE.var 11) SA.nil))))) SA.nil)) (SE.var 12)) (SB.one (SS.ret SE.bl)) SB.nil))))))))))))))
    (SB.one (SS.ret SE.bl))))
end
end LW
set_option Elab.async false
set_option linter.all false
set_option maxRecDepth 100000
set_option maxHeartbeats 8000000
namespace LW
open PySem PySem.Spec PyProof.Rows L2 V2
open PySem.W (Frag)
theorem all_mk {l : PySem.W.OpenLaw} {w : World} {K : Frag} {h : Heap} {mg : Str → Option Value} {fa : Addr} (X : K.In h) (G : h.Ns mainGlobals mg) (hfa : mg "law" = some (.ref fa))
    {f0 : Addr} {od0 an0 : Option Addr} {sl0 : Array (Option Value)} {oc0 kV0 dc0 pm0 cd0 ct0 : Value}
    {f1 : Addr} {od1 an1 : Option Addr} {sl1 : Array (Option Value)} {oc1 kV1 dc1 pm1 cd1 ct1 : Value}
    {f2 : Addr} {od2 an2 : Option Addr} {sl2 : Array (Option Value)} {oc2 kV2 dc2 pm2 cd2 ct2 : Value}
    {f3 : Addr} {od3 an3 : Option Addr} {sl3 : Array (Option Value)} {oc3 kV3 dc3 pm3 cd3 ct3 : Value}
    {f4 : Addr} {od4 an4 : Option Addr} {sl4 : Array (Option Value)} {oc4 kV4 dc4 pm4 cd4 ct4 : Value}
    {f5 : Addr} {od5 an5 : Option Addr} {sl5 : Array (Option Value)} {oc5 kV5 dc5 pm5 cd5 ct5 : Value}
    {f6 : Addr} {od6 an6 : Option Addr} {sl6 : Array (Option Value)} {oc6 kV6 dc6 pm6 cd6 ct6 : Value}
    {f7 : Addr} {od7 an7 : Option Addr} {sl7 : Array (Option Value)} {oc7 kV7 dc7 pm7 cd7 ct7 : Value}
    {f8 : Addr} {od8 an8 : Option Addr} {sl8 : Array (Option Value)} {oc8 kV8 dc8 pm8 cd8 ct8 : Value}
    {f9 : Addr} {od9 an9 : Option Addr} {sl9 : Array (Option Value)} {oc9 kV9 dc9 pm9 cd9 ct9 : Value}
    {f10 : Addr} {od10 an10 : Option Addr} {sl10 : Array (Option Value)} {oc10 kV10 dc10 pm10 cd10 ct10 : Value}
    {f11 : Addr} {od11 an11 : Option Addr} {sl11 : Array (Option Value)} {oc11 kV11 dc11 pm11 cd11 ct11 : Value}
    {f12 : Addr} {od12 an12 : Option Addr} {sl12 : Array (Option Value)} {oc12 kV12 dc12 pm12 cd12 ct12 : Value}
    {f13 : Addr} {od13 an13 : Option Addr} {sl13 : Array (Option Value)} {oc13 kV13 dc13 pm13 cd13 ct13 : Value}
    {f14 : Addr} {od14 an14 : Option Addr} {sl14 : Array (Option Value)} {oc14 kV14 dc14 pm14 cd14 ct14 : Value}
    {f15 : Addr} {od15 an15 : Option Addr} {sl15 : Array (Option Value)} {oc15 kV15 dc15 pm15 cd15 ct15 : Value}
    {f16 : Addr} {od16 an16 : Option Addr} {sl16 : Array (Option Value)} {oc16 kV16 dc16 pm16 cd16 ct16 : Value}
    {f17 : Addr} {od17 an17 : Option Addr} {sl17 : Array (Option Value)} {oc17 kV17 dc17 pm17 cd17 ct17 : Value}
    {f18 : Addr} {od18 an18 : Option Addr} {sl18 : Array (Option Value)} {oc18 kV18 dc18 pm18 cd18 ct18 : Value}
    {f19 : Addr} {od19 an19 : Option Addr} {sl19 : Array (Option Value)} {oc19 kV19 dc19 pm19 cd19 ct19 : Value}
    {f20 : Addr} {od20 an20 : Option Addr} {sl20 : Array (Option Value)} {oc20 kV20 dc20 pm20 cd20 ct20 : Value}
    {f21 : Addr} {od21 an21 : Option Addr} {sl21 : Array (Option Value)} {oc21 kV21 dc21 pm21 cd21 ct21 : Value}
    {f22 : Addr} {od22 an22 : Option Addr} {sl22 : Array (Option Value)} {oc22 kV22 dc22 pm22 cd22 ct22 : Value}
    {f23 : Addr} {od23 an23 : Option Addr} {sl23 : Array (Option Value)} {oc23 kV23 dc23 pm23 cd23 ct23 : Value}
    {f24 : Addr} {od24 an24 : Option Addr} {sl24 : Array (Option Value)} {oc24 kV24 dc24 pm24 cd24 ct24 : Value}
    {f25 : Addr} {od25 an25 : Option Addr} {sl25 : Array (Option Value)} {oc25 kV25 dc25 pm25 cd25 ct25 : Value}
    {f26 : Addr} {od26 an26 : Option Addr} {sl26 : Array (Option Value)} {oc26 kV26 dc26 pm26 cd26 ct26 : Value}
    {f27 : Addr} {od27 an27 : Option Addr} {sl27 : Array (Option Value)} {oc27 kV27 dc27 pm27 cd27 ct27 : Value}
    {f28 : Addr} {od28 an28 : Option Addr} {sl28 : Array (Option Value)} {oc28 kV28 dc28 pm28 cd28 ct28 : Value}
    {f29 : Addr} {od29 an29 : Option Addr} {sl29 : Array (Option Value)} {oc29 kV29 dc29 pm29 cd29 ct29 : Value}
    {f30 : Addr} {od30 an30 : Option Addr} {sl30 : Array (Option Value)} {oc30 kV30 dc30 pm30 cd30 ct30 : Value}
    {f31 : Addr} {od31 an31 : Option Addr} {sl31 : Array (Option Value)} {oc31 kV31 dc31 pm31 cd31 ct31 : Value}
    {C_InvalidSize : Addr}
    {I_InvalidSize N_InvalidSize : Addr} {nm_InvalidSize qn_InvalidSize : Str} {bs_InvalidSize bm_InvalidSize sub_InvalidSize : List Value} {sn_InvalidSize : List Str} {ab_InvalidSize : Bool} {co_InvalidSize : Option Bool} {dd_InvalidSize od_InvalidSize an_InvalidSize : Option Addr} {m0_InvalidSize m1_InvalidSize m2_InvalidSize m3_InvalidSize m5_InvalidSize : Option Value} {oc_InvalidSize dc_InvalidSize pm_InvalidSize cd_InvalidSize ct_InvalidSize : Value} {sl_InvalidSize : Array (Option Value)}
    (a0 : PySem.W.nsIn K mainGlobals "fraction" = some (some (.ref f0)))
    (l0 : K.lookup f0 = some ⟨oc0, od0, .func (PySem.W.fnOf "fraction" "fraction" (defArgs s_fraction) (defBody s_fraction) (defScope s_fraction) .none kV0 dc0 pm0 an0 cd0 ct0), sl0⟩)
    (c0 : PySem.W.codeIn K cd0 "fraction" = true)
    (k0 : PySem.W.keepIn K (.ref f0) = true)
    (a1 : PySem.W.nsIn K mainGlobals "whole" = some (some (.ref f1)))
    (l1 : K.lookup f1 = some ⟨oc1, od1, .func (PySem.W.fnOf "whole" "whole" (defArgs s_whole) (defBody s_whole) (defScope s_whole) .none kV1 dc1 pm1 an1 cd1 ct1), sl1⟩)
    (c1 : PySem.W.codeIn K cd1 "whole" = true)
    (k1 : PySem.W.keepIn K (.ref f1) = true)
    (a2 : PySem.W.nsIn K mainGlobals "plus" = some (some (.ref f2)))
    (l2 : K.lookup f2 = some ⟨oc2, od2, .func (PySem.W.fnOf "plus" "plus" (defArgs s_plus) (defBody s_plus) (defScope s_plus) .none kV2 dc2 pm2 an2 cd2 ct2), sl2⟩)
    (c2 : PySem.W.codeIn K cd2 "plus" = true)
    (k2 : PySem.W.keepIn K (.ref f2) = true)
    (a3 : PySem.W.nsIn K mainGlobals "minus" = some (some (.ref f3)))
    (l3 : K.lookup f3 = some ⟨oc3, od3, .func (PySem.W.fnOf "minus" "minus" (defArgs s_minus) (defBody s_minus) (defScope s_minus) .none kV3 dc3 pm3 an3 cd3 ct3), sl3⟩)
    (c3 : PySem.W.codeIn K cd3 "minus" = true)
    (k3 : PySem.W.keepIn K (.ref f3) = true)
    (a4 : PySem.W.nsIn K mainGlobals "times" = some (some (.ref f4)))
    (l4 : K.lookup f4 = some ⟨oc4, od4, .func (PySem.W.fnOf "times" "times" (defArgs s_times) (defBody s_times) (defScope s_times) .none kV4 dc4 pm4 an4 cd4 ct4), sl4⟩)
    (c4 : PySem.W.codeIn K cd4 "times" = true)
    (k4 : PySem.W.keepIn K (.ref f4) = true)
    (a5 : PySem.W.nsIn K mainGlobals "negative" = some (some (.ref f5)))
    (l5 : K.lookup f5 = some ⟨oc5, od5, .func (PySem.W.fnOf "negative" "negative" (defArgs s_negative) (defBody s_negative) (defScope s_negative) .none kV5 dc5 pm5 an5 cd5 ct5), sl5⟩)
    (c5 : PySem.W.codeIn K cd5 "negative" = true)
    (k5 : PySem.W.keepIn K (.ref f5) = true)
    (a6 : PySem.W.nsIn K mainGlobals "sign_of" = some (some (.ref f6)))
    (l6 : K.lookup f6 = some ⟨oc6, od6, .func (PySem.W.fnOf "sign_of" "sign_of" (defArgs s_sign_of) (defBody s_sign_of) (defScope s_sign_of) .none kV6 dc6 pm6 an6 cd6 ct6), sl6⟩)
    (c6 : PySem.W.codeIn K cd6 "sign_of" = true)
    (k6 : PySem.W.keepIn K (.ref f6) = true)
    (a7 : PySem.W.nsIn K mainGlobals "on_grid" = some (some (.ref f7)))
    (l7 : K.lookup f7 = some ⟨oc7, od7, .func (PySem.W.fnOf "on_grid" "on_grid" (defArgs s_on_grid) (defBody s_on_grid) (defScope s_on_grid) .none kV7 dc7 pm7 an7 cd7 ct7), sl7⟩)
    (c7 : PySem.W.codeIn K cd7 "on_grid" = true)
    (k7 : PySem.W.keepIn K (.ref f7) = true)
    (a8 : PySem.W.nsIn K mainGlobals "moved" = some (some (.ref f8)))
    (l8 : K.lookup f8 = some ⟨oc8, od8, .func (PySem.W.fnOf "moved" "moved" (defArgs s_moved) (defBody s_moved) (defScope s_moved) .none kV8 dc8 pm8 an8 cd8 ct8), sl8⟩)
    (c8 : PySem.W.codeIn K cd8 "moved" = true)
    (k8 : PySem.W.keepIn K (.ref f8) = true)
    (a9 : PySem.W.nsIn K mainGlobals "whole_area" = some (some (.ref f9)))
    (l9 : K.lookup f9 = some ⟨oc9, od9, .func (PySem.W.fnOf "whole_area" "whole_area" (defArgs s_whole_area) (defBody s_whole_area) (defScope s_whole_area) .none kV9 dc9 pm9 an9 cd9 ct9), sl9⟩)
    (c9 : PySem.W.codeIn K cd9 "whole_area" = true)
    (k9 : PySem.W.keepIn K (.ref f9) = true)
    (a10 : PySem.W.nsIn K mainGlobals "whole_turn" = some (some (.ref f10)))
    (l10 : K.lookup f10 = some ⟨oc10, od10, .func (PySem.W.fnOf "whole_turn" "whole_turn" (defArgs s_whole_turn) (defBody s_whole_turn) (defScope s_whole_turn) .none kV10 dc10 pm10 an10 cd10 ct10), sl10⟩)
    (c10 : PySem.W.codeIn K cd10 "whole_turn" = true)
    (k10 : PySem.W.keepIn K (.ref f10) = true)
    (a11 : PySem.W.nsIn K mainGlobals "whole_on" = some (some (.ref f11)))
    (l11 : K.lookup f11 = some ⟨oc11, od11, .func (PySem.W.fnOf "whole_on" "whole_on" (defArgs s_whole_on) (defBody s_whole_on) (defScope s_whole_on) .none kV11 dc11 pm11 an11 cd11 ct11), sl11⟩)
    (c11 : PySem.W.codeIn K cd11 "whole_on" = true)
    (k11 : PySem.W.keepIn K (.ref f11) = true)
    (a12 : PySem.W.nsIn K mainGlobals "on_segment" = some (some (.ref f12)))
    (l12 : K.lookup f12 = some ⟨oc12, od12, .func (PySem.W.fnOf "on_segment" "on_segment" (defArgs s_on_segment) (defBody s_on_segment) (defScope s_on_segment) .none kV12 dc12 pm12 an12 cd12 ct12), sl12⟩)
    (c12 : PySem.W.codeIn K cd12 "on_segment" = true)
    (k12 : PySem.W.keepIn K (.ref f12) = true)
    (a13 : PySem.W.nsIn K mainGlobals "whole_crosses" = some (some (.ref f13)))
    (l13 : K.lookup f13 = some ⟨oc13, od13, .func (PySem.W.fnOf "whole_crosses" "whole_crosses" (defArgs s_whole_crosses) (defBody s_whole_crosses) (defScope s_whole_crosses) .none kV13 dc13 pm13 an13 cd13 ct13), sl13⟩)
    (c13 : PySem.W.codeIn K cd13 "whole_crosses" = true)
    (k13 : PySem.W.keepIn K (.ref f13) = true)
    (a14 : PySem.W.nsIn K mainGlobals "crosses" = some (some (.ref f14)))
    (l14 : K.lookup f14 = some ⟨oc14, od14, .func (PySem.W.fnOf "crosses" "crosses" (defArgs s_crosses) (defBody s_crosses) (defScope s_crosses) .none kV14 dc14 pm14 an14 cd14 ct14), sl14⟩)
    (c14 : PySem.W.codeIn K cd14 "crosses" = true)
    (k14 : PySem.W.keepIn K (.ref f14) = true)
    (a15 : PySem.W.nsIn K mainGlobals "crossing_point" = some (some (.ref f15)))
    (l15 : K.lookup f15 = some ⟨oc15, od15, .func (PySem.W.fnOf "crossing_point" "crossing_point" (defArgs s_crossing_point) (defBody s_crossing_point) (defScope s_crossing_point) .none kV15 dc15 pm15 an15 cd15 ct15), sl15⟩)
    (c15 : PySem.W.codeIn K cd15 "crossing_point" = true)
    (k15 : PySem.W.keepIn K (.ref f15) = true)
    (a16 : PySem.W.nsIn K mainGlobals "_law_source" = some (some (.ref f16)))
    (l16 : K.lookup f16 = some ⟨oc16, od16, .func (PySem.W.fnOf "_law_source" "_law_source" (defArgs s__law_source) (defBody s__law_source) (defScope s__law_source) .none kV16 dc16 pm16 an16 cd16 ct16), sl16⟩)
    (c16 : PySem.W.codeIn K cd16 "_law_source" = true)
    (k16 : PySem.W.keepIn K (.ref f16) = true)
    (a17 : PySem.W.nsIn K mainGlobals "_law_any" = some (some (.ref f17)))
    (l17 : K.lookup f17 = some ⟨oc17, od17, .func (PySem.W.fnOf "_law_any" "_law_any" (defArgs s__law_any) (defBody s__law_any) (defScope s__law_any) .none kV17 dc17 pm17 an17 cd17 ct17), sl17⟩)
    (c17 : PySem.W.codeIn K cd17 "_law_any" = true)
    (k17 : PySem.W.keepIn K (.ref f17) = true)
    (a18 : PySem.W.nsIn K mainGlobals "_law_of" = some (some (.ref f18)))
    (l18 : K.lookup f18 = some ⟨oc18, od18, .func (PySem.W.fnOf "_law_of" "_law_of" (defArgs s__law_of) (defBody s__law_of) (defScope s__law_of) .none kV18 dc18 pm18 an18 cd18 ct18), sl18⟩)
    (c18 : PySem.W.codeIn K cd18 "_law_of" = true)
    (k18 : PySem.W.keepIn K (.ref f18) = true)
    (a19 : PySem.W.nsIn K mainGlobals "_law_common" = some (some (.ref f19)))
    (l19 : K.lookup f19 = some ⟨oc19, od19, .func (PySem.W.fnOf "_law_common" "_law_common" (defArgs s__law_common) (defBody s__law_common) (defScope s__law_common) .none kV19 dc19 pm19 an19 cd19 ct19), sl19⟩)
    (c19 : PySem.W.codeIn K cd19 "_law_common" = true)
    (k19 : PySem.W.keepIn K (.ref f19) = true)
    (a20 : PySem.W.nsIn K mainGlobals "_law_low" = some (some (.ref f20)))
    (l20 : K.lookup f20 = some ⟨oc20, od20, .func (PySem.W.fnOf "_law_low" "_law_low" (defArgs s__law_low) (defBody s__law_low) (defScope s__law_low) .none kV20 dc20 pm20 an20 cd20 ct20), sl20⟩)
    (c20 : PySem.W.codeIn K cd20 "_law_low" = true)
    (k20 : PySem.W.keepIn K (.ref f20) = true)
    (a21 : PySem.W.nsIn K mainGlobals "_law_same" = some (some (.ref f21)))
    (l21 : K.lookup f21 = some ⟨oc21, od21, .func (PySem.W.fnOf "_law_same" "_law_same" (defArgs s__law_same) (defBody s__law_same) (defScope s__law_same) .none kV21 dc21 pm21 an21 cd21 ct21), sl21⟩)
    (c21 : PySem.W.codeIn K cd21 "_law_same" = true)
    (k21 : PySem.W.keepIn K (.ref f21) = true)
    (a22 : PySem.W.nsIn K mainGlobals "_law_spot" = some (some (.ref f22)))
    (l22 : K.lookup f22 = some ⟨oc22, od22, .func (PySem.W.fnOf "_law_spot" "_law_spot" (defArgs s__law_spot) (defBody s__law_spot) (defScope s__law_spot) .none kV22 dc22 pm22 an22 cd22 ct22), sl22⟩)
    (c22 : PySem.W.codeIn K cd22 "_law_spot" = true)
    (k22 : PySem.W.keepIn K (.ref f22) = true)
    (a23 : PySem.W.nsIn K mainGlobals "_law_point" = some (some (.ref f23)))
    (l23 : K.lookup f23 = some ⟨oc23, od23, .func (PySem.W.fnOf "_law_point" "_law_point" (defArgs s__law_point) (defBody s__law_point) (defScope s__law_point) .none kV23 dc23 pm23 an23 cd23 ct23), sl23⟩)
    (c23 : PySem.W.codeIn K cd23 "_law_point" = true)
    (k23 : PySem.W.keepIn K (.ref f23) = true)
    (a24 : PySem.W.nsIn K mainGlobals "_law_cross" = some (some (.ref f24)))
    (l24 : K.lookup f24 = some ⟨oc24, od24, .func (PySem.W.fnOf "_law_cross" "_law_cross" (defArgs s__law_cross) (defBody s__law_cross) (defScope s__law_cross) .none kV24 dc24 pm24 an24 cd24 ct24), sl24⟩)
    (c24 : PySem.W.codeIn K cd24 "_law_cross" = true)
    (k24 : PySem.W.keepIn K (.ref f24) = true)
    (a25 : PySem.W.nsIn K mainGlobals "_law_sign" = some (some (.ref f25)))
    (l25 : K.lookup f25 = some ⟨oc25, od25, .func (PySem.W.fnOf "_law_sign" "_law_sign" (defArgs s__law_sign) (defBody s__law_sign) (defScope s__law_sign) .none kV25 dc25 pm25 an25 cd25 ct25), sl25⟩)
    (c25 : PySem.W.codeIn K cd25 "_law_sign" = true)
    (k25 : PySem.W.keepIn K (.ref f25) = true)
    (a26 : PySem.W.nsIn K mainGlobals "_law_on" = some (some (.ref f26)))
    (l26 : K.lookup f26 = some ⟨oc26, od26, .func (PySem.W.fnOf "_law_on" "_law_on" (defArgs s__law_on) (defBody s__law_on) (defScope s__law_on) .none kV26 dc26 pm26 an26 cd26 ct26), sl26⟩)
    (c26 : PySem.W.codeIn K cd26 "_law_on" = true)
    (k26 : PySem.W.keepIn K (.ref f26) = true)
    (a27 : PySem.W.nsIn K mainGlobals "_law_parts" = some (some (.ref f27)))
    (l27 : K.lookup f27 = some ⟨oc27, od27, .func (PySem.W.fnOf "_law_parts" "_law_parts" (defArgs s__law_parts) (defBody s__law_parts) (defScope s__law_parts) .none kV27 dc27 pm27 an27 cd27 ct27), sl27⟩)
    (c27 : PySem.W.codeIn K cd27 "_law_parts" = true)
    (k27 : PySem.W.keepIn K (.ref f27) = true)
    (a28 : PySem.W.nsIn K mainGlobals "_law_spots" = some (some (.ref f28)))
    (l28 : K.lookup f28 = some ⟨oc28, od28, .func (PySem.W.fnOf "_law_spots" "_law_spots" (defArgs s__law_spots) (defBody s__law_spots) (defScope s__law_spots) .none kV28 dc28 pm28 an28 cd28 ct28), sl28⟩)
    (c28 : PySem.W.codeIn K cd28 "_law_spots" = true)
    (k28 : PySem.W.keepIn K (.ref f28) = true)
    (a29 : PySem.W.nsIn K mainGlobals "_law_point_due" = some (some (.ref f29)))
    (l29 : K.lookup f29 = some ⟨oc29, od29, .func (PySem.W.fnOf "_law_point_due" "_law_point_due" (defArgs s__law_point_due) (defBody s__law_point_due) (defScope s__law_point_due) .none kV29 dc29 pm29 an29 cd29 ct29), sl29⟩)
    (c29 : PySem.W.codeIn K cd29 "_law_point_due" = true)
    (k29 : PySem.W.keepIn K (.ref f29) = true)
    (a30 : PySem.W.nsIn K mainGlobals "_law_whole_right" = some (some (.ref f30)))
    (l30 : K.lookup f30 = some ⟨oc30, od30, .func (PySem.W.fnOf "_law_whole_right" "_law_whole_right" (defArgs s__law_whole_right) (defBody s__law_whole_right) (defScope s__law_whole_right) .none kV30 dc30 pm30 an30 cd30 ct30), sl30⟩)
    (c30 : PySem.W.codeIn K cd30 "_law_whole_right" = true)
    (k30 : PySem.W.keepIn K (.ref f30) = true)
    (a31 : PySem.W.nsIn K mainGlobals "law" = some (some (.ref f31)))
    (l31 : K.lookup f31 = some ⟨oc31, od31, .func (PySem.W.fnOf "law" "law" (defArgs s_law) (defBody s_law) (defScope s_law) .none kV31 dc31 pm31 an31 cd31 ct31), sl31⟩)
    (c31 : PySem.W.codeIn K cd31 "law" = true)
    (k31 : PySem.W.keepIn K (.ref f31) = true)
    (z_abs : PySem.W.nsIn K mainGlobals "abs" = some none)
    (m_gcd : PySem.W.nsIn K mainGlobals "gcd" = some (some (.builtin "math.gcd")))
    (z_int : PySem.W.nsIn K mainGlobals "int" = some none)
    (m_lcm : PySem.W.nsIn K mainGlobals "lcm" = some (some (.builtin "math.lcm")))
    (z_len : PySem.W.nsIn K mainGlobals "len" = some none)
    (z_max : PySem.W.nsIn K mainGlobals "max" = some none)
    (z_min : PySem.W.nsIn K mainGlobals "min" = some none)
    (z_range : PySem.W.nsIn K mainGlobals "range" = some none)
    (z_repr : PySem.W.nsIn K mainGlobals "repr" = some none)
    (g_InvalidSize : PySem.W.nsIn K mainGlobals "InvalidSize" = some (some (.ref C_InvalidSize)))
    (xl_InvalidSize : K.lookup C_InvalidSize = some (excClassObj nm_InvalidSize qn_InvalidSize C_InvalidSize N_InvalidSize bs_InvalidSize bm_InvalidSize true sn_InvalidSize sub_InvalidSize ab_InvalidSize co_InvalidSize dd_InvalidSize m0_InvalidSize m1_InvalidSize m2_InvalidSize m3_InvalidSize m5_InvalidSize "Exception.__new__"))
    (xr_InvalidSize : Refs bm_InvalidSize)
    (xk_InvalidSize : PySem.W.keepIn K (.ref C_InvalidSize) = true)
    (xe_InvalidSize : PySem.W.subIn K (.ref C_InvalidSize) (.type "BaseException") = some true)
    (xt_InvalidSize : PySem.W.typeIn K (.ref C_InvalidSize) = some (.type "type"))
    (xh_InvalidSize : PySem.W.hasDictIn K C_InvalidSize = true)
    (xs_InvalidSize : PySem.W.findIn K (.ref C_InvalidSize) "__setattr__" = some (some (.builtin "object.__setattr__")))
    (xn_InvalidSize : PySem.W.findIn K (.ref C_InvalidSize) "word" = some none)
    (xi_InvalidSize : PySem.W.findIn K (.ref C_InvalidSize) "__init__" = some (some (.ref I_InvalidSize)))
    (xu_InvalidSize : PySem.W.typeIn K (.ref I_InvalidSize) = some (.type "function"))
    (xf_InvalidSize : K.lookup I_InvalidSize = some ⟨oc_InvalidSize, od_InvalidSize, .func (PySem.W.fnOf "__init__" "InvalidSize.__init__" (XI.iA "word" ⟨7, 17, 7, 21⟩ ⟨7, 23, 7, 27⟩) (XI.iB "word" ⟨8, 8, 8, 12⟩ ⟨8, 8, 8, 17⟩ ⟨8, 20, 8, 24⟩ ⟨8, 8, 8, 24⟩) (XI.iS "word") .none .none dc_InvalidSize pm_InvalidSize an_InvalidSize cd_InvalidSize ct_InvalidSize), sl_InvalidSize⟩)
    (xc_InvalidSize : PySem.W.codeIn K cd_InvalidSize "InvalidSize.__init__" = true) :
    ∃ fd : FuncData, (∀ (s : Shared) (v : Value), BindsTo s fd ⟨[v], []⟩ [("_law_script", v)]) ∧ ∀ base : Heap, K.In base → base.Ns mainGlobals mg → FnG l.prog w K mg base 5 fa fd ["_law_script"] M_law := by
  have e := hfa.symm.trans (PySem.W.mg_of X G a31)
  cases e
  have F0 := fun_mk (st := s_fraction) l0 c0 k0
  have F1 := fun_mk (st := s_whole) l1 c1 k1
  have F2 := fun_mk (st := s_plus) l2 c2 k2
  have F3 := fun_mk (st := s_minus) l3 c3 k3
  have F4 := fun_mk (st := s_times) l4 c4 k4
  have F5 := fun_mk (st := s_negative) l5 c5 k5
  have F6 := fun_mk (st := s_sign_of) l6 c6 k6
  have F7 := fun_mk (st := s_on_grid) l7 c7 k7
  have F8 := fun_mk (st := s_moved) l8 c8 k8
  have F9 := fun_mk (st := s_whole_area) l9 c9 k9
  have F10 := fun_mk (st := s_whole_turn) l10 c10 k10
  have F11 := fun_mk (st := s_whole_on) l11 c11 k11
  have F12 := fun_mk (st := s_on_segment) l12 c12 k12
  have F13 := fun_mk (st := s_whole_crosses) l13 c13 k13
  have F14 := fun_mk (st := s_crosses) l14 c14 k14
  have F15 := fun_mk (st := s_crossing_point) l15 c15 k15
  have F16 := fun_mk (st := s__law_source) l16 c16 k16
  have F17 := fun_mk (st := s__law_any) l17 c17 k17
  have F18 := fun_mk (st := s__law_of) l18 c18 k18
  have F19 := fun_mk (st := s__law_common) l19 c19 k19
  have F20 := fun_mk (st := s__law_low) l20 c20 k20
  have F21 := fun_mk (st := s__law_same) l21 c21 k21
  have F22 := fun_mk (st := s__law_spot) l22 c22 k22
  have F23 := fun_mk (st := s__law_point) l23 c23 k23
  have F24 := fun_mk (st := s__law_cross) l24 c24 k24
  have F25 := fun_mk (st := s__law_sign) l25 c25 k25
  have F26 := fun_mk (st := s__law_on) l26 c26 k26
  have F27 := fun_mk (st := s__law_parts) l27 c27 k27
  have F28 := fun_mk (st := s__law_spots) l28 c28 k28
  have F29 := fun_mk (st := s__law_point_due) l29 c29 k29
  have F30 := fun_mk (st := s__law_whole_right) l30 c30 k30
  have F31 := fun_mk (st := s_law) l31 c31 k31
  have X_InvalidSize : XCls K mg "InvalidSize" C_InvalidSize := ⟨PySem.W.mg_of X G g_InvalidSize, ⟨nm_InvalidSize, qn_InvalidSize, N_InvalidSize, bs_InvalidSize, _, sn_InvalidSize, sub_InvalidSize, ab_InvalidSize, co_InvalidSize, dd_InvalidSize, m0_InvalidSize, m1_InvalidSize, m2_InvalidSize, m3_InvalidSize, m5_InvalidSize, xl_InvalidSize, xr_InvalidSize⟩, xk_InvalidSize, xe_InvalidSize, xt_InvalidSize, xh_InvalidSize⟩
  have T : Txt K mg { a_fraction := f0, fd_fraction := _, a_whole := f1, fd_whole := _, a_plus := f2, fd_plus := _, a_minus := f3, fd_minus := _, a_times := f4, fd_times := _, a_negative := f5, fd_negative := _, a_sign_of := f6, fd_sign_of := _, a_on_grid := f7, fd_on_grid := _, a_moved := f8, fd_moved := _, a_whole_area := f9, fd_whole_area := _, a_whole_turn := f10, fd_whole_turn := _, a_whole_on := f11, fd_whole_on := _, a_on_segment := f12, fd_on_segment := _, a_whole_crosses := f13, fd_whole_crosses := _, a_crosses := f14, fd_crosses := _, a_crossing_point := f15, fd_crossing_point := _, a__law_source := f16, fd__law_source := _, a__law_any := f17, fd__law_any := _, a__law_of := f18, fd__law_of := _, a__law_common := f19, fd__law_common := _, a__law_low := f20, fd__law_low := _, a__law_same := f21, fd__law_same := _, a__law_spot := f22, fd__law_spot := _, a__law_point := f23, fd__law_point := _, a__law_cross := f24, fd__law_cross := _, a__law_sign := f25, fd__law_sign := _, a__law_on := f26, fd__law_on := _, a__law_parts := f27, fd__law_parts := _, a__law_spots := f28, fd__law_spots := _, a__law_point_due := f29, fd__law_point_due := _, a__law_whole_right := f30, fd__law_whole_right := _, a_law := fa, fd_law := _, c_InvalidSize := C_InvalidSize, i_InvalidSize := I_InvalidSize } := {
    d_fraction := ⟨F0, PySem.W.mg_of X G a0, k0⟩
    b_fraction := F0.binds fun _ _ _ _ _ _  us hl => match us, hl with | [_, _], _ => rfl
    d_whole := ⟨F1, PySem.W.mg_of X G a1, k1⟩
    b_whole := F1.binds fun _ _ _ _ _ _  us hl => match us, hl with | [_], _ => rfl
    d_plus := ⟨F2, PySem.W.mg_of X G a2, k2⟩
    b_plus := F2.binds fun _ _ _ _ _ _  us hl => match us, hl with | [_, _], _ => rfl
    d_minus := ⟨F3, PySem.W.mg_of X G a3, k3⟩
    b_minus := F3.binds fun _ _ _ _ _ _  us hl => match us, hl with | [_, _], _ => rfl
    d_times := ⟨F4, PySem.W.mg_of X G a4, k4⟩
    b_times := F4.binds fun _ _ _ _ _ _  us hl => match us, hl with | [_, _], _ => rfl
    d_negative := ⟨F5, PySem.W.mg_of X G a5, k5⟩
    b_negative := F5.binds fun _ _ _ _ _ _  us hl => match us, hl with | [_], _ => rfl
    d_sign_of := ⟨F6, PySem.W.mg_of X G a6, k6⟩
    b_sign_of := F6.binds fun _ _ _ _ _ _  us hl => match us, hl with | [_], _ => rfl
    d_on_grid := ⟨F7, PySem.W.mg_of X G a7, k7⟩
    b_on_grid := F7.binds fun _ _ _ _ _ _  us hl => match us, hl with | [_], _ => rfl
    d_moved := ⟨F8, PySem.W.mg_of X G a8, k8⟩
    b_moved := F8.binds fun _ _ _ _ _ _  us hl => match us, hl with | [_, _, _], _ => rfl
    d_whole_area := ⟨F9, PySem.W.mg_of X G a9, k9⟩
    b_whole_area := F9.binds fun _ _ _ _ _ _  us hl => match us, hl with | [_, _, _], _ => rfl
    k_whole_area_c_b_a := fun s us _ hl => match us, hl with | [_, _, _], _ => .of_eq rfl
    d_whole_turn := ⟨F10, PySem.W.mg_of X G a10, k10⟩
    b_whole_turn := F10.binds fun _ _ _ _ _ _  us hl => match us, hl with | [_, _, _], _ => rfl
    k_whole_turn_c_b_a := fun s us _ hl => match us, hl with | [_, _, _], _ => .of_eq rfl
    d_whole_on := ⟨F11, PySem.W.mg_of X G a11, k11⟩
    b_whole_on := F11.binds fun _ _ _ _ _ _  us hl => match us, hl with | [_, _, _], _ => rfl
    k_whole_on_p_b_a := fun s us _ hl => match us, hl with | [_, _, _], _ => .of_eq rfl
    d_on_segment := ⟨F12, PySem.W.mg_of X G a12, k12⟩
    b_on_segment := F12.binds fun _ _ _ _ _ _  us hl => match us, hl with | [_, _, _], _ => rfl
    k_on_segment_p_b_a := fun s us _ hl => match us, hl with | [_, _, _], _ => .of_eq rfl
    d_whole_crosses := ⟨F13, PySem.W.mg_of X G a13, k13⟩
    b_whole_crosses := F13.binds fun _ _ _ _ _ _  us hl => match us, hl with | [_, _, _, _], _ => rfl
    k_whole_crosses_d_c_b_a := fun s us _ hl => match us, hl with | [_, _, _, _], _ => .of_eq rfl
    d_crosses := ⟨F14, PySem.W.mg_of X G a14, k14⟩
    b_crosses := F14.binds fun _ _ _ _ _ _  us hl => match us, hl with | [_, _, _, _], _ => rfl
    k_crosses_d_c_b_a := fun s us _ hl => match us, hl with | [_, _, _, _], _ => .of_eq rfl
    d_crossing_point := ⟨F15, PySem.W.mg_of X G a15, k15⟩
    b_crossing_point := F15.binds fun _ _ _ _ _ _  us hl => match us, hl with | [_, _, _, _], _ => rfl
    k_crossing_point_d_c_b_a := fun s us _ hl => match us, hl with | [_, _, _, _], _ => .of_eq rfl
    d__law_source := ⟨F16, PySem.W.mg_of X G a16, k16⟩
    b__law_source := F16.binds fun _ _ _ _ _ _  us hl => match us, hl with | [_], _ => rfl
    d__law_any := ⟨F17, PySem.W.mg_of X G a17, k17⟩
    b__law_any := F17.binds fun _ _ _ _ _ _  us hl => match us, hl with | [_, _], _ => rfl
    d__law_of := ⟨F18, PySem.W.mg_of X G a18, k18⟩
    b__law_of := F18.binds fun _ _ _ _ _ _  us hl => match us, hl with | [_, _], _ => rfl
    d__law_common := ⟨F19, PySem.W.mg_of X G a19, k19⟩
    b__law_common := F19.binds fun _ _ _ _ _ _  us hl => match us, hl with | [_, _], _ => rfl
    d__law_low := ⟨F20, PySem.W.mg_of X G a20, k20⟩
    b__law_low := F20.binds fun _ _ _ _ _ _  us hl => match us, hl with | [_, _], _ => rfl
    d__law_same := ⟨F21, PySem.W.mg_of X G a21, k21⟩
    b__law_same := F21.binds fun _ _ _ _ _ _  us hl => match us, hl with | [_, _], _ => rfl
    d__law_spot := ⟨F22, PySem.W.mg_of X G a22, k22⟩
    b__law_spot := F22.binds fun _ _ _ _ _ _  us hl => match us, hl with | [_, _], _ => rfl
    d__law_point := ⟨F23, PySem.W.mg_of X G a23, k23⟩
    b__law_point := F23.binds fun _ _ _ _ _ _  us hl => match us, hl with | [_, _], _ => rfl
    d__law_cross := ⟨F24, PySem.W.mg_of X G a24, k24⟩
    b__law_cross := F24.binds fun _ _ _ _ _ _  us hl => match us, hl with | [_, _, _], _ => rfl
    d__law_sign := ⟨F25, PySem.W.mg_of X G a25, k25⟩
    b__law_sign := F25.binds fun _ _ _ _ _ _  us hl => match us, hl with | [_], _ => rfl
    d__law_on := ⟨F26, PySem.W.mg_of X G a26, k26⟩
    b__law_on := F26.binds fun _ _ _ _ _ _  us hl => match us, hl with | [_, _, _], _ => rfl
    d__law_parts := ⟨F27, PySem.W.mg_of X G a27, k27⟩
    b__law_parts := F27.binds fun _ _ _ _ _ _  us hl => match us, hl with | [_, _, _, _], _ => rfl
    d__law_spots := ⟨F28, PySem.W.mg_of X G a28, k28⟩
    b__law_spots := F28.binds fun _ _ _ _ _ _  us hl => match us, hl with | [_], _ => rfl
    d__law_point_due := ⟨F29, PySem.W.mg_of X G a29, k29⟩
    b__law_point_due := F29.binds fun _ _ _ _ _ _  us hl => match us, hl with | [_, _, _, _], _ => rfl
    d__law_whole_right := ⟨F30, PySem.W.mg_of X G a30, k30⟩
    b__law_whole_right := F30.binds fun _ _ _ _ _ _  us hl => match us, hl with | [_, _, _, _, _], _ => rfl
    d_law := ⟨F31, PySem.W.mg_of X G a31, k31⟩
    b_law := F31.binds fun _ _ _ _ _ _  us hl => match us, hl with | [_], _ => rfl
    n_abs := PySem.W.mg_none_of X G z_abs
    m_gcd := PySem.W.mg_of X G m_gcd
    n_int := PySem.W.mg_none_of X G z_int
    m_lcm := PySem.W.mg_of X G m_lcm
    n_len := PySem.W.mg_none_of X G z_len
    n_max := PySem.W.mg_none_of X G z_max
    n_min := PySem.W.mg_none_of X G z_min
    n_range := PySem.W.mg_none_of X G z_range
    n_repr := PySem.W.mg_none_of X G z_repr
    g_InvalidSize := PySem.W.mg_of X G g_InvalidSize
    x_InvalidSize := XOwn.mk' X_InvalidSize xs_InvalidSize xn_InvalidSize xi_InvalidSize xu_InvalidSize ⟨_, _, _, _, _, _, _, _, _, _, _, _, _, _, xf_InvalidSize, xc_InvalidSize⟩ xbind_word (by decide) (by decide) }
  exact ⟨PySem.W.fnOf "law" "law" (defArgs s_law) (defBody s_law) (defScope s_law) .none kV31 dc31 pm31 an31 cd31 ct31, fun s v => .of_eq rfl, fun base _ _ => g_law T⟩
end LW

open PySem PySem.W PyProof.Rows
set_option maxRecDepth 100000 in
set_option maxHeartbeats 0 in
theorem PySem.Challenge.cw_leastfield_k08_whole_segments_and_crossi_holds : PySem.Challenge.rw_leastfield_k08_whole_segments_and_crossi.Holds := by
  w_on; o_law; k_head; (case hw => w_witness2)
  k_fill
  refine V2.walkG (l := PySem.Challenge.rw_leastfield_k08_whole_segments_and_crossi) (k := 5) (n := 63) (x := "_law_script") (F := LW.M_law) rfl (by decide) rfl ⟨rfl, by decide, by decide⟩ (fun w h Y => PySem.W.kIn_of Y) ?F (fun ns hl hb => LW.says ns hl hb)
  case F =>
    intro w mg fa h KX G hmg
    refine' LW.all_mk KX G hmg ?a0 ?l0 ?c0 ?k0 ?a1 ?l1 ?c1 ?k1 ?a2 ?l2 ?c2 ?k2 ?a3 ?l3 ?c3 ?k3 ?a4 ?l4 ?c4 ?k4 ?a5 ?l5 ?c5 ?k5 ?a6 ?l6 ?c6 ?k6 ?a7 ?l7 ?c7 ?k7 ?a8 ?l8 ?c8 ?k8 ?a9 ?l9 ?c9 ?k9 ?a10 ?l10 ?c10 ?k10 ?a11 ?l11 ?c11 ?k11 ?a12 ?l12 ?c12 ?k12 ?a13 ?l13 ?c13 ?k13 ?a14 ?l14 ?c14 ?k14 ?a15 ?l15 ?c15 ?k15 ?a16 ?l16 ?c16 ?k16 ?a17 ?l17 ?c17 ?k17 ?a18 ?l18 ?c18 ?k18 ?a19 ?l19 ?c19 ?k19 ?a20 ?l20 ?c20 ?k20 ?a21 ?l21 ?c21 ?k21 ?a22 ?l22 ?c22 ?k22 ?a23 ?l23 ?c23 ?k23 ?a24 ?l24 ?c24 ?k24 ?a25 ?l25 ?c25 ?k25 ?a26 ?l26 ?c26 ?k26 ?a27 ?l27 ?c27 ?k27 ?a28 ?l28 ?c28 ?k28 ?a29 ?l29 ?c29 ?k29 ?a30 ?l30 ?c30 ?k30 ?a31 ?l31 ?c31 ?k31 ?z_abs ?m_gcd ?z_int ?m_lcm ?z_len ?z_max ?z_min ?z_range ?z_repr ?g_InvalidSize ?xl_InvalidSize ?xr_InvalidSize ?xk_InvalidSize ?xe_InvalidSize ?xt_InvalidSize ?xh_InvalidSize ?xs_InvalidSize ?xn_InvalidSize ?xi_InvalidSize ?xu_InvalidSize ?xf_InvalidSize ?xc_InvalidSize
    (case a0 => first | k_is | rfl)
    (case l0 => first | k_is | rfl)
    (case c0 => first | k_is | rfl)
    (case k0 => first | k_is | rfl)
    (case a1 => first | k_is | rfl)
    (case l1 => first | k_is | rfl)
    (case c1 => first | k_is | rfl)
    (case k1 => first | k_is | rfl)
    (case a2 => first | k_is | rfl)
    (case l2 => first | k_is | rfl)
    (case c2 => first | k_is | rfl)
    (case k2 => first | k_is | rfl)
    (case a3 => first | k_is | rfl)
    (case l3 => first | k_is | rfl)
    (case c3 => first | k_is | rfl)
    (case k3 => first | k_is | rfl)
    (case a4 => first | k_is | rfl)
    (case l4 => first | k_is | rfl)
    (case c4 => first | k_is | rfl)
    (case k4 => first | k_is | rfl)
    (case a5 => first | k_is | rfl)
    (case l5 => first | k_is | rfl)
    (case c5 => first | k_is | rfl)
    (case k5 => first | k_is | rfl)
    (case a6 => first | k_is | rfl)
    (case l6 => first | k_is | rfl)
    (case c6 => first | k_is | rfl)
    (case k6 => first | k_is | rfl)
    (case a7 => first | k_is | rfl)
    (case l7 => first | k_is | rfl)
    (case c7 => first | k_is | rfl)
    (case k7 => first | k_is | rfl)
    (case a8 => first | k_is | rfl)
    (case l8 => first | k_is | rfl)
    (case c8 => first | k_is | rfl)
    (case k8 => first | k_is | rfl)
    (case a9 => first | k_is | rfl)
    (case l9 => first | k_is | rfl)
    (case c9 => first | k_is | rfl)
    (case k9 => first | k_is | rfl)
    (case a10 => first | k_is | rfl)
    (case l10 => first | k_is | rfl)
    (case c10 => first | k_is | rfl)
    (case k10 => first | k_is | rfl)
    (case a11 => first | k_is | rfl)
    (case l11 => first | k_is | rfl)
    (case c11 => first | k_is | rfl)
    (case k11 => first | k_is | rfl)
    (case a12 => first | k_is | rfl)
    (case l12 => first | k_is | rfl)
    (case c12 => first | k_is | rfl)
    (case k12 => first | k_is | rfl)
    (case a13 => first | k_is | rfl)
    (case l13 => first | k_is | rfl)
    (case c13 => first | k_is | rfl)
    (case k13 => first | k_is | rfl)
    (case a14 => first | k_is | rfl)
    (case l14 => first | k_is | rfl)
    (case c14 => first | k_is | rfl)
    (case k14 => first | k_is | rfl)
    (case a15 => first | k_is | rfl)
    (case l15 => first | k_is | rfl)
    (case c15 => first | k_is | rfl)
    (case k15 => first | k_is | rfl)
    (case a16 => first | k_is | rfl)
    (case l16 => first | k_is | rfl)
    (case c16 => first | k_is | rfl)
    (case k16 => first | k_is | rfl)
    (case a17 => first | k_is | rfl)
    (case l17 => first | k_is | rfl)
    (case c17 => first | k_is | rfl)
    (case k17 => first | k_is | rfl)
    (case a18 => first | k_is | rfl)
    (case l18 => first | k_is | rfl)
    (case c18 => first | k_is | rfl)
    (case k18 => first | k_is | rfl)
    (case a19 => first | k_is | rfl)
    (case l19 => first | k_is | rfl)
    (case c19 => first | k_is | rfl)
    (case k19 => first | k_is | rfl)
    (case a20 => first | k_is | rfl)
    (case l20 => first | k_is | rfl)
    (case c20 => first | k_is | rfl)
    (case k20 => first | k_is | rfl)
    (case a21 => first | k_is | rfl)
    (case l21 => first | k_is | rfl)
    (case c21 => first | k_is | rfl)
    (case k21 => first | k_is | rfl)
    (case a22 => first | k_is | rfl)
    (case l22 => first | k_is | rfl)
    (case c22 => first | k_is | rfl)
    (case k22 => first | k_is | rfl)
    (case a23 => first | k_is | rfl)
    (case l23 => first | k_is | rfl)
    (case c23 => first | k_is | rfl)
    (case k23 => first | k_is | rfl)
    (case a24 => first | k_is | rfl)
    (case l24 => first | k_is | rfl)
    (case c24 => first | k_is | rfl)
    (case k24 => first | k_is | rfl)
    (case a25 => first | k_is | rfl)
    (case l25 => first | k_is | rfl)
    (case c25 => first | k_is | rfl)
    (case k25 => first | k_is | rfl)
    (case a26 => first | k_is | rfl)
    (case l26 => first | k_is | rfl)
    (case c26 => first | k_is | rfl)
    (case k26 => first | k_is | rfl)
    (case a27 => first | k_is | rfl)
    (case l27 => first | k_is | rfl)
    (case c27 => first | k_is | rfl)
    (case k27 => first | k_is | rfl)
    (case a28 => first | k_is | rfl)
    (case l28 => first | k_is | rfl)
    (case c28 => first | k_is | rfl)
    (case k28 => first | k_is | rfl)
    (case a29 => first | k_is | rfl)
    (case l29 => first | k_is | rfl)
    (case c29 => first | k_is | rfl)
    (case k29 => first | k_is | rfl)
    (case a30 => first | k_is | rfl)
    (case l30 => first | k_is | rfl)
    (case c30 => first | k_is | rfl)
    (case k30 => first | k_is | rfl)
    (case a31 => first | k_is | rfl)
    (case l31 => first | k_is | rfl)
    (case c31 => first | k_is | rfl)
    (case k31 => first | k_is | rfl)
    (case z_abs => first | k_is | rfl)
    (case m_gcd => first | k_is | rfl)
    (case z_int => first | k_is | rfl)
    (case m_lcm => first | k_is | rfl)
    (case z_len => first | k_is | rfl)
    (case z_max => first | k_is | rfl)
    (case z_min => first | k_is | rfl)
    (case z_range => first | k_is | rfl)
    (case z_repr => first | k_is | rfl)
    (case g_InvalidSize => first | k_is | rfl)
    (case xl_InvalidSize => first | k_is | rfl)
    (case xr_InvalidSize => repeat constructor)
    (case xk_InvalidSize => first | k_is | rfl)
    (case xe_InvalidSize => first | k_is | rfl)
    (case xt_InvalidSize => first | k_is | rfl)
    (case xh_InvalidSize => first | k_is | rfl)
    (case xs_InvalidSize => first | k_is | rfl)
    (case xn_InvalidSize => first | k_is | rfl)
    (case xi_InvalidSize => first | k_is | rfl)
    (case xu_InvalidSize => first | k_is | rfl)
    (case xf_InvalidSize => first | k_is | rfl)
    (case xc_InvalidSize => first | k_is | rfl)
#print axioms PySem.Challenge.cw_leastfield_k08_whole_segments_and_crossi_holds
