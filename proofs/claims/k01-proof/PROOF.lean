import PyProof.Rows.All
import Wide.All
import OpenK.AllK
import Wide.FinOn
import HandS.ForMost
import HandS.ForExc
import HandS.Wide
import HandS.WideMore
import HandS.Gcd
import HandS.Style
import HandS.CallSlots
import HandS.IsInst
import HandS.Flow
import HandS.ExcField
import HandS.Defaults
import HandS.Small
import HandS.RaiseMore
import HandS.TupAny
import HandS.Zip
import HandS.Rev
import HandS.RevRange
import HandS.NoneIn
import HandS.TryOnly
import HandS.ExcIs
import KE.KExcIs
import HandS.EndBits
import PyProof.ReprBulk
import PyProof.P3Eq
import KE.GoesEnum
import HandS.StrMore
import HandS.FStr
import HandS.Codes
import PySem.Challenge.RW_leastfield_k01_any_values_as_fractions_a
set_option Elab.async false
set_option linter.all false
set_option maxRecDepth 100000
set_option maxHeartbeats 4000000
/-! ## Data without addresses over the hand layer -/
namespace V2
open PySem PySem.Spec PyProof.Rows L2
open PySem.W (Frag)

/-- a value: data (never changed), or a place of the store -/
inductive D where
  | d (p : PyData)
  | loc (n : Nat)
/-- the store: lists that may be changed -/
inductive O where
  | lst (xs : List D)
abbrev Ho := List O
abbrev En := List (Option D)
/-- an exception: its class by name, its one field (if its class has an __init__) -/
structure Ex where
  cls : Str
  fld : Option (Str × D)

/-! ### what they stand for -/
def TupR (K : Frag) (as : List Addr) (H : Hp) (a : Addr) (xs : List V) : Prop :=
  (Rd H a (.tup xs) ∧ a ∉ as) ∨
    ∃ (o : Obj) (its : Array Value) (n : Nat), K.lookup a = some o ∧ o.cls = .type "tuple" ∧ o.data = .seq its n ∧ its.size ≤ sizeLine ∧ Vals xs its.toList
def LstR (K : Frag) (as : List Addr) (H : Hp) (a : Addr) (xs : List V) : Prop :=
  (Rd H a (.lst xs) ∧ a ∉ as) ∨
    ∃ (o : Obj) (its : Array Value) (n : Nat), K.lookup a = some o ∧ o.cls = .type "list" ∧ o.dict = none ∧ o.data = .seq its n ∧ its.size ≤ sizeLine ∧ Vals xs its.toList
theorem TupR.sq {K : Frag} {as : List Addr} {H : Hp} {a : Addr} {xs : List V} (h : TupR K as H a xs) : SqT K H a xs := h.elim (fun z => .inl z.1) .inr
theorem LstR.sq {K : Frag} {as : List Addr} {H : Hp} {a : Addr} {xs : List V} (h : LstR K as H a xs) : SqL K H a xs := h.elim (fun z => .inl z.1) .inr

mutual
inductive Dv (K : Frag) (as : List Addr) (H : Hp) : V → PyData → Prop
  | non : Dv K as H .non .none
  | bl (b : Bool) : Dv K as H (.bl b) (.bool b)
  | int (i : Int) : Dv K as H (.int i) (.int i)
  | str (x : Str) : Dv K as H (.str x) (.str x)
  | lst {a : Addr} {xs : List V} {ds : List PyData} : LstR K as H a xs → DvAll K as H xs ds → Dv K as H (.ref a) (.list ds)
  | tup {a : Addr} {xs : List V} {ds : List PyData} : TupR K as H a xs → DvAll K as H xs ds → Dv K as H (.ref a) (.tuple ds)
inductive DvAll (K : Frag) (as : List Addr) (H : Hp) : List V → List PyData → Prop
  | nil : DvAll K as H [] []
  | cons {v : V} {vs : List V} {d : PyData} {ds : List PyData} : Dv K as H v d → DvAll K as H vs ds → DvAll K as H (v :: vs) (d :: ds)
end

/-- behind: more places; what is no place stands as it stood -/
structure Later (as : List Addr) (H : Hp) (as' : List Addr) (H' : Hp) : Prop where
  more : ∃ l, as' = as ++ l
  keep : ∀ p o, H p = some o → p ∉ as → H' p = some o ∧ p ∉ as'
theorem Later.refl (as : List Addr) (H : Hp) : Later as H as H := ⟨⟨[], by simp⟩, fun p o h n => ⟨h, n⟩⟩
theorem Later.trans {as as1 as2 : List Addr} {H H1 H2 : Hp} (a : Later as H as1 H1) (b : Later as1 H1 as2 H2) : Later as H as2 H2 := by
  refine ⟨?_, fun p o h n => ?_⟩
  · obtain ⟨l, rfl⟩ := a.more
    obtain ⟨m, rfl⟩ := b.more
    exact ⟨l ++ m, by simp⟩
  · obtain ⟨h1, n1⟩ := a.keep p o h n
    exact b.keep p o h1 n1
/-- a new thing that is no place -/
theorem Later.new {as : List Addr} {H : Hp} {p : Addr} (o : HO) (hp : H p = none) : Later as H as (upd H p o) :=
  ⟨⟨[], by simp⟩, fun q u h n => ⟨by rw [upd_ne (ne_of_none h hp)]; exact h, n⟩⟩
/-- a new place -/
theorem Later.place {as : List Addr} {H : Hp} {p : Addr} (o : HO) (hp : H p = none) : Later as H (as ++ [p]) (upd H p o) :=
  ⟨⟨[p], rfl⟩, fun q u h n => ⟨by rw [upd_ne (ne_of_none h hp)]; exact h, by
    have := ne_of_none h hp
    simp [n, this]⟩⟩
/-- a place is written -/
theorem Later.write {as : List Addr} {H : Hp} {p : Addr} (o : HO) (hp : p ∈ as) : Later as H as (upd H p o) :=
  ⟨⟨[], by simp⟩, fun q u h n => ⟨by rw [upd_ne (fun e => n (by rw [e]; exact hp))]; exact h, n⟩⟩
theorem Later.at {as as1 : List Addr} {H H1 : Hp} (l : Later as H as1 H1) {n : Nat} {a : Addr} (h : as[n]? = some a) : as1[n]? = some a := by
  obtain ⟨m, rfl⟩ := l.more
  rw [List.getElem?_append_left (List.getElem?_eq_some_iff.mp h).1]
  exact h

section
variable {K : Frag} {as as1 : List Addr} {H H1 : Hp}
theorem TupR.later (l : Later as H as1 H1) {a : Addr} {xs : List V} (h : TupR K as H a xs) : TupR K as1 H1 a xs := by
  rcases h with ⟨h | ⟨o, h⟩, n⟩ | h
  · obtain ⟨q, m⟩ := l.keep _ _ h n
    exact .inl ⟨.inl q, m⟩
  · obtain ⟨q, m⟩ := l.keep _ _ h n
    exact .inl ⟨.inr ⟨o, q⟩, m⟩
  · exact .inr h
theorem LstR.later (l : Later as H as1 H1) {a : Addr} {xs : List V} (h : LstR K as H a xs) : LstR K as1 H1 a xs := by
  rcases h with ⟨h | ⟨o, h⟩, n⟩ | h
  · obtain ⟨q, m⟩ := l.keep _ _ h n
    exact .inl ⟨.inl q, m⟩
  · obtain ⟨q, m⟩ := l.keep _ _ h n
    exact .inl ⟨.inr ⟨o, q⟩, m⟩
  · exact .inr h
mutual
theorem Dv.later (l : Later as H as1 H1) : ∀ {p : PyData} {v : V}, Dv K as H v p → Dv K as1 H1 v p
  | .none, _, h => by cases h; exact .non
  | .bool b, _, h => by cases h; exact .bl b
  | .int i, _, h => by cases h; exact .int i
  | .str x, _, h => by cases h; exact .str x
  | .list ds, _, h => by
    cases h with
    | lst hs ha => exact .lst (hs.later l) (DvAll.later l ha)
  | .tuple ds, _, h => by
    cases h with
    | tup hs ha => exact .tup (hs.later l) (DvAll.later l ha)
  | .dict _, _, h => by cases h
theorem DvAll.later (l : Later as H as1 H1) : ∀ {ps : List PyData} {vs : List V}, DvAll K as H vs ps → DvAll K as1 H1 vs ps
  | [], _, h => by cases h; exact .nil
  | d :: ds, _, h => by
    cases h with
    | cons h1 h2 => exact .cons (Dv.later l h1) (DvAll.later l h2)
end
mutual
theorem Dv.dp : ∀ {p : PyData} {v : V}, Dv K as H v p → Dp K H v p
  | .none, _, h => by cases h; exact .non
  | .bool b, _, h => by cases h; exact .bl b
  | .int i, _, h => by cases h; exact .int i
  | .str x, _, h => by cases h; exact .str x
  | .list ds, _, h => by
    cases h with
    | lst hs ha => exact .lst hs.sq (DvAll.dp ha)
  | .tuple ds, _, h => by
    cases h with
    | tup hs ha => exact .tup hs.sq (DvAll.dp ha)
  | .dict _, _, h => by cases h
theorem DvAll.dp : ∀ {ps : List PyData} {vs : List V}, DvAll K as H vs ps → DpAll K H vs ps
  | [], _, h => by cases h; exact .nil
  | d :: ds, _, h => by
    cases h with
    | cons h1 h2 => exact .cons (Dv.dp h1) (DvAll.dp h2)
end
theorem DvAll.length : ∀ {vs : List V} {ps : List PyData}, DvAll K as H vs ps → vs.length = ps.length
  | _, _, .nil => rfl
  | _, _, .cons _ h => by rw [List.length_cons, List.length_cons, DvAll.length h]
theorem DvAll.get : ∀ {vs : List V} {ps : List PyData} {i : Nat} {p : PyData}, DvAll K as H vs ps → ps[i]? = some p → ∃ v, vs[i]? = some v ∧ Dv K as H v p
  | _, _, _, _, .nil, e => by simp at e
  | _, _, 0, p, .cons r _, e => by simp at e; subst e; exact ⟨_, rfl, r⟩
  | _, _, i + 1, p, .cons _ t, e => by
    obtain ⟨v, h1, h2⟩ := DvAll.get (i := i) t (by simpa using e)
    exact ⟨v, by simpa using h1, h2⟩
theorem DvAll.append : ∀ {vs ws : List V} {ps qs : List PyData}, DvAll K as H vs ps → DvAll K as H ws qs → DvAll K as H (vs ++ ws) (ps ++ qs)
  | _, _, _, _, .nil, h => h
  | _, _, _, _, .cons r t, h => .cons r (DvAll.append t h)
theorem DvAll.take : ∀ {vs : List V} {ps : List PyData} (n : Nat), DvAll K as H vs ps → DvAll K as H (vs.take n) (ps.take n)
  | _, _, 0, _ => .nil
  | _, _, n + 1, .nil => .nil
  | _, _, n + 1, .cons r t => .cons r (DvAll.take n t)
theorem DvAll.drop : ∀ {vs : List V} {ps : List PyData} (n : Nat), DvAll K as H vs ps → DvAll K as H (vs.drop n) (ps.drop n)
  | _, _, 0, h => h
  | _, _, n + 1, .nil => .nil
  | _, _, n + 1, .cons r t => DvAll.drop n t
theorem DvAll.reverse : ∀ {vs : List V} {ps : List PyData}, DvAll K as H vs ps → DvAll K as H vs.reverse ps.reverse
  | _, _, .nil => .nil
  | _, _, .cons r t => by
    rw [List.reverse_cons, List.reverse_cons]
    exact (DvAll.reverse t).append (.cons r .nil)
theorem DvAll.ints : ∀ (ns : List Int), DvAll K as H (ns.map V.int) (ns.map PyData.int)
  | [] => .nil
  | n :: ns => .cons (.int n) (DvAll.ints ns)
theorem DvAll.ints_inv : ∀ {vs : List V} {ns : List Int}, DvAll K as H vs (ns.map PyData.int) → vs = ns.map V.int
  | _, [], h => by cases h; rfl
  | _, n :: ns, h => by
    cases h with
    | cons h1 h2 =>
      cases h1
      rw [List.map_cons, DvAll.ints_inv h2]

/-- a value -/
inductive Rel (K : Frag) (as : List Addr) (H : Hp) : V → D → Prop
  | d {v : V} {p : PyData} : Dv K as H v p → Rel K as H v (.d p)
  | loc {a : Addr} {n : Nat} : as[n]? = some a → Rel K as H (.ref a) (.loc n)
theorem Rel.later (l : Later as H as1 H1) {v : V} {x : D} (h : Rel K as H v x) : Rel K as1 H1 v x := by
  cases h with
  | d h => exact .d (h.later l)
  | loc h => exact .loc (l.at h)
inductive RelAll (K : Frag) (as : List Addr) (H : Hp) : List V → List D → Prop
  | nil : RelAll K as H [] []
  | cons {v : V} {vs : List V} {d : D} {ds : List D} : Rel K as H v d → RelAll K as H vs ds → RelAll K as H (v :: vs) (d :: ds)
theorem RelAll.later (l : Later as H as1 H1) : ∀ {vs : List V} {xs : List D}, RelAll K as H vs xs → RelAll K as1 H1 vs xs
  | _, _, .nil => .nil
  | _, _, .cons r t => .cons (r.later l) (RelAll.later l t)
theorem RelAll.length : ∀ {vs : List V} {xs : List D}, RelAll K as H vs xs → vs.length = xs.length
  | _, _, .nil => rfl
  | _, _, .cons _ h => by rw [List.length_cons, List.length_cons, RelAll.length h]
theorem RelAll.get : ∀ {vs : List V} {xs : List D} {i : Nat} {x : D}, RelAll K as H vs xs → xs[i]? = some x → ∃ v, vs[i]? = some v ∧ Rel K as H v x
  | _, _, _, _, .nil, e => by simp at e
  | _, _, 0, p, .cons r _, e => by simp at e; subst e; exact ⟨_, rfl, r⟩
  | _, _, i + 1, p, .cons _ t, e => by
    obtain ⟨v, h1, h2⟩ := RelAll.get (i := i) t (by simpa using e)
    exact ⟨v, by simpa using h1, h2⟩
theorem RelAll.append : ∀ {vs ws : List V} {ps qs : List D}, RelAll K as H vs ps → RelAll K as H ws qs → RelAll K as H (vs ++ ws) (ps ++ qs)
  | _, _, _, _, .nil, h => h
  | _, _, _, _, .cons r t, h => .cons r (RelAll.append t h)
theorem RelAll.take : ∀ {vs : List V} {ps : List D} (n : Nat), RelAll K as H vs ps → RelAll K as H (vs.take n) (ps.take n)
  | _, _, 0, _ => .nil
  | _, _, n + 1, .nil => .nil
  | _, _, n + 1, .cons r t => .cons r (RelAll.take n t)
theorem RelAll.drop : ∀ {vs : List V} {ps : List D} (n : Nat), RelAll K as H vs ps → RelAll K as H (vs.drop n) (ps.drop n)
  | _, _, 0, h => h
  | _, _, n + 1, .nil => .nil
  | _, _, n + 1, .cons r t => RelAll.drop n t
theorem RelAll.set : ∀ {vs : List V} {xs : List D} (i : Nat) {v : V} {x : D}, Rel K as H v x → RelAll K as H vs xs → RelAll K as H (vs.set i v) (xs.set i x)
  | _, _, _, _, _, _, .nil => .nil
  | _, _, 0, _, _, r, .cons _ t => .cons r t
  | _, _, i + 1, _, _, r, .cons q t => .cons q (RelAll.set i r t)
theorem RelAll.dropLast {vs : List V} {xs : List D} (h : RelAll K as H vs xs) : RelAll K as H vs.dropLast xs.dropLast := by
  rw [List.dropLast_eq_take, List.dropLast_eq_take, h.length]
  exact h.take _
theorem RelAll.reverse : ∀ {vs : List V} {ps : List D}, RelAll K as H vs ps → RelAll K as H vs.reverse ps.reverse
  | _, _, .nil => .nil
  | _, _, .cons r t => by
    rw [List.reverse_cons, List.reverse_cons]
    exact (RelAll.reverse t).append (.cons r .nil)
theorem DvAll.rel : ∀ {vs : List V} {ps : List PyData}, DvAll K as H vs ps → RelAll K as H vs (ps.map D.d)
  | _, _, .nil => .nil
  | _, _, .cons r t => .cons (.d r) (DvAll.rel t)
/-- all are data -/
def allD : List D → Option (List PyData)
  | [] => some []
  | .d p :: xs => (allD xs).map (p :: ·)
  | .loc _ :: _ => none
theorem allD_map : ∀ ps : List PyData, allD (ps.map D.d) = some ps
  | [] => rfl
  | p :: ps => by simp [allD, allD_map ps]
theorem allD_some : ∀ {xs : List D} {ps : List PyData}, allD xs = some ps → xs = ps.map D.d
  | [], ps, h => by simp [allD] at h; subst h; rfl
  | .d p :: xs, ps, h => by
    simp only [allD, Option.map_eq_some_iff] at h
    obtain ⟨q, h1, rfl⟩ := h
    rw [allD_some h1]
    rfl
  | .loc _ :: _, ps, h => by simp [allD] at h
theorem RelAll.data : ∀ {vs : List V} {ps : List PyData}, RelAll K as H vs (ps.map D.d) → DvAll K as H vs ps
  | _, [], h => by cases h; exact .nil
  | _, p :: ps, h => by
    cases h with
    | cons h1 h2 =>
      cases h1 with
      | d h1 => exact .cons h1 (RelAll.data h2)
theorem RelAll.ofAllD {vs : List V} {xs : List D} {ps : List PyData} (h : RelAll K as H vs xs) (e : allD xs = some ps) : DvAll K as H vs ps := by
  rw [allD_some e] at h
  exact h.data

/-- the store -/
def ObR (K : Frag) (as : List Addr) (H : Hp) (a : Addr) : O → Prop
  | .lst xs => ∃ vs, H a = some (.lst vs) ∧ RelAll K as H vs xs
structure HeapR (K : Frag) (as : List Addr) (H : Hp) (h : Ho) : Prop where
  len : as.length = h.length
  nd : as.Nodup
  ob : ∀ (i : Nat) (o : O) (a : Addr), h[i]? = some o → as[i]? = some a → ObR K as H a o
theorem ObR.later (l : Later as H as1 H1) {a : Addr} {o : O} (e : H1 a = H a) (h : ObR K as H a o) : ObR K as1 H1 a o := by
  cases o with
  | lst xs =>
    obtain ⟨vs, h1, h2⟩ := h
    exact ⟨vs, e.trans h1, h2.later l⟩
theorem ObR.there {a : Addr} {o : O} (h : ObR K as H a o) : ∃ u, H a = some u := by
  cases o with
  | lst xs =>
    obtain ⟨vs, h1, _⟩ := h
    exact ⟨_, h1⟩
theorem HeapR.at {h : Ho} (r : HeapR K as H h) {n : Nat} {o : O} (e : h[n]? = some o) : ∃ a, as[n]? = some a ∧ ObR K as H a o := by
  have hn : n < as.length := by
    rw [r.len]
    exact (List.getElem?_eq_some_iff.mp e).1
  exact ⟨as[n], List.getElem?_eq_getElem hn, r.ob n o _ e (List.getElem?_eq_getElem hn)⟩
theorem HeapR.there {h : Ho} (r : HeapR K as H h) {a : Addr} (ha : a ∈ as) : ∃ u, H a = some u := by
  obtain ⟨n, hn, e⟩ := List.mem_iff_getElem.mp ha
  have hn' : n < h.length := by rw [← r.len]; exact hn
  exact (r.ob n _ a (List.getElem?_eq_getElem hn') (by rw [List.getElem?_eq_getElem hn, e])).there
/-- a new thing that is no place -/
theorem HeapR.new {h : Ho} (r : HeapR K as H h) {p : Addr} (o : HO) (hp : H p = none) : HeapR K as (upd H p o) h := by
  refine ⟨r.len, r.nd, fun i u a e1 e2 => ?_⟩
  have q := r.ob i u a e1 e2
  obtain ⟨z, hz⟩ := q.there
  exact q.later (Later.new o hp) (upd_ne (ne_of_none hz hp))
/-- a new place -/
theorem HeapR.place {h : Ho} (r : HeapR K as H h) {p : Addr} {vs : List V} {xs : List D} (hp : H p = none) (hv : RelAll K as H vs xs) :
    HeapR K (as ++ [p]) (upd H p (.lst vs)) (h ++ [.lst xs]) ∧ (as ++ [p])[h.length]? = some p := by
  have l : Later as H (as ++ [p]) (upd H p (.lst vs)) := Later.place _ hp
  have hpas : p ∉ as := fun hm => by
    obtain ⟨u, e⟩ := r.there hm
    rw [hp] at e
    cases e
  have at' : (as ++ [p])[h.length]? = Option.some p := by rw [← r.len]; simp
  refine ⟨⟨by simp [r.len], by
    rw [List.nodup_append]
    exact ⟨r.nd, by simp, fun a ha b hb => by
      rw [List.mem_singleton] at hb
      rw [hb]
      exact fun e => hpas (e ▸ ha)⟩, fun i u a e1 e2 => ?_⟩, at'⟩
  by_cases hi : i < h.length
  · rw [List.getElem?_append_left hi] at e1
    rw [List.getElem?_append_left (by rw [r.len]; exact hi)] at e2
    have q := r.ob i u a e1 e2
    obtain ⟨z, hz⟩ := q.there
    exact q.later l (upd_ne (ne_of_none hz hp))
  · have hi' : i = h.length := by
      have := (List.getElem?_eq_some_iff.mp e1).1
      simp at this
      omega
    subst hi'
    simp at e1
    subst e1
    rw [at'] at e2
    cases e2
    exact ⟨vs, upd_same, hv.later l⟩
/-- a place is written -/
theorem HeapR.write {h : Ho} (r : HeapR K as H h) {n : Nat} {a : Addr} {vs : List V} {xs : List D} (ha : as[n]? = some a) (hv : RelAll K as H vs xs) :
    HeapR K as (upd H a (.lst vs)) (h.set n (.lst xs)) := by
  have hm : a ∈ as := List.mem_of_getElem? ha
  have l : Later as H as (upd H a (.lst vs)) := Later.write _ hm
  refine ⟨by rw [List.length_set]; exact r.len, r.nd, fun i u b e1 e2 => ?_⟩
  by_cases hi : n = i
  · subst hi
    have hn : n < h.length := by rw [← r.len]; exact (List.getElem?_eq_some_iff.mp ha).1
    rw [List.getElem?_set_self hn] at e1
    cases e1
    rw [ha] at e2
    cases e2
    exact ⟨vs, upd_same, hv.later l⟩
  · rw [List.getElem?_set_ne hi] at e1
    have ne : b ≠ a := fun e => hi (by
      subst e
      exact nd_ix r.nd ha e2)
    exact (r.ob i u b e1 e2).later l (upd_ne ne)

/-- the frame -/
def EnvR (K : Frag) (as : List Addr) (H : Hp) (ρ : En) (σ : L2.St) : Prop :=
  ρ.length = σ.length ∧ ∀ (i : Nat) (x : D), ρ[i]? = some (some x) → ∃ v, σ[i]? = some (some v) ∧ Rel K as H v x
theorem EnvR.later (l : Later as H as1 H1) {ρ : En} {σ : L2.St} (h : EnvR K as H ρ σ) : EnvR K as1 H1 ρ σ :=
  ⟨h.1, fun i x e => let ⟨v, h1, h2⟩ := h.2 i x e; ⟨v, h1, h2.later l⟩⟩
theorem EnvR.set {ρ : En} {σ : L2.St} (h : EnvR K as H ρ σ) (i : Nat) {v : V} {x : D} (r : Rel K as H v x) : EnvR K as H (ρ.set i (some x)) (σ.set i (some v)) := by
  refine ⟨by rw [List.length_set, List.length_set]; exact h.1, fun j y e => ?_⟩
  by_cases hj : i = j
  · subst hj
    have hl : i < ρ.length := by
      have := (List.getElem?_eq_some_iff.mp e).1
      simpa using this
    rw [List.getElem?_set_self hl] at e
    cases e
    exact ⟨v, by rw [List.getElem?_set_self (by rw [← h.1]; exact hl)], r⟩
  · rw [List.getElem?_set_ne hj] at e
    obtain ⟨w, h1, h2⟩ := h.2 j y e
    exact ⟨w, by rw [List.getElem?_set_ne hj]; exact h1, h2⟩
end
/-- forget slots -/
def wipeD (ρ : En) : List Nat → En
  | [] => ρ
  | v :: vs => (wipeD ρ vs).set v none
theorem EnvR.wipe {K : Frag} {as : List Addr} {H : Hp} {ρ : En} {σ : L2.St} (h : EnvR K as H ρ σ) : ∀ vs : List Nat, EnvR K as H (wipeD ρ vs) (L2.wipe σ vs)
  | [] => h
  | v :: vs => by
    have ih := EnvR.wipe h vs
    refine ⟨by unfold wipeD L2.wipe; rw [List.length_set, List.length_set]; exact ih.1, fun j y e => ?_⟩
    unfold wipeD at e
    unfold L2.wipe
    by_cases hj : v = j
    · subst hj
      by_cases hl : v < (wipeD ρ vs).length
      · rw [List.getElem?_set_self hl] at e; cases e
      · rw [List.getElem?_eq_none (by simpa using hl)] at e; cases e
    · rw [List.getElem?_set_ne hj] at e
      obtain ⟨w, h1, h2⟩ := ih.2 j y e
      exact ⟨w, by rw [List.getElem?_set_ne hj]; exact h1, h2⟩
theorem wipeD_length (ρ : En) : ∀ vs : List Nat, (wipeD ρ vs).length = ρ.length
  | [] => rfl
  | v :: vs => by unfold wipeD; rw [List.length_set, wipeD_length ρ vs]

/-- an exception's class and its own dict -/
def ExR (K : Frag) (mg : Str → Option Value) (as : List Addr) (H : Hp) (cls : Value) (d : Option Addr) (x : Ex) : Prop :=
  ∃ C, mg x.cls = some (.ref C) ∧ cls = .ref C ∧
    match x.fld with
    | none => True
    | some (f, y) => ∃ dd v, d = some dd ∧ dd ∉ as ∧ H dd = some (.xd [(f, v)]) ∧ Rel K as H v y
theorem ExR.later {K : Frag} {mg : Str → Option Value} {as as1 : List Addr} {H H1 : Hp} (l : Later as H as1 H1) {cls : Value} {d : Option Addr} {x : Ex} (h : ExR K mg as H cls d x) : ExR K mg as1 H1 cls d x := by
  obtain ⟨C, h1, h2, h3⟩ := h
  refine ⟨C, h1, h2, ?_⟩
  cases e : x.fld with
  | none => trivial
  | some q =>
    obtain ⟨f, y⟩ := q
    rw [e] at h3
    obtain ⟨dd, v, e1, e2, e3, e4⟩ := h3
    obtain ⟨k1, k2⟩ := l.keep _ _ e3 e2
    exact ⟨dd, v, e1, k2, k1, e4.later l⟩

/-! ### readings over data -/
abbrev KD := D → Ho → Prop
abbrev XD := Ex → Ho → Prop
abbrev WE := En → Ho → KD → XD → Prop
abbrev WA := En → Ho → (List D → Ho → Prop) → XD → Prop
abbrev WT := En → Ho → (Bool → Ho → Prop) → XD → Prop
structure Nx where
  nx : En → Ho → Prop
  rt : D → Ho → Prop
  bk : En → Ho → Prop
  ct : En → Ho → Prop
  ex : Ex → En → Ho → Prop
abbrev WS := En → Ho → Nx → Prop

/-- what a wish about exceptions is, over data -/
def XTo (X : Cx) (W : WX) (as : List Addr) (H : Hp) (σ : L2.St) (E : XD) : Prop :=
  ∀ x h' cls dd as1 H', E x h' → Later as H as1 H' → HeapR X.K as1 H' h' → ExR X.K X.mg as1 H' cls dd x → W cls dd σ H'
def KTo (X : Cx) (as : List Addr) (H : Hp) (Q : KD) (QV : VK) : Prop :=
  ∀ y h' v as1 H', Q y h' → Later as H as1 H' → HeapR X.K as1 H' h' → Rel X.K as1 H' v y → QV v H'
def ATo (X : Cx) (as : List Addr) (H : Hp) (Q : List D → Ho → Prop) (QV : List V → Hp → Prop) : Prop :=
  ∀ ys h' vs as1 H', Q ys h' → Later as H as1 H' → HeapR X.K as1 H' h' → RelAll X.K as1 H' vs ys → QV vs H'
def TTo (X : Cx) (as : List Addr) (H : Hp) (Q : Bool → Ho → Prop) (QV : Bool → Hp → Prop) : Prop :=
  ∀ b h' as1 H', Q b h' → Later as H as1 H' → HeapR X.K as1 H' h' → QV b H'
structure STo (X : Cx) (W : WX) (as : List Addr) (H : Hp) (D : Nx) (D' : Ends) : Prop where
  nx : ∀ ρ h' σ as1 H', D.nx ρ h' → Later as H as1 H' → HeapR X.K as1 H' h' → EnvR X.K as1 H' ρ σ → D'.nx σ H'
  bk : ∀ ρ h' σ as1 H', D.bk ρ h' → Later as H as1 H' → HeapR X.K as1 H' h' → EnvR X.K as1 H' ρ σ → D'.bk σ H'
  ct : ∀ ρ h' σ as1 H', D.ct ρ h' → Later as H as1 H' → HeapR X.K as1 H' h' → EnvR X.K as1 H' ρ σ → D'.ct σ H'
  rt : ∀ y h' v as1 H', D.rt y h' → Later as H as1 H' → HeapR X.K as1 H' h' → Rel X.K as1 H' v y → D'.rt v H'
  ex : ∀ x ρ h' cls dd σ as1 H', D.ex x ρ h' → Later as H as1 H' → HeapR X.K as1 H' h' → EnvR X.K as1 H' ρ σ → ExR X.K X.mg as1 H' cls dd x → W cls dd σ H'
theorem XTo.later {X : Cx} {W : WX} {as as1 : List Addr} {H H1 : Hp} {σ : L2.St} {E : XD} (h : XTo X W as H σ E) (l : Later as H as1 H1) : XTo X W as1 H1 σ E :=
  fun x h' cls dd as2 H2 e l2 r xr => h x h' cls dd as2 H2 e (l.trans l2) r xr
theorem KTo.later {X : Cx} {as as1 : List Addr} {H H1 : Hp} {Q : KD} {QV : VK} (h : KTo X as H Q QV) (l : Later as H as1 H1) : KTo X as1 H1 Q QV :=
  fun y h' v as2 H2 e l2 r xr => h y h' v as2 H2 e (l.trans l2) r xr
theorem ATo.later {X : Cx} {as as1 : List Addr} {H H1 : Hp} {Q : List D → Ho → Prop} {QV : List V → Hp → Prop} (h : ATo X as H Q QV) (l : Later as H as1 H1) : ATo X as1 H1 Q QV :=
  fun y h' v as2 H2 e l2 r xr => h y h' v as2 H2 e (l.trans l2) r xr
theorem TTo.later {X : Cx} {as as1 : List Addr} {H H1 : Hp} {Q : Bool → Ho → Prop} {QV : Bool → Hp → Prop} (h : TTo X as H Q QV) (l : Later as H as1 H1) : TTo X as1 H1 Q QV :=
  fun y h' as2 H2 e l2 r => h y h' as2 H2 e (l.trans l2) r
theorem STo.later {X : Cx} {W : WX} {as as1 : List Addr} {H H1 : Hp} {D : Nx} {D' : Ends} (h : STo X W as H D D') (l : Later as H as1 H1) : STo X W as1 H1 D D' :=
  ⟨fun ρ h' σ as2 H2 e l2 => h.nx ρ h' σ as2 H2 e (l.trans l2), fun ρ h' σ as2 H2 e l2 => h.bk ρ h' σ as2 H2 e (l.trans l2), fun ρ h' σ as2 H2 e l2 => h.ct ρ h' σ as2 H2 e (l.trans l2),
    fun y h' v as2 H2 e l2 => h.rt y h' v as2 H2 e (l.trans l2), fun x ρ h' cls dd σ as2 H2 e l2 => h.ex x ρ h' cls dd σ as2 H2 e (l.trans l2)⟩

/-- soundness: the reading t asks no more than f does -/
def SpE (X : Cx) (W : WX) (t : TE) (f : WE) : Prop := ∀ σ H as ρ h Q E QV, EnvR X.K as H ρ σ → HeapR X.K as H h → f ρ h Q E → KTo X as H Q QV → XTo X W as H σ E → t σ H QV
def SpT (X : Cx) (W : WX) (t : TT) (f : WT) : Prop := ∀ σ H as ρ h Q E QV, EnvR X.K as H ρ σ → HeapR X.K as H h → f ρ h Q E → TTo X as H Q QV → XTo X W as H σ E → t σ H QV
def SpA (X : Cx) (W : WX) (t : TA) (f : WA) : Prop := ∀ σ H as ρ h Q E QV, EnvR X.K as H ρ σ → HeapR X.K as H h → f ρ h Q E → ATo X as H Q QV → XTo X W as H σ E → t σ H QV
def SpS (X : Cx) (W : WX) (t : TS) (f : WS) : Prop := ∀ σ H as ρ h D D', EnvR X.K as H ρ σ → HeapR X.K as H h → f ρ h D → STo X W as H D D' → t D' σ H
def SE (X : Cx) (W : WX) (e : Expr) (f : WE) : Prop := ∃ t, PE X e t ∧ SpE X W t f
def ST (X : Cx) (W : WX) (e : Expr) (f : WT) : Prop := ∃ t, PT X e t ∧ SpT X W t f
def SW (X : Cx) (W : WX) (e : Expr) (f : WT) : Prop := ∃ t, PW X e t ∧ SpT X W t f
def SA (X : Cx) (W : WX) (e : List Expr) (f : WA) : Prop := ∃ t, PA X e t ∧ SpA X W t f
def SS (X : Cx) (W : WX) (s : Stmt) (f : WS) : Prop := ∃ t, PS X s t ∧ SpS X W t f
def SB (X : Cx) (W : WX) (s : List Stmt) (f : WS) : Prop := ∃ t, PSs X s t ∧ SpS X W t f
end V2
set_option Elab.async false
set_option linter.all false
set_option maxRecDepth 100000
set_option maxHeartbeats 4000000
namespace V2
open PySem PySem.Spec PyProof.Rows L2
open PySem.W (Frag)
section
variable {X : Cx} {W : WX} {as : List Addr} {H : Hp} {h : Ho} {Q : KD} {QV : VK}
theorem KTo.q (k : KTo X as H Q QV) (r : HeapR X.K as H h) {v : V} {y : D} (q : Q y h) (rv : Rel X.K as H v y) : QV v H := k _ _ _ _ _ q (Later.refl _ _) r rv
theorem KTo.qd (k : KTo X as H Q QV) (r : HeapR X.K as H h) {v : V} {y : PyData} (q : Q (.d y) h) (rv : Dv X.K as H v y) : QV v H := k.q r q (.d rv)
/-- a new tuple or list, by value -/
theorem KTo.newTup (k : KTo X as H Q QV) (r : HeapR X.K as H h) {vs : List V} {ps : List PyData} (q : Q (.d (.tuple ps)) h) (rv : DvAll X.K as H vs ps) {p : Addr} (hp : H p = none) : QV (.ref p) (upd H p (.tup vs)) := by
  have l : Later as H as (upd H p (.tup vs)) := Later.new _ hp
  refine k _ _ _ _ _ q l (r.new _ hp) (.d (.tup (.inl ⟨.inl upd_same, fun hm => ?_⟩) (rv.later l)))
  obtain ⟨u, e⟩ := r.there hm
  rw [hp] at e
  cases e
theorem KTo.newLst (k : KTo X as H Q QV) (r : HeapR X.K as H h) {vs : List V} {ps : List PyData} (q : Q (.d (.list ps)) h) (rv : DvAll X.K as H vs ps) {p : Addr} (hp : H p = none) : QV (.ref p) (upd H p (.lst vs)) := by
  have l : Later as H as (upd H p (.lst vs)) := Later.new _ hp
  refine k _ _ _ _ _ q l (r.new _ hp) (.d (.lst (.inl ⟨.inl upd_same, fun hm => ?_⟩) (rv.later l)))
  obtain ⟨u, e⟩ := r.there hm
  rw [hp] at e
  cases e
/-- a new list, a place -/
theorem KTo.newLoc (k : KTo X as H Q QV) (r : HeapR X.K as H h) {vs : List V} {xs : List D} (q : Q (.loc h.length) (h ++ [.lst xs])) (rv : RelAll X.K as H vs xs) {p : Addr} (hp : H p = none) : QV (.ref p) (upd H p (.lst vs)) := by
  obtain ⟨r1, e⟩ := r.place hp rv
  exact k _ _ _ _ _ q (Later.place _ hp) r1 (.loc e)
end

/-! ### names and constants -/
def fVar (i : Nat) : WE := fun ρ h Q _ => match ρ[i]? with
  | some (some d) => Q d h
  | _ => False
def fC (p : PyData) : WE := fun _ h Q _ => Q (.d p) h
section
variable {X : Cx} {W : WX} {pos : Pos}
theorem SE.var (i : Nat) {x : Str} (hN : X.N[i]? = some x := by rfl) (hv : Vis X.env.scope x := by first | exact Or.inl rfl | exact Or.inr (Or.inl rfl) | exact Or.inr (Or.inr rfl)) (hd : (x == ("__debug__" : Str)) = false := by decide)
    (hcd : (x == ("__classdict__" : Str)) = false := by decide) : SE X W (.Name x pos) (fVar i) := by
  refine ⟨_, pe_var hN hv hd hcd, fun σ H as ρ h Q E QV eR hR hq k _ => ?_⟩
  unfold fVar at hq
  split at hq
  · rename_i d e
    obtain ⟨v, e2, r⟩ := eR.2 i d e
    exact ⟨v, e2, k.q hR hq r⟩
  · exact hq.elim
theorem SE.int {i : Int} {j} : SE X W (.Constant (.int i) j pos) (fC (.int i)) := ⟨_, pe_int, fun _ _ _ _ _ _ _ _ _ hR hq k _ => k.qd hR hq (.int i)⟩
theorem SE.bl {b : Bool} {j} : SE X W (.Constant (.bool b) j pos) (fC (.bool b)) := ⟨_, pe_bl, fun _ _ _ _ _ _ _ _ _ hR hq k _ => k.qd hR hq (.bl b)⟩
theorem SE.non {j} : SE X W (.Constant .none j pos) (fC .none) := ⟨_, pe_non, fun _ _ _ _ _ _ _ _ _ hR hq k _ => k.qd hR hq .non⟩
theorem SE.str {x : Str} {j} : SE X W (.Constant (.str x) j pos) (fC (.str x)) := ⟨_, pe_str, fun _ _ _ _ _ _ _ _ _ hR hq k _ => k.qd hR hq (.str x)⟩
/-- a constant of the module that is a tuple of the written part -/
theorem SE.glob {x : Str} {v : V} {u : Value} {p : PyData} (hg : Gl X x) (hm : X.mg x = some u) (r : RelV v u) (hv : ∀ as H, Dv X.K as H v p) (hd : (x == ("__debug__" : Str)) = false := by decide) : SE X W (.Name x pos) (fC p) :=
  ⟨_, pe_glob hg hm r hd, fun _ H as _ _ _ _ _ _ hR hq k _ => k.qd hR hq (hv as H)⟩
end

/-! ### arguments -/
def aNil : WA := fun _ h Q _ => Q [] h
def aCons (f : WE) (g : WA) : WA := fun ρ h Q E => f ρ h (fun x h1 => g ρ h1 (fun xs h2 => Q (x :: xs) h2) E) E
section
variable {X : Cx} {W : WX} {e : Expr} {es : List Expr} {f : WE} {g : WA} {pos : Pos}
theorem SA.nil : SA X W [] aNil := ⟨_, pa_nil, fun _ _ _ _ _ _ _ _ _ hR hq k _ => k _ _ _ _ _ hq (Later.refl _ _) hR .nil⟩
theorem SA.cons (he : SE X W e f) (hr : SA X W es g) (hs : starEach (e :: es) X.env = (false, eval e X.env) :: starEach es X.env := by rfl) : SA X W (e :: es) (aCons f g) := by
  obtain ⟨te, pe, se⟩ := he
  obtain ⟨ta, pa, sa⟩ := hr
  refine ⟨_, pa_cons pe pa hs, fun σ H as ρ h Q E QV eR hR hq k kx => ?_⟩
  refine se σ H as ρ h _ E _ eR hR hq (fun x h1 v as1 H1 hq1 l1 r1 rv => ?_) kx
  refine sa σ H1 as1 ρ h1 _ E _ (eR.later l1) r1 hq1 (fun xs h2 vs as2 H2 hq2 l2 r2 rvs => ?_) (kx.later l1)
  exact k _ _ _ _ _ hq2 (l1.trans l2) r2 (.cons (rv.later l2) rvs)
end

/-! ### operators of two -/
abbrev WR2 := D → D → Ho → KD → Prop
def fBin (r : WR2) (fa fb : WE) : WE := fun ρ h Q E => fa ρ h (fun x h1 => fb ρ h1 (fun y h2 => r x y h2 Q) E) E
def Cp2 (X : Cx) (rV : R2) (r : WR2) : Prop := ∀ x y h Q v w as H QV, Rel X.K as H v x → Rel X.K as H w y → HeapR X.K as H h → r x y h Q → KTo X as H Q QV → rV v w H QV
section
variable {X : Cx} {W : WX} {a b : Expr} {fa fb : WE} {pos : Pos}
theorem sp_op {rV : R2} {r : WR2} {ta tb : TE} (c : Cp2 X rV r) (ha : SpE X W ta fa) (hb : SpE X W tb fb) : SpE X W (tOp rV ta tb) (fBin r fa fb) := by
  intro σ H as ρ h Q E QV eR hR hq k kx
  refine ha σ H as ρ h _ E _ eR hR hq (fun x h1 v as1 H1 hq1 l1 r1 rv => ?_) kx
  refine hb σ H1 as1 ρ h1 _ E _ (eR.later l1) r1 hq1 (fun y h2 w as2 H2 hq2 l2 r2 rw' => ?_) (kx.later l1)
  exact c x y h2 Q v w as2 H2 QV (rv.later l2) rw' r2 hq2 (k.later (l1.trans l2))
theorem SE.bin {op : Operator} {rV : R2} {r : WR2} (ho : OpR X (binaryOp op) rV) (c : Cp2 X rV r) (ha : SE X W a fa) (hb : SE X W b fb) : SE X W (.BinOp a op b pos) (fBin r fa fb) := by
  obtain ⟨ta, pa, sa⟩ := ha
  obtain ⟨tb, pb, sb⟩ := hb
  exact ⟨_, pe_op ho pa pb, sp_op c sa sb⟩
theorem SE.cmp {op : CmpOp} {rV : R2} {r : WR2} (ho : OpR X (compareOp op) rV) (c : Cp2 X rV r) (ha : SE X W a fa) (hb : SE X W b fb) (hm : behindInMarks op b = false) : SE X W (.Compare a [op] [b] pos) (fBin r fa fb) := by
  obtain ⟨ta, pa, sa⟩ := ha
  obtain ⟨tb, pb, sb⟩ := hb
  exact ⟨_, pe_cmpR ho pa pb hm, sp_op c sa sb⟩
end
/-- two ints -/
def rInts (C : Int → Int → Prop) (g : Int → Int → PyData) : WR2 := fun x y h Q => match x, y with
  | .d (.int i), .d (.int j) => C i j ∧ Q (.d (g i j)) h
  | _, _ => False
section
variable {X : Cx}
theorem cp_ints {C : Int → Int → Prop} {gV : Int → Int → V} {g : Int → Int → PyData} (hg : ∀ K as H i j, Dv K as H (gV i j) (g i j)) : Cp2 X (rI C gV) (rInts C g) := by
  intro x y h Q v w as H QV rx ry hR hq k
  unfold rInts at hq
  split at hq
  · rename_i i j
    cases rx with | d rx =>
    cases ry with | d ry =>
    cases rx
    cases ry
    exact ⟨i, j, rfl, rfl, hq.1, k.qd hR hq.2 (hg _ _ _ _ _)⟩
  · exact hq.elim
theorem cp_ints0 {gV : Int → Int → V} {g : Int → Int → PyData} (hg : ∀ K as H i j, Dv K as H (gV i j) (g i j)) : Cp2 X (rI0 gV) (rInts (fun _ _ => True) g) := by
  intro x y h Q v w as H QV rx ry hR hq k
  unfold rInts at hq
  split at hq
  · rename_i i j
    cases rx with | d rx =>
    cases ry with | d ry =>
    cases rx
    cases ry
    exact ⟨i, j, rfl, rfl, k.qd hR hq.2 (hg _ _ _ _ _)⟩
  · exact hq.elim
def CDivA (_ j : Int) : Prop := j ≠ 0 ∧ j.natAbs.log2 < 9000
theorem op_fdivA : OpR X (binaryOp .FloorDiv) (rI CDivA fun i j => .int (i.fdiv j)) := opI fun i j _ _ _ _ _ hc q => floordiv_int hc.1 q (.inl (PyProof.noPylong_of_log2 hc.2))
end

/-- the items of a list or tuple -/
def items (h : Ho) : D → Option (List D)
  | .d (.list ps) => some (ps.map D.d)
  | .d (.tuple ps) => some (ps.map D.d)
  | .d _ => none
  | .loc n => match h[n]? with
    | some (.lst xs) => some xs
    | none => none
theorem items_rel {K : Frag} {as : List Addr} {H : Hp} {h : Ho} {v : V} {x : D} {xs : List D} (r : Rel K as H v x) (hR : HeapR K as H h) (e : items h x = some xs) :
    ∃ a vs, v = .ref a ∧ (SqL K H a vs ∨ SqT K H a vs) ∧ RelAll K as H vs xs := by
  cases r with
  | d r =>
    cases r with
    | lst s al =>
      simp only [items, Option.some.injEq] at e
      subst e
      exact ⟨_, _, rfl, .inl s.sq, al.rel⟩
    | tup s al =>
      simp only [items, Option.some.injEq] at e
      subst e
      exact ⟨_, _, rfl, .inr s.sq, al.rel⟩
    | non => simp [items] at e
    | bl => simp [items] at e
    | int => simp [items] at e
    | str => simp [items] at e
  | loc ha =>
    rename_i a n
    simp only [items] at e
    split at e
    · rename_i ys en
      cases e
      obtain ⟨b, hb, ob⟩ := hR.at en
      rw [ha] at hb
      cases hb
      obtain ⟨vs, e1, e2⟩ := ob
      exact ⟨a, vs, rfl, .inl (SqL.of e1), e2⟩
    · cases e
/-- the items of a list -/
def litems (h : Ho) : D → Option (List D)
  | .d (.list ps) => some (ps.map D.d)
  | .d _ => none
  | .loc n => match h[n]? with
    | some (.lst xs) => some xs
    | none => none
theorem litems_rel {K : Frag} {as : List Addr} {H : Hp} {h : Ho} {v : V} {x : D} {xs : List D} (r : Rel K as H v x) (hR : HeapR K as H h) (e : litems h x = some xs) :
    ∃ a vs, v = .ref a ∧ SqL K H a vs ∧ RelAll K as H vs xs := by
  cases r with
  | d r =>
    cases r with
    | lst s al =>
      simp only [litems, Option.some.injEq] at e
      subst e
      exact ⟨_, _, rfl, s.sq, al.rel⟩
    | tup s al => simp [litems] at e
    | non => simp [litems] at e
    | bl => simp [litems] at e
    | int => simp [litems] at e
    | str => simp [litems] at e
  | loc ha =>
    rename_i a n
    simp only [litems] at e
    split at e
    · rename_i ys en
      cases e
      obtain ⟨b, hb, ob⟩ := hR.at en
      rw [ha] at hb
      cases hb
      obtain ⟨vs, e1, e2⟩ := ob
      exact ⟨a, vs, rfl, SqL.of e1, e2⟩
    · cases e
/-- data, or a place that holds data -/
def datum (h : Ho) : D → Option PyData
  | .d p => some p
  | .loc n => match h[n]? with
    | some (.lst xs) => (allD xs).map PyData.list
    | none => none
theorem datum_dp {K : Frag} {as : List Addr} {H : Hp} {h : Ho} {v : V} {x : D} {p : PyData} (r : Rel K as H v x) (hR : HeapR K as H h) (e : datum h x = some p) : Dp K H v p := by
  cases r with
  | d r =>
    simp only [datum, Option.some.injEq] at e
    subst e
    exact r.dp
  | loc ha =>
    simp only [datum] at e
    split at e
    · rename_i ys en
      simp only [Option.map_eq_some_iff] at e
      obtain ⟨ps, e1, rfl⟩ := e
      obtain ⟨b, hb, ob⟩ := hR.at en
      rw [ha] at hb
      cases hb
      obtain ⟨vs, e2, e3⟩ := ob
      exact .lst (SqL.of e2) (DvAll.dp (e3.ofAllD e1))
    · cases e

/-! ### + -/
/-- list + list, also of what is only read -/
def rCatR (K : Frag) : R2 := fun x y H Q => ∃ l b xs zs, x = .ref l ∧ y = .ref b ∧ SqL K H l xs ∧ SqL K H b zs ∧ xs.length + zs.length ≤ sizeLine ∧ ∀ p, H p = none → Q (.ref p) (upd H p (.lst (xs ++ zs)))
theorem op_catR {X : Cx} : OpR X (binaryOp .Add) (rCatR X.K) := by
  intro pins s σ H x y v u Q I rx ry h
  obtain ⟨l, b, xs, zs, rfl, rfl, h1, h2, hz, q⟩ := h
  cases rx; cases ry
  obtain ⟨i1, r1, ⟨⟨c1, d1, t1, s1⟩, n1, g1, k1, m1, e1⟩, z1⟩ := I.list h1
  obtain ⟨i2, r2, ⟨⟨c2, d2, t2, s2⟩, n2, g2, k2, m2, e2⟩, z2⟩ := I.list h2
  simp only at k1 e1 k2 e2
  subst k1; subst e1; subst k2; subst e2
  have hsz : i1.toArray.size + i2.toArray.size ≤ sizeLine := by
    rw [List.size_toArray, List.size_toArray, ← r1.length, ← r2.length]; exact hz
  refine concat_meets ⟨_, g1, rfl⟩ ⟨_, g2, rfl⟩ noFill_list_add seq_list_add F.slot_list_add F.entry_list_add (F.args_list_add_2 _ _)
    (list_addW l b i1.toArray i2.toArray n1 n2 d1 d2 s1 s2 hsz) ⟨g1, g2, ?_⟩
  have ea : i1.toArray ++ i2.toArray = (i1 ++ i2).toArray := by simp
  rw [ea]
  exact ⟨.ref _, _, I.lnew (t' := s.toks) (r1.append r2) (by rw [List.length_append]; exact hz), rfl, q _ I.fresh⟩
def rAdd2 : WR2 := fun x y h Q => match x, y with
  | .d (.int i), .d (.int j) => Q (.d (.int (i + j))) h
  | .d (.str a), .d (.str b) => a.length + b.length ≤ sizeLine ∧ Q (.d (.str (a ++ b))) h
  | .d (.list ps), .d (.list qs) => ps.length + qs.length ≤ sizeLine ∧ Q (.d (.list (ps ++ qs))) h
  | .d (.tuple ps), .d (.tuple qs) => ps.length + qs.length ≤ sizeLine ∧ Q (.d (.tuple (ps ++ qs))) h
  | _, _ => False
def rAddV (K : Frag) : R2 := fun x y H Q => rI0 (fun i j => .int (i + j)) x y H Q ∨ (∃ i j, x = .str i ∧ y = .str j ∧ i.length + j.length ≤ sizeLine ∧ Q (.str (i ++ j)) H) ∨ rCatR K x y H Q ∨ rCatA K x y H Q
section
variable {X : Cx}
theorem op_addV : OpR X (binaryOp .Add) (rAddV X.K) := op_add.or (op_add_str.or (op_catR.or op_catA))
theorem cp_add : Cp2 X (rAddV X.K) rAdd2 := by
  intro x y h Q v w as H QV rx ry hR hq k
  unfold rAdd2 at hq
  split at hq
  · cases rx with | d rx =>
    cases ry with | d ry =>
    cases rx
    cases ry
    exact .inl ⟨_, _, rfl, rfl, k.qd hR hq (.int _)⟩
  · cases rx with | d rx =>
    cases ry with | d ry =>
    cases rx
    cases ry
    exact .inr (.inl ⟨_, _, rfl, rfl, hq.1, k.qd hR hq.2 (.str _)⟩)
  · cases rx with | d rx =>
    cases ry with | d ry =>
    cases rx with | lst sx ax =>
    cases ry with | lst sy ay =>
    refine .inr (.inr (.inl ⟨_, _, _, _, rfl, rfl, sx.sq, sy.sq, by rw [ax.length, ay.length]; exact hq.1, fun p hp => ?_⟩))
    exact k.newLst hR hq.2 (ax.append ay) hp
  · cases rx with | d rx =>
    cases ry with | d ry =>
    cases rx with | tup sx ax =>
    cases ry with | tup sy ay =>
    refine .inr (.inr (.inr ⟨_, _, _, _, rfl, rfl, sx.sq, sy.sq, by rw [ax.length, ay.length]; exact hq.1, fun e => ?_, fun _ e => ?_, fun _ _ p hp => ?_⟩))
    · subst e
      cases ax
      exact k.qd hR hq.2 (.tup sy ay)
    · subst e
      cases ay
      have := hq.2
      rw [List.append_nil] at this
      exact k.qd hR this (.tup sx ax)
    · exact k.newTup hR hq.2 (ax.append ay) hp
  · exact hq.elim
theorem SE.add {W : WX} {a b : Expr} {fa fb : WE} {pos : Pos} (ha : SE X W a fa) (hb : SE X W b fb) : SE X W (.BinOp a .Add b pos) (fBin rAdd2 fa fb) := .bin op_addV cp_add ha hb
abbrev rSub2 : WR2 := rInts (fun _ _ => True) fun i j => .int (i - j)
abbrev rMul2 : WR2 := rInts CMulW fun i j => .int (i * j)
abbrev rDiv2 : WR2 := rInts CDivA fun i j => .int (i.fdiv j)
abbrev rMod2 : WR2 := rInts (fun _ j => 0 < j) fun i j => .int (i % j)
abbrev rPow2 : WR2 := rInts CPow fun i j => .int (i ^ j.toNat)
theorem SE.sub {W : WX} {a b : Expr} {fa fb : WE} {pos : Pos} (ha : SE X W a fa) (hb : SE X W b fb) : SE X W (.BinOp a .Sub b pos) (fBin rSub2 fa fb) := .bin op_sub (cp_ints0 fun _ _ _ _ _ => .int _) ha hb
theorem SE.mul {W : WX} {a b : Expr} {fa fb : WE} {pos : Pos} (ha : SE X W a fa) (hb : SE X W b fb) : SE X W (.BinOp a .Mult b pos) (fBin rMul2 fa fb) := .bin op_mulW (cp_ints fun _ _ _ _ _ => .int _) ha hb
theorem SE.div {W : WX} {a b : Expr} {fa fb : WE} {pos : Pos} (ha : SE X W a fa) (hb : SE X W b fb) : SE X W (.BinOp a .FloorDiv b pos) (fBin rDiv2 fa fb) := .bin op_fdivA (cp_ints fun _ _ _ _ _ => .int _) ha hb
theorem SE.mod {W : WX} {a b : Expr} {fa fb : WE} {pos : Pos} (ha : SE X W a fa) (hb : SE X W b fb) : SE X W (.BinOp a .Mod b pos) (fBin rMod2 fa fb) := .bin op_mod (cp_ints fun _ _ _ _ _ => .int _) ha hb
theorem SE.pow {W : WX} {a b : Expr} {fa fb : WE} {pos : Pos} (ha : SE X W a fa) (hb : SE X W b fb) : SE X W (.BinOp a .Pow b pos) (fBin rPow2 fa fb) := .bin op_pow (cp_ints fun _ _ _ _ _ => .int _) ha hb

/-! ### comparisons -/
abbrev rCmp2 (p : Int → Int → Bool) : WR2 := rInts (fun _ _ => True) fun i j => .bool (p i j)
variable {W : WX} {a b : Expr} {fa fb : WE} {pos : Pos}
theorem SE.lt (ha : SE X W a fa) (hb : SE X W b fb) : SE X W (.Compare a [.Lt] [b] pos) (fBin (rCmp2 fun i j => decide (i < j)) fa fb) := .cmp op_lt (cp_ints0 fun _ _ _ _ _ => .bl _) ha hb (nomark _)
theorem SE.le (ha : SE X W a fa) (hb : SE X W b fb) : SE X W (.Compare a [.LtE] [b] pos) (fBin (rCmp2 fun i j => decide (i ≤ j)) fa fb) := .cmp op_le (cp_ints0 fun _ _ _ _ _ => .bl _) ha hb (nomark _)
theorem SE.gt (ha : SE X W a fa) (hb : SE X W b fb) : SE X W (.Compare a [.Gt] [b] pos) (fBin (rCmp2 fun i j => decide (j < i)) fa fb) := .cmp op_gt (cp_ints0 fun _ _ _ _ _ => .bl _) ha hb (nomark _)
theorem SE.ge (ha : SE X W a fa) (hb : SE X W b fb) : SE X W (.Compare a [.GtE] [b] pos) (fBin (rCmp2 fun i j => decide (j ≤ i)) fa fb) := .cmp op_ge (cp_ints0 fun _ _ _ _ _ => .bl _) ha hb (nomark _)
/-- == : ints at once, other data by the model's own comparison -/
def rEq2 : WR2 := fun x y h Q => match x, y with
  | .d (.int i), .d (.int j) => Q (.d (.bool (decide (i = j)))) h
  | .d (.str i), .d (.str j) => Q (.d (.bool (decide (i = j)))) h
  | _, _ => match datum h x, datum h y with
    | some p, some q => SeqAt.shaped p = true ∧ SeqAt.shaped q = true ∧ Q (.d (.bool (PyData.eqv p q))) h
    | _, _ => False
def rNe2 : WR2 := fun x y h Q => match x, y with
  | .d (.int i), .d (.int j) => Q (.d (.bool (!decide (i = j)))) h
  | .d (.str i), .d (.str j) => Q (.d (.bool (!decide (i = j)))) h
  | _, _ => match datum h x, datum h y with
    | some p, some q => SeqAt.shaped p = true ∧ SeqAt.shaped q = true ∧ Q (.d (.bool (!PyData.eqv p q))) h
    | _, _ => False
theorem int_vdec (i j : Int) : decide (V.int i = V.int j) = decide (i = j) := by
  by_cases e : i = j
  · subst e; simp
  · rw [decide_eq_false e, decide_eq_false fun z => e (V.int.inj z)]
theorem str_vdec (i j : Str) : decide (V.str i = V.str j) = decide (i = j) := by
  by_cases e : i = j
  · subst e; simp
  · rw [decide_eq_false e, decide_eq_false fun z => e (V.str.inj z)]
theorem cp_eq : Cp2 X (fun x y H Q => rEq x y H Q ∨ rEqD X.K x y H Q) rEq2 := by
  intro x y h Q v w as H QV rx ry hR hq k
  unfold rEq2 at hq
  split at hq
  · cases rx with | d rx =>
    cases ry with | d ry =>
    cases rx
    cases ry
    exact .inl ⟨rfl, by rw [int_vdec]; exact k.qd hR hq (.bl _)⟩
  · cases rx with | d rx =>
    cases ry with | d ry =>
    cases rx
    cases ry
    exact .inl ⟨rfl, by rw [str_vdec]; exact k.qd hR hq (.bl _)⟩
  · split at hq
    · rename_i p q e1 e2
      exact .inr ⟨p, q, datum_dp rx hR e1, datum_dp ry hR e2, hq.1, hq.2.1, k.qd hR hq.2.2 (.bl _)⟩
    · exact hq.elim
theorem cp_ne : Cp2 X (fun x y H Q => rNe x y H Q ∨ rNeD X.K x y H Q) rNe2 := by
  intro x y h Q v w as H QV rx ry hR hq k
  unfold rNe2 at hq
  split at hq
  · cases rx with | d rx =>
    cases ry with | d ry =>
    cases rx
    cases ry
    exact .inl ⟨rfl, by rw [int_vdec]; exact k.qd hR hq (.bl _)⟩
  · cases rx with | d rx =>
    cases ry with | d ry =>
    cases rx
    cases ry
    exact .inl ⟨rfl, by rw [str_vdec]; exact k.qd hR hq (.bl _)⟩
  · split at hq
    · rename_i p q e1 e2
      exact .inr ⟨p, q, datum_dp rx hR e1, datum_dp ry hR e2, hq.1, hq.2.1, k.qd hR hq.2.2 (.bl _)⟩
    · exact hq.elim
theorem SE.eq (hu : X.A.units + 64 < cLine) (ha : SE X W a fa) (hb : SE X W b fb) : SE X W (.Compare a [.Eq] [b] pos) (fBin rEq2 fa fb) := .cmp (op_eq.or (op_eqD hu)) cp_eq ha hb (nomark _)
theorem SE.ne (hu : X.A.units + 64 < cLine) (ha : SE X W a fa) (hb : SE X W b fb) : SE X W (.Compare a [.NotEq] [b] pos) (fBin rNe2 fa fb) := .cmp (op_ne.or (op_neD hu)) cp_ne ha hb (nomark _)
/-- is None -/
def isNon : D → Bool
  | .d .none => true
  | _ => false
def rIsN2 : WR2 := fun x y h Q => match y with
  | .d .none => Q (.d (.bool (isNon x))) h
  | _ => False
def rNotN2 : WR2 := fun x y h Q => match y with
  | .d .none => Q (.d (.bool (!isNon x))) h
  | _ => False
theorem isnon_rel {K : Frag} {as : List Addr} {H : Hp} {v : V} {x : D} (r : Rel K as H v x) : decide (v = V.non) = isNon x := by
  cases r with
  | d r => cases r <;> first | rfl | exact decide_eq_false (fun z => by cases z)
  | loc _ => exact decide_eq_false (fun z => by cases z)
theorem cp_isN : Cp2 X (fun x y H Q => y = .non ∧ Q (.bl (decide (x = .non))) H) rIsN2 := by
  intro x y h Q v w as H QV rx ry hR hq k
  unfold rIsN2 at hq
  split at hq
  · cases ry with | d ry =>
    cases ry
    refine ⟨rfl, ?_⟩
    rw [isnon_rel rx]
    exact k.qd hR hq (.bl _)
  · exact hq.elim
theorem cp_notN : Cp2 X (fun x y H Q => y = .non ∧ Q (.bl (!decide (x = .non))) H) rNotN2 := by
  intro x y h Q v w as H QV rx ry hR hq k
  unfold rNotN2 at hq
  split at hq
  · cases ry with | d ry =>
    cases ry
    refine ⟨rfl, ?_⟩
    rw [isnon_rel rx]
    exact k.qd hR hq (.bl _)
  · exact hq.elim
theorem SE.isN (ha : SE X W a fa) (hb : SE X W b fb) : SE X W (.Compare a [.Is] [b] pos) (fBin rIsN2 fa fb) := .cmp op_isN cp_isN ha hb (nomark _)
theorem SE.notN (ha : SE X W a fa) (hb : SE X W b fb) : SE X W (.Compare a [.IsNot] [b] pos) (fBin rNotN2 fa fb) := .cmp op_notN cp_notN ha hb (nomark _)
end

/-! ### one -/
def fUn (g : Int → PyData) (fa : WE) : WE := fun ρ h Q E => fa ρ h (fun x h1 => match x with
  | .d (.int i) => Q (.d (g i)) h1
  | _ => False) E
section
variable {X : Cx} {W : WX} {a b : Expr} {fa fb : WE} {pos : Pos}
theorem SE.neg (ha : SE X W a fa) : SE X W (.UnaryOp .USub a pos) (fUn (fun i => .int (-i)) fa) := by
  obtain ⟨ta, pa, sa⟩ := ha
  refine ⟨_, pe_un un_neg pa, fun σ H as ρ h Q E QV eR hR hq k kx => ?_⟩
  refine sa σ H as ρ h _ E _ eR hR hq (fun x h1 v as1 H1 hq1 l1 r1 rv => ?_) kx
  split at hq1
  · cases rv with | d rv =>
    cases rv
    exact ⟨_, rfl, (k.later l1).qd r1 hq1 (.int _)⟩
  · exact hq1.elim
/-! ### tests -/
/-- a value that is True or False -/
def tVal (fa : WE) : WT := fun ρ h Q E => fa ρ h (fun x h1 => match x with
  | .d (.bool b) => Q b h1
  | _ => False) E
theorem sp_val {t : TE} (sa : SpE X W t fa) : SpT X W (tB t) (tVal fa) := by
  intro σ H as ρ h Q E QV eR hR hq k kx
  refine sa σ H as ρ h _ E _ eR hR hq (fun x h1 v as1 H1 hq1 l1 r1 rv => ?_) kx
  split at hq1
  · cases rv with | d rv =>
    cases rv
    exact ⟨_, rfl, k _ _ _ _ hq1 l1 r1⟩
  · exact hq1.elim
def tAnd2 (f g : WT) : WT := fun ρ h Q E => f ρ h (fun b h1 => if b = true then g ρ h1 Q E else Q false h1) E
def tOr2 (f g : WT) : WT := fun ρ h Q E => f ρ h (fun b h1 => if b = true then Q true h1 else g ρ h1 Q E) E
def tNot2 (f : WT) : WT := fun ρ h Q E => f ρ h (fun b h1 => Q (!b) h1) E
end

section
variable {X : Cx} {W : WX} {a b : Expr} {rest : List Expr} {fa fb : WE} {f g : WT} {pos : Pos}
theorem ST.val (ha : SE X W a fa) (he : ∀ whole, isTrue a X.env whole = (do let v ← whole; standAt a.pos; holding [v] (truthy v)) := by intro _; rfl) : ST X W a (tVal fa) := by
  obtain ⟨ta, pa, sa⟩ := ha
  exact ⟨_, pt_val pa he, sp_val sa⟩
theorem sp_test {t : TE} (sa : SpE X W t fa) : SpT X W (tTest t) (tVal fa) := sp_val sa
/-- a comparison as a test -/
theorem ST.cmp {op : CmpOp} {rV : R2} {r : WR2} (ho : OpR X (compareOp op) rV) (c : Cp2 X rV r) (ha : SE X W a fa) (hb : SE X W b fb) (hm : behindInMarks op b = false) : ST X W (.Compare a [op] [b] pos) (tVal (fBin r fa fb)) := by
  obtain ⟨ta, pa, sa⟩ := ha
  obtain ⟨tb, pb, sb⟩ := hb
  exact ⟨_, pt_cmpR ho pa pb hm, sp_test (sp_op c sa sb)⟩
theorem ST.lt (ha : SE X W a fa) (hb : SE X W b fb) : ST X W (.Compare a [.Lt] [b] pos) (tVal (fBin (rCmp2 fun i j => decide (i < j)) fa fb)) := .cmp op_lt (cp_ints0 fun _ _ _ _ _ => .bl _) ha hb (nomark _)
theorem ST.le (ha : SE X W a fa) (hb : SE X W b fb) : ST X W (.Compare a [.LtE] [b] pos) (tVal (fBin (rCmp2 fun i j => decide (i ≤ j)) fa fb)) := .cmp op_le (cp_ints0 fun _ _ _ _ _ => .bl _) ha hb (nomark _)
theorem ST.gt (ha : SE X W a fa) (hb : SE X W b fb) : ST X W (.Compare a [.Gt] [b] pos) (tVal (fBin (rCmp2 fun i j => decide (j < i)) fa fb)) := .cmp op_gt (cp_ints0 fun _ _ _ _ _ => .bl _) ha hb (nomark _)
theorem ST.ge (ha : SE X W a fa) (hb : SE X W b fb) : ST X W (.Compare a [.GtE] [b] pos) (tVal (fBin (rCmp2 fun i j => decide (j ≤ i)) fa fb)) := .cmp op_ge (cp_ints0 fun _ _ _ _ _ => .bl _) ha hb (nomark _)
theorem ST.eq (hu : X.A.units + 64 < cLine) (ha : SE X W a fa) (hb : SE X W b fb) : ST X W (.Compare a [.Eq] [b] pos) (tVal (fBin rEq2 fa fb)) := .cmp (op_eq.or (op_eqD hu)) cp_eq ha hb (nomark _)
theorem ST.ne (hu : X.A.units + 64 < cLine) (ha : SE X W a fa) (hb : SE X W b fb) : ST X W (.Compare a [.NotEq] [b] pos) (tVal (fBin rNe2 fa fb)) := .cmp (op_ne.or (op_neD hu)) cp_ne ha hb (nomark _)
theorem ST.isN (ha : SE X W a fa) (hb : SE X W b fb) : ST X W (.Compare a [.Is] [b] pos) (tVal (fBin rIsN2 fa fb)) := .cmp op_isN cp_isN ha hb (nomark _)
theorem ST.notN (ha : SE X W a fa) (hb : SE X W b fb) : ST X W (.Compare a [.IsNot] [b] pos) (tVal (fBin rNotN2 fa fb)) := .cmp op_notN cp_notN ha hb (nomark _)
theorem SW.and1 (ha : ST X W a f) : SW X W (.BoolOp .And [a] pos) f := let ⟨_, p, s⟩ := ha; ⟨_, pw_and1 p, s⟩
theorem SW.or1 (ha : ST X W a f) : SW X W (.BoolOp .Or [a] pos) f := let ⟨_, p, s⟩ := ha; ⟨_, pw_or1 p, s⟩
theorem SW.and (ha : ST X W a f) (hb : SW X W (.BoolOp .And (b :: rest) pos) g) : SW X W (.BoolOp .And (a :: b :: rest) pos) (tAnd2 f g) := by
  obtain ⟨_, pa, sa⟩ := ha
  obtain ⟨_, pb, sb⟩ := hb
  refine ⟨_, pw_and pa pb, fun σ H as ρ h Q E QV eR hR hq k kx => ?_⟩
  refine sa σ H as ρ h _ E _ eR hR hq (fun c h1 as1 H1 hq1 l1 r1 => ?_) kx
  cases c with
  | true => exact iteT (sb σ H1 as1 ρ h1 Q E QV (eR.later l1) r1 hq1 (k.later l1) (kx.later l1))
  | false => exact iteF (k _ _ _ _ hq1 l1 r1)
theorem SW.or (ha : ST X W a f) (hb : SW X W (.BoolOp .Or (b :: rest) pos) g) : SW X W (.BoolOp .Or (a :: b :: rest) pos) (tOr2 f g) := by
  obtain ⟨_, pa, sa⟩ := ha
  obtain ⟨_, pb, sb⟩ := hb
  refine ⟨_, pw_or pa pb, fun σ H as ρ h Q E QV eR hR hq k kx => ?_⟩
  refine sa σ H as ρ h _ E _ eR hR hq (fun c h1 as1 H1 hq1 l1 r1 => ?_) kx
  cases c with
  | true => exact iteT (k _ _ _ _ hq1 l1 r1)
  | false => exact iteF (sb σ H1 as1 ρ h1 Q E QV (eR.later l1) r1 hq1 (k.later l1) (kx.later l1))
theorem SW.pt {e : Expr} (hs : SW X W e f) : ST X W e f := let ⟨_, p, s⟩ := hs; ⟨_, p.pt, s⟩
theorem ST.not (ha : ST X W a f) : ST X W (.UnaryOp .Not a pos) (tNot2 f) := by
  obtain ⟨_, pa, sa⟩ := ha
  refine ⟨_, pt_not pa, fun σ H as ρ h Q E QV eR hR hq k kx => ?_⟩
  exact sa σ H as ρ h _ E _ eR hR hq (fun c h1 as1 H1 hq1 l1 r1 => k _ _ _ _ hq1 l1 r1) kx
/-- .. as values: the first ones are True or False -/
def fAnd (fa fb : WE) : WE := fun ρ h Q E => fa ρ h (fun x h1 => match x with
  | .d (.bool true) => fb ρ h1 Q E
  | .d (.bool false) => Q (.d (.bool false)) h1
  | _ => False) E
def fOr (fa fb : WE) : WE := fun ρ h Q E => fa ρ h (fun x h1 => match x with
  | .d (.bool false) => fb ρ h1 Q E
  | .d (.bool true) => Q (.d (.bool true)) h1
  | _ => False) E
def fNot (fa : WE) : WE := fun ρ h Q E => fa ρ h (fun x h1 => match x with
  | .d (.bool b) => Q (.d (.bool (!b))) h1
  | _ => False) E
theorem SE.one {op} (ha : SE X W a fa) : SE X W (.BoolOp op [a] pos) fa := let ⟨_, p, s⟩ := ha; ⟨_, pe_one p, s⟩
theorem SE.and (ha : SE X W a fa) (hb : SE X W (.BoolOp .And (b :: rest) pos) fb) : SE X W (.BoolOp .And (a :: b :: rest) pos) (fAnd fa fb) := by
  obtain ⟨_, pa, sa⟩ := ha
  obtain ⟨_, pb, sb⟩ := hb
  refine ⟨_, pe_and pa pb, fun σ H as ρ h Q E QV eR hR hq k kx => ?_⟩
  refine sa σ H as ρ h _ E _ eR hR hq (fun x h1 v as1 H1 hq1 l1 r1 rv => ?_) kx
  split at hq1
  · cases rv with | d rv =>
    cases rv
    exact ⟨true, rfl, iteT (sb σ H1 as1 ρ h1 Q E QV (eR.later l1) r1 hq1 (k.later l1) (kx.later l1))⟩
  · cases rv with | d rv =>
    cases rv
    exact ⟨false, rfl, iteF ((k.later l1).qd r1 hq1 (.bl _))⟩
  · exact hq1.elim
theorem SE.or (ha : SE X W a fa) (hb : SE X W (.BoolOp .Or (b :: rest) pos) fb) : SE X W (.BoolOp .Or (a :: b :: rest) pos) (fOr fa fb) := by
  obtain ⟨_, pa, sa⟩ := ha
  obtain ⟨_, pb, sb⟩ := hb
  refine ⟨_, pe_or pa pb, fun σ H as ρ h Q E QV eR hR hq k kx => ?_⟩
  refine sa σ H as ρ h _ E _ eR hR hq (fun x h1 v as1 H1 hq1 l1 r1 rv => ?_) kx
  split at hq1
  · cases rv with | d rv =>
    cases rv
    exact ⟨false, rfl, iteF (sb σ H1 as1 ρ h1 Q E QV (eR.later l1) r1 hq1 (k.later l1) (kx.later l1))⟩
  · cases rv with | d rv =>
    cases rv
    exact ⟨true, rfl, iteT ((k.later l1).qd r1 hq1 (.bl _))⟩
  · exact hq1.elim
theorem SE.not (ha : SE X W a fa) : SE X W (.UnaryOp .Not a pos) (fNot fa) := by
  obtain ⟨_, pa, sa⟩ := ha
  refine ⟨_, pe_not pa, fun σ H as ρ h Q E QV eR hR hq k kx => ?_⟩
  refine sa σ H as ρ h _ E _ eR hR hq (fun x h1 v as1 H1 hq1 l1 r1 rv => ?_) kx
  split at hq1
  · cases rv with | d rv =>
    cases rv
    exact ⟨_, rfl, (k.later l1).qd r1 hq1 (.bl _)⟩
  · exact hq1.elim
def fIf (t : WT) (fa fb : WE) : WE := fun ρ h Q E => t ρ h (fun b h1 => if b = true then fa ρ h1 Q E else fb ρ h1 Q E) E
theorem SE.ifExp {c : Expr} {t : WT} (hc : ST X W c t) (ha : SE X W a fa) (hb : SE X W b fb) : SE X W (.IfExp c a b pos) (fIf t fa fb) := by
  obtain ⟨_, pc, sc⟩ := hc
  obtain ⟨_, pa, sa⟩ := ha
  obtain ⟨_, pb, sb⟩ := hb
  refine ⟨_, pe_ifExp pc pa pb, fun σ H as ρ h Q E QV eR hR hq k kx => ?_⟩
  refine sc σ H as ρ h _ E _ eR hR hq (fun c h1 as1 H1 hq1 l1 r1 => ?_) kx
  cases c with
  | true => exact iteT (sa σ H1 as1 ρ h1 Q E QV (eR.later l1) r1 hq1 (k.later l1) (kx.later l1))
  | false => exact iteF (sb σ H1 as1 ρ h1 Q E QV (eR.later l1) r1 hq1 (k.later l1) (kx.later l1))

/-! ### displays -/
variable {es : List Expr} {ga : WA}
/-- a tuple of data -/
def fTup (ga : WA) : WE := fun ρ h Q E => ga ρ h (fun xs h1 => match allD xs with
  | some ps => ps.length ≤ sizeLine ∧ Q (.d (.tuple ps)) h1
  | none => False) E
/-- a list of data that is never changed -/
def fLst (ga : WA) : WE := fun ρ h Q E => ga ρ h (fun xs h1 => match allD xs with
  | some ps => ps.length ≤ sizeLine ∧ Q (.d (.list ps)) h1
  | none => False) E
/-- a list that may be changed -/
def fLoc (ga : WA) : WE := fun ρ h Q E => ga ρ h (fun xs h1 => xs.length ≤ sizeLine ∧ Q (.loc h1.length) (h1 ++ [.lst xs])) E
theorem SE.tup {x1} (ha : SA X W es ga) : SE X W (.Tuple es x1 pos) (fTup ga) := by
  obtain ⟨_, pa, sa⟩ := ha
  refine ⟨_, pe_tup pa, fun σ H as ρ h Q E QV eR hR hq k kx => ?_⟩
  refine sa σ H as ρ h _ E _ eR hR hq (fun xs h1 vs as1 H1 hq1 l1 r1 rv => ?_) kx
  split at hq1
  · rename_i ps e
    have dv := rv.ofAllD e
    exact ⟨by rw [dv.length]; exact hq1.1, fun p hp => (k.later l1).newTup r1 hq1.2 dv hp⟩
  · exact hq1.elim
theorem SE.lst (ha : SA X W es ga) : SE X W (.List es pos) (fLst ga) := by
  obtain ⟨_, pa, sa⟩ := ha
  refine ⟨_, pe_lst pa, fun σ H as ρ h Q E QV eR hR hq k kx => ?_⟩
  refine sa σ H as ρ h _ E _ eR hR hq (fun xs h1 vs as1 H1 hq1 l1 r1 rv => ?_) kx
  split at hq1
  · rename_i ps e
    have dv := rv.ofAllD e
    exact ⟨by rw [dv.length]; exact hq1.1, fun p hp => (k.later l1).newLst r1 hq1.2 dv hp⟩
  · exact hq1.elim
theorem SE.loc (ha : SA X W es ga) : SE X W (.List es pos) (fLoc ga) := by
  obtain ⟨_, pa, sa⟩ := ha
  refine ⟨_, pe_lst pa, fun σ H as ρ h Q E QV eR hR hq k kx => ?_⟩
  refine sa σ H as ρ h _ E _ eR hR hq (fun xs h1 vs as1 H1 hq1 l1 r1 rv => ?_) kx
  exact ⟨by rw [rv.length]; exact hq1.1, fun p hp => (k.later l1).newLoc r1 hq1.2 rv hp⟩

/-! ### subscripts -/
def rIx2 : WR2 := fun x y h Q => match y with
  | .d (.int i) => match items h x with
    | some xs => match atI xs i with
      | some v => Q v h
      | none => False
    | none => False
  | _ => False
theorem RelAll.atI {K : Frag} {as : List Addr} {H : Hp} {vs : List V} {xs : List D} (r : RelAll K as H vs xs) {i : Int} {x : D} (e : L2.atI xs i = some x) : ∃ v, L2.atI vs i = some v ∧ Rel K as H v x := by
  unfold L2.atI at e
  cases q : ixN xs.length i with
  | none => rw [q] at e; cases e
  | some j =>
    rw [q] at e
    obtain ⟨v, e1, e2⟩ := r.get (show xs[j]? = some x from e)
    refine ⟨v, ?_, e2⟩
    unfold L2.atI
    rw [r.length, q]
    exact e1
theorem cp_ix : Cp2 X (fun x y H Q => rIxL X.K x y H Q ∨ rIxT X.K x y H Q) rIx2 := by
  intro x y h Q v w as H QV rx ry hR hq k
  unfold rIx2 at hq
  split at hq
  · rename_i i
    cases ry with | d ry =>
    cases ry
    split at hq
    · rename_i xs e
      split at hq
      · rename_i z ez
        obtain ⟨a, vs, rfl, s, ra⟩ := items_rel rx hR e
        obtain ⟨u, e1, e2⟩ := ra.atI ez
        rcases s with s | s
        · exact .inl ⟨a, vs, i, u, rfl, rfl, s, e1, k.q hR hq e2⟩
        · exact .inr ⟨a, vs, i, u, rfl, rfl, s, e1, k.q hR hq e2⟩
      · exact hq.elim
    · exact hq.elim
  · exact hq.elim
theorem SE.ix (ha : SE X W a fa) (hb : SE X W b fb) (hs : PlainIx b := by exact fun _ _ => rfl) : SE X W (.Subscript a b pos) (fBin rIx2 fa fb) := by
  obtain ⟨ta, pa, sa⟩ := ha
  obtain ⟨tb, pb, sb⟩ := hb
  exact ⟨_, pe_ix (ix_list.or ix_tup) pa pb hs, sp_op cp_ix sa sb⟩

/-! ### slices -/
def SO (X : Cx) (W : WX) (e : Option Expr) (f : En → Ho → (Option Int → Ho → Prop) → XD → Prop) : Prop :=
  ∃ t, PO X e t ∧ ∀ σ H as ρ h Q E (QV : Option Int → Hp → Prop), EnvR X.K as H ρ σ → HeapR X.K as H h → f ρ h Q E →
    (∀ o h' as1 H', Q o h' → Later as H as1 H' → HeapR X.K as1 H' h' → QV o H') → XTo X W as H σ E → t σ H QV
def oNone : En → Ho → (Option Int → Ho → Prop) → XD → Prop := fun _ h Q _ => Q none h
def oSome (f : WE) : En → Ho → (Option Int → Ho → Prop) → XD → Prop := fun ρ h Q E => f ρ h (fun x h1 => match x with
  | .d (.int i) => Q (some i) h1
  | _ => False) E
theorem SO.none : SO X W none oNone := ⟨_, po_none, fun σ H as ρ h Q E QV _ hR hq k _ => k _ _ _ _ hq (Later.refl _ _) hR⟩
theorem SO.some (ha : SE X W a fa) : SO X W (some a) (oSome fa) := by
  obtain ⟨_, pa, sa⟩ := ha
  refine ⟨_, po_some pa, fun σ H as ρ h Q E QV eR hR hq k kx => ?_⟩
  refine sa σ H as ρ h _ E _ eR hR hq (fun x h1 v as1 H1 hq1 l1 r1 rv => ?_) kx
  split at hq1
  · cases rv with | d rv =>
    cases rv
    exact ⟨_, rfl, k _ _ _ _ hq1 l1 r1⟩
  · exact hq1.elim
def cut {α : Type} (xs : List α) (lo hi : Option Int) : List α := (xs.drop (HT.sIx xs.length 0 lo)).take (HT.sIx xs.length xs.length hi - HT.sIx xs.length 0 lo)
theorem DvAll.cut {K : Frag} {as : List Addr} {H : Hp} {vs : List V} {ps : List PyData} (r : DvAll K as H vs ps) (lo hi : Option Int) : DvAll K as H (cutV vs lo hi) (V2.cut ps lo hi) := by
  unfold cutV V2.cut
  rw [r.length]
  exact (r.drop _).take _
def fSl (fa : WE) (lo hi : En → Ho → (Option Int → Ho → Prop) → XD → Prop) : WE := fun ρ h Q E => fa ρ h (fun x h1 => lo ρ h1 (fun l h2 => hi ρ h2 (fun u h3 => match x with
  | .d (.list ps) => Q (.d (.list (cut ps l u))) h3
  | .d (.tuple ps) => Q (.d (.tuple (cut ps l u))) h3
  | _ => False) E) E) E
theorem SE.slice {lo hi : Option Expr} {fl fu} {p2 : Pos} (ha : SE X W a fa) (hl : SO X W lo fl) (hu : SO X W hi fu) : SE X W (.Subscript a (.Slice lo hi Option.none p2) pos) (fSl fa fl fu) := by
  obtain ⟨_, pa, sa⟩ := ha
  obtain ⟨_, pl, sl⟩ := hl
  obtain ⟨_, pu, su⟩ := hu
  refine ⟨_, pe_slice (sl_list.or sl_tupA) pa pl pu, fun σ H as ρ h Q E QV eR hR hq k kx => ?_⟩
  refine sa σ H as ρ h _ E _ eR hR hq (fun x h1 v as1 H1 hq1 l1 r1 rv => ?_) kx
  refine sl σ H1 as1 ρ h1 _ E _ (eR.later l1) r1 hq1 (fun lo h2 as2 H2 hq2 l2 r2 => ?_) (kx.later l1)
  refine su σ H2 as2 ρ h2 _ E _ ((eR.later l1).later l2) r2 hq2 (fun hi h3 as3 H3 hq3 l3 r3 => ?_) ((kx.later l1).later l2)
  have k3 := ((k.later l1).later l2).later l3
  have rv3 := (rv.later l2).later l3
  split at hq3
  · cases rv3 with | d rv3 =>
    cases rv3 with | lst sx ax =>
    exact .inl ⟨_, _, rfl, sx.sq, fun p hp => k3.newLst r3 hq3 (ax.cut _ _) hp⟩
  · cases rv3 with | d rv3 =>
    cases rv3 with | tup sx ax =>
    rename_i ps _ _
    refine .inr ⟨_, _, rfl, sx.sq, fun e => ?_, fun _ p hp => k3.newTup r3 hq3 (ax.cut _ _) hp⟩
    have ee : V2.cut ps lo hi = ps := by
      rw [ax.length] at e
      unfold V2.cut
      rw [e.1, e.2]
      simp
    rw [ee] at hq3
    exact k3.qd r3 hq3 (.tup sx ax)
  · exact hq3.elim
/-- xs[::-1]: a new list; a place, or data -/
def fRevLoc (fa : WE) : WE := fun ρ h Q E => fa ρ h (fun x h1 => match litems h1 x with
  | some xs => Q (.loc h1.length) (h1 ++ [.lst xs.reverse])
  | none => False) E
def fRev (fa : WE) : WE := fun ρ h Q E => fa ρ h (fun x h1 => match x with
  | .d (.list ps) => Q (.d (.list ps.reverse)) h1
  | _ => False) E
theorem SE.revLoc {e : Expr} {k : Nat} {p1 p2 p3 : Pos} (ha : SE X W e fa) : SE X W (.Subscript e (.Slice Option.none Option.none (Option.some (.UnaryOp .USub (.Constant (.int 1) k p1) p2)) p3) pos) (fRevLoc fa) := by
  obtain ⟨_, pa, sa⟩ := ha
  refine ⟨_, pe_revL pa, fun σ H as ρ h Q E QV eR hR hq k kx => ?_⟩
  refine sa σ H as ρ h _ E _ eR hR hq (fun x h1 v as1 H1 hq1 l1 r1 rv => ?_) kx
  split at hq1
  · rename_i xs e
    obtain ⟨a, vs, rfl, s, ra⟩ := litems_rel rv r1 e
    exact ⟨a, vs, rfl, s, fun p hp => (k.later l1).newLoc r1 hq1 ra.reverse hp⟩
  · exact hq1.elim
theorem SE.rev {e : Expr} {k : Nat} {p1 p2 p3 : Pos} (ha : SE X W e fa) : SE X W (.Subscript e (.Slice Option.none Option.none (Option.some (.UnaryOp .USub (.Constant (.int 1) k p1) p2)) p3) pos) (fRev fa) := by
  obtain ⟨_, pa, sa⟩ := ha
  refine ⟨_, pe_revL pa, fun σ H as ρ h Q E QV eR hR hq k kx => ?_⟩
  refine sa σ H as ρ h _ E _ eR hR hq (fun x h1 v as1 H1 hq1 l1 r1 rv => ?_) kx
  split at hq1
  · cases rv with | d rv =>
    cases rv with | lst sx ax =>
    exact ⟨_, _, rfl, sx.sq, fun p hp => (k.later l1).newLst r1 hq1 ax.reverse hp⟩
  · exact hq1.elim
end
end V2
set_option Elab.async false
set_option linter.all false
set_option maxRecDepth 100000
set_option maxHeartbeats 4000000
namespace V2
open PySem PySem.Spec PyProof.Rows L2
open PySem.W (Frag)
mutual
theorem dp_noDict {K : Frag} {H : Hp} : ∀ {p : PyData} {v : V}, Dp K H v p → p.hasDict = false
  | .none, _, _ => by simp [PyData.hasDict]
  | .bool _, _, _ => by simp [PyData.hasDict]
  | .int _, _, _ => by simp [PyData.hasDict]
  | .str _, _, _ => by simp [PyData.hasDict]
  | .list ds, _, h => by
    cases h with
    | lst _ ha => simp only [PyData.hasDict]; exact dpAll_noDict ha
  | .tuple ds, _, h => by
    cases h with
    | tup _ ha => simp only [PyData.hasDict]; exact dpAll_noDict ha
  | .dict _, _, h => by cases h
theorem dpAll_noDict {K : Frag} {H : Hp} : ∀ {ps : List PyData} {vs : List V}, DpAll K H vs ps → PyData.hasDictAll ps = false
  | [], _, _ => by simp [PyData.hasDictAll]
  | d :: ds, _, h => by
    cases h with
    | cons h1 h2 => simp only [PyData.hasDictAll, dp_noDict h1, dpAll_noDict h2, Bool.or_self]
end
section
variable {X : Cx} {W : WX} {a : Expr} {es : List Expr} {ga : WA} {pos p : Pos}
abbrev WR := List D → Ho → KD → Prop
def CpA (X : Cx) (rV : List V → Hp → VK → Prop) (r : WR) : Prop := ∀ xs h Q vs as H QV, RelAll X.K as H vs xs → HeapR X.K as H h → r xs h Q → KTo X as H Q QV → rV vs H QV
def fCall (r : WR) (ga : WA) : WE := fun ρ h Q E => ga ρ h (fun xs h1 => r xs h1 Q) E
theorem sp_call {rV : List V → Hp → VK → Prop} {r : WR} {t : TA} (c : CpA X rV r) (sa : SpA X W t ga) : SpE X W (tCB rV t) (fCall r ga) := by
  intro σ H as ρ h Q E QV eR hR hq k kx
  exact sa σ H as ρ h _ E _ eR hR hq (fun xs h1 vs as1 H1 hq1 l1 r1 rv => c xs h1 Q vs as1 H1 QV rv r1 hq1 (k.later l1)) kx
/-- a built-in function by its name -/
theorem SE.callB {id : String} {x : Str} {rV : List V → Hp → VK → Prop} {r : WR} (hc : CallR X (.builtin id) rV) (c : CpA X rV r) (hg : Gl X x) (hm : X.mg x = none) (hv : bootBuiltins x = some (.builtin id)) (ha : SA X W (a :: es) ga)
    (hn : x ≠ "__name__" := by decide) (hdb : (x == ("__debug__" : Str)) = false := by decide)
    (he : starEach (a :: es) X.env = (false, eval a X.env) :: starEach es X.env := by rfl) (hpl : (backTo pos (starEach es X.env)).any (·.1) = false := by rfl) : SE X W (.Call (.Name x p) (a :: es) [] pos) (fCall r ga) := by
  obtain ⟨_, pa, sa⟩ := ha
  exact ⟨_, pe_callB hc hg hm hv pa hn hdb he hpl, sp_call c sa⟩
theorem SE.callTy {T : String} {x : Str} {rV : List V → Hp → VK → Prop} {r : WR} (hc : CallR X (.type T) rV) (c : CpA X rV r) (hg : Gl X x) (hm : X.mg x = none) (hv : bootBuiltins x = some (.type T)) (ha : SA X W (a :: es) ga)
    (hn : x ≠ "__name__" := by decide) (hdb : (x == ("__debug__" : Str)) = false := by decide)
    (he : starEach (a :: es) X.env = (false, eval a X.env) :: starEach es X.env := by rfl) (hpl : (backTo pos (starEach es X.env)).any (·.1) = false := by rfl) : SE X W (.Call (.Name x p) (a :: es) [] pos) (fCall r ga) := by
  obtain ⟨_, pa, sa⟩ := ha
  exact ⟨_, pe_callTy hc hg hm hv pa hn hdb he hpl, sp_call c sa⟩
/-- a module's name for a built-in function -/
theorem SE.callM {id : String} {x : Str} {rV : List V → Hp → VK → Prop} {r : WR} (hc : CallR X (.builtin id) rV) (c : CpA X rV r) (hg : Gl X x) (hm : X.mg x = some (.builtin id)) (ha : SA X W (a :: es) ga) (hdb : (x == ("__debug__" : Str)) = false := by decide)
    (he : starEach (a :: es) X.env = (false, eval a X.env) :: starEach es X.env := by rfl) (hpl : (backTo pos (starEach es X.env)).any (·.1) = false := by rfl) : SE X W (.Call (.Name x p) (a :: es) [] pos) (fCall r ga) := by
  obtain ⟨_, pa, sa⟩ := ha
  exact ⟨_, pe_callBfun hc hg hm pa hdb he hpl, sp_call c sa⟩

/-! ### the built-in functions -/
def rAbs : WR := fun xs h Q => match xs with
  | [.d (.int i)] => Q (.d (.int (if i < 0 then -i else i))) h
  | _ => False
theorem rel_int {K : Frag} {as : List Addr} {H : Hp} {v : V} {i : Int} (r : Rel K as H v (.d (.int i))) : v = .int i := by
  cases r with | d r => cases r; rfl
theorem rel_bl {K : Frag} {as : List Addr} {H : Hp} {v : V} {i : Bool} (r : Rel K as H v (.d (.bool i))) : v = .bl i := by
  cases r with | d r => cases r; rfl
theorem rel_str {K : Frag} {as : List Addr} {H : Hp} {v : V} {i : Str} (r : Rel K as H v (.d (.str i))) : v = .str i := by
  cases r with | d r => cases r; rfl
theorem rel_non {K : Frag} {as : List Addr} {H : Hp} {v : V} (r : Rel K as H v (.d .none)) : v = .non := by
  cases r with | d r => cases r; rfl
theorem relAll1 {K : Frag} {as : List Addr} {H : Hp} {vs : List V} {x : D} (r : RelAll K as H vs [x]) : ∃ v, vs = [v] ∧ Rel K as H v x := by
  cases r with | cons r t => cases t; exact ⟨_, rfl, r⟩
theorem relAll2 {K : Frag} {as : List Addr} {H : Hp} {vs : List V} {x y : D} (r : RelAll K as H vs [x, y]) : ∃ v w, vs = [v, w] ∧ Rel K as H v x ∧ Rel K as H w y := by
  cases r with | cons r t => cases t with | cons r2 t => cases t; exact ⟨_, _, rfl, r, r2⟩
theorem cp_abs : CpA X (fun xs H Q => ∃ i, xs = [.int i] ∧ Q (.int (if i < 0 then -i else i)) H) rAbs := by
  intro xs h Q vs as H QV rv hR hq k
  unfold rAbs at hq
  split at hq
  · obtain ⟨v, rfl, r⟩ := relAll1 rv
    rw [rel_int r]
    exact ⟨_, rfl, k.qd hR hq (.int _)⟩
  · exact hq.elim
def rInt1 : WR := fun xs h Q => match xs with
  | [.d (.int i)] => Q (.d (.int i)) h
  | [.d (.bool b)] => Q (.d (.int (if b then 1 else 0))) h
  | _ => False
theorem cp_int1 : CpA X (fun xs H Q => (∃ i, xs = [.int i] ∧ Q (.int i) H) ∨ ∃ k, xs = [.bl k] ∧ Q (.int (if k then 1 else 0)) H) rInt1 := by
  intro xs h Q vs as H QV rv hR hq k
  unfold rInt1 at hq
  split at hq
  · obtain ⟨v, rfl, r⟩ := relAll1 rv
    rw [rel_int r]
    exact .inl ⟨_, rfl, k.qd hR hq (.int _)⟩
  · obtain ⟨v, rfl, r⟩ := relAll1 rv
    rw [rel_bl r]
    exact .inr ⟨_, rfl, k.qd hR hq (.int _)⟩
  · exact hq.elim
def rGcd2 : WR := fun xs h Q => match xs with
  | [.d (.int i), .d (.int j)] => Q (.d (.int (Nat.gcd i.natAbs j.natAbs : Nat))) h
  | _ => False
theorem cp_gcd : CpA X rGcd rGcd2 := by
  intro xs h Q vs as H QV rv hR hq k
  unfold rGcd2 at hq
  split at hq
  · obtain ⟨v, w, rfl, r1, r2⟩ := relAll2 rv
    rw [rel_int r1, rel_int r2]
    exact ⟨_, _, rfl, k.qd hR hq (.int _)⟩
  · exact hq.elim
def rLen : WR := fun xs h Q => match xs with
  | [x] => match items h x with
    | some ys => Q (.d (.int ys.length)) h
    | none => False
  | _ => False
theorem cp_len : CpA X (fun xs H Q => ∃ p ys, xs = [.ref p] ∧ (SqL X.K H p ys ∨ SqT X.K H p ys) ∧ Q (.int ys.length) H) rLen := by
  intro xs h Q vs as H QV rv hR hq k
  unfold rLen at hq
  split at hq
  · split at hq
    · rename_i ys e
      obtain ⟨v, rfl, r⟩ := relAll1 rv
      obtain ⟨a, us, rfl, s, ra⟩ := items_rel r hR e
      exact ⟨a, us, rfl, s, by rw [ra.length]; exact k.qd hR hq (.int _)⟩
    · exact hq.elim
  · exact hq.elim
def rMax2 : WR := fun xs h Q => match xs with
  | [.d (.int i), .d (.int j)] => Q (.d (.int (if j > i then j else i))) h
  | _ => False
theorem cp_max2 : CpA X (fun xs H Q => ∃ i j, xs = [.int i, .int j] ∧ Q (.int (if j > i then j else i)) H) rMax2 := by
  intro xs h Q vs as H QV rv hR hq k
  unfold rMax2 at hq
  split at hq
  · obtain ⟨v, w, rfl, r1, r2⟩ := relAll2 rv
    rw [rel_int r1, rel_int r2]
    exact ⟨_, _, rfl, k.qd hR hq (.int _)⟩
  · exact hq.elim
def rMin2 : WR := fun xs h Q => match xs with
  | [.d (.int i), .d (.int j)] => Q (.d (.int (if j < i then j else i))) h
  | _ => False
theorem cp_min2 : CpA X (fun xs H Q => ∃ i j, xs = [.int i, .int j] ∧ Q (.int (if j < i then j else i)) H) rMin2 := by
  intro xs h Q vs as H QV rv hR hq k
  unfold rMin2 at hq
  split at hq
  · obtain ⟨v, w, rfl, r1, r2⟩ := relAll2 rv
    rw [rel_int r1, rel_int r2]
    exact ⟨_, _, rfl, k.qd hR hq (.int _)⟩
  · exact hq.elim
/-- repr of data at any depth -/
def rReprV (K : Frag) : List V → Hp → VK → Prop := fun xs H Q => ∃ v d, xs = [v] ∧ Dp K H v d ∧ d.showable = true ∧ d.depth < 60 ∧ d.shown.length ≤ sizeLine ∧ Q (.str d.shown) H
theorem call_reprD (hg : X.A.guards = some []) (hu : X.A.units + 64 < cLine) : CallR X (.builtin "repr") (rReprV X.K) := by
  intro pins s σ H xs us Q I r h
  obtain ⟨v, d, rfl, hd, hs, hdep, hz, q⟩ := h
  obtain ⟨u, rfl, ru⟩ := vals1 r
  have fin : ∀ tk t, EP X pins σ Q (.str d.shown t) { s with toks := tk } := fun tk t => ⟨.str d.shown, H, I.tok _, ⟨_, rfl⟩, q⟩
  cases hd with
  | non =>
    cases ru
    exact P.repr_of_none (by simp only [PyData.shown] at fin; exact fin _ _)
  | bl b =>
    cases ru
    exact P.repr_of_bool (by simp only [PyData.shown] at fin; cases b <;> exact fin _ _)
  | int i =>
    obtain ⟨t, rfl⟩ := ru
    simp only [PyData.showable, decide_eq_true_eq] at hs
    exact P.repr_of_int hs (by simp only [PyData.shown] at fin; exact fin _ _)
  | str x =>
    obtain ⟨t, rfl⟩ := ru
    simp only [PyData.shown] at hz
    exact P.repr_of_str (by simp only [PyData.shown] at fin; exact fin _ _) hz
  | lst h1 h2 =>
    have hd' : Dp X.K H _ _ := .lst h1 h2
    obtain ⟨as, rd⟩ := Dp.reads I _ _ u hd' ru
    cases ru
    refine repr_of_reads' rd hs (fun e => by rw [dp_noDict hd'] at e; cases e) hg (by omega) (fun _ _ e => e) (fun h' t tk kp => ?_) hz
    exact ⟨.str _, H, I.kept kp, ⟨_, rfl⟩, q⟩
  | tup h1 h2 =>
    have hd' : Dp X.K H _ _ := .tup h1 h2
    obtain ⟨as, rd⟩ := Dp.reads I _ _ u hd' ru
    cases ru
    refine repr_of_reads' rd hs (fun e => by rw [dp_noDict hd'] at e; cases e) hg (by omega) (fun _ _ e => e) (fun h' t tk kp => ?_) hz
    exact ⟨.str _, H, I.kept kp, ⟨_, rfl⟩, q⟩
def rRepr : WR := fun xs h Q => match xs with
  | [x] => match datum h x with
    | some p => p.showable = true ∧ p.depth < 60 ∧ p.shown.length ≤ sizeLine ∧ Q (.d (.str p.shown)) h
    | none => False
  | _ => False
theorem cp_repr : CpA X (rReprV X.K) rRepr := by
  intro xs h Q vs as H QV rv hR hq k
  unfold rRepr at hq
  split at hq
  · split at hq
    · rename_i p e
      obtain ⟨v, rfl, r⟩ := relAll1 rv
      exact ⟨v, p, rfl, datum_dp r hR e, hq.1, hq.2.1, hq.2.2.1, k.qd hR hq.2.2.2 (.str _)⟩
    · exact hq.elim
  · exact hq.elim
/-- sum of ints -/
def intsOf : List D → Option (List Int)
  | [] => some []
  | .d (.int i) :: xs => (intsOf xs).map (i :: ·)
  | _ :: _ => none
theorem intsOf_map : ∀ ns : List Int, intsOf (ns.map fun i => D.d (.int i)) = some ns
  | [] => rfl
  | n :: ns => by simp [intsOf, intsOf_map ns]
theorem intsOf_some : ∀ {xs : List D} {ns : List Int}, intsOf xs = some ns → xs = ns.map fun i => D.d (.int i)
  | [], ns, h => by simp [intsOf] at h; subst h; rfl
  | .d (.int i) :: xs, ns, h => by
    simp only [intsOf, Option.map_eq_some_iff] at h
    obtain ⟨q, h1, rfl⟩ := h
    rw [intsOf_some h1]; rfl
  | .d .none :: _, _, h => by simp [intsOf] at h
  | .d (.bool _) :: _, _, h => by simp [intsOf] at h
  | .d (.str _) :: _, _, h => by simp [intsOf] at h
  | .d (.list _) :: _, _, h => by simp [intsOf] at h
  | .d (.tuple _) :: _, _, h => by simp [intsOf] at h
  | .d (.dict _) :: _, _, h => by simp [intsOf] at h
  | .loc _ :: _, _, h => by simp [intsOf] at h
theorem RelAll.ints {K : Frag} {as : List Addr} {H : Hp} : ∀ {ns : List Int} {vs : List V}, RelAll K as H vs (ns.map fun i => D.d (.int i)) → vs = ns.map V.int
  | [], _, h => by cases h; rfl
  | n :: ns, _, h => by
    cases h with
    | cons h1 h2 => rw [rel_int h1, RelAll.ints h2]; rfl
def rSum : WR := fun xs h Q => match xs with
  | [x] => match litems h x with
    | some ys => match intsOf ys with
      | some ns => Q (.d (.int ns.sum)) h
      | none => False
    | none => False
  | _ => False
theorem cp_sum : CpA X (L2.rSum X.K) rSum := by
  intro xs h Q vs as H QV rv hR hq k
  unfold rSum at hq
  split at hq
  · split at hq
    · split at hq
      · rename_i e _ ns en
        obtain ⟨v, rfl, r⟩ := relAll1 rv
        obtain ⟨a, us, rfl, s, ra⟩ := litems_rel r hR e
        rw [intsOf_some en] at ra
        rw [ra.ints] at s
        exact ⟨a, ns, rfl, s, k.qd hR hq (.int _)⟩
      · exact hq.elim
    · exact hq.elim
  · exact hq.elim
variable {es : List Expr}
theorem SE.abs (hg : Gl X "abs") (hm : X.mg "abs" = none) (ha : SA X W [a] ga) (he : starEach [a] X.env = (false, eval a X.env) :: starEach [] X.env := by rfl) : SE X W (.Call (.Name "abs" p) [a] [] pos) (fCall rAbs ga) := .callB call_abs cp_abs hg hm (by decide +kernel) ha (he := he) (hpl := rfl)
theorem SE.int1 (hg : Gl X "int") (hm : X.mg "int" = none) (ha : SA X W [a] ga) (he : starEach [a] X.env = (false, eval a X.env) :: starEach [] X.env := by rfl) : SE X W (.Call (.Name "int" p) [a] [] pos) (fCall rInt1 ga) := .callTy call_int1 cp_int1 hg hm (by decide +kernel) ha (he := he) (hpl := rfl)
theorem SE.len (hg : Gl X "len") (hm : X.mg "len" = none) (ha : SA X W [a] ga) (he : starEach [a] X.env = (false, eval a X.env) :: starEach [] X.env := by rfl) : SE X W (.Call (.Name "len" p) [a] [] pos) (fCall rLen ga) := .callB call_len_seq cp_len hg hm (by decide +kernel) ha (he := he) (hpl := rfl)
theorem SE.repr (hgu : X.A.guards = some []) (hu : X.A.units + 64 < cLine) (hg : Gl X "repr") (hm : X.mg "repr" = none) (ha : SA X W [a] ga) (he : starEach [a] X.env = (false, eval a X.env) :: starEach [] X.env := by rfl) : SE X W (.Call (.Name "repr" p) [a] [] pos) (fCall rRepr ga) := .callB (call_reprD hgu hu) cp_repr hg hm (by decide +kernel) ha (he := he) (hpl := rfl)
theorem SE.sum (hg : Gl X "sum") (hm : X.mg "sum" = none) (hc : X.calm = true) (ha : SA X W [a] ga) (he : starEach [a] X.env = (false, eval a X.env) :: starEach [] X.env := by rfl) : SE X W (.Call (.Name "sum" p) [a] [] pos) (fCall rSum ga) := .callB (cr_sum hc) cp_sum hg hm (by decide +kernel) ha (he := he) (hpl := rfl)
theorem SE.gcd (hg : Gl X "gcd") (hm : X.mg "gcd" = some (.builtin "math.gcd")) (ha : SA X W (a :: es) ga) (he : starEach (a :: es) X.env = (false, eval a X.env) :: starEach es X.env := by rfl) (hpl : (backTo pos (starEach es X.env)).any (·.1) = false := by rfl) : SE X W (.Call (.Name "gcd" p) (a :: es) [] pos) (fCall rGcd2 ga) := .callM cr_gcd cp_gcd hg hm ha (he := he) (hpl := hpl)

/-! ### methods that change a list of the store -/
variable {o : Expr} {fo : WE} {apos cpos : Pos}
/-- xs.append(e) -/
def fAppend (fo : WE) (ga : WA) : WE := fun ρ h Q E => fo ρ h (fun x h1 => match x with
  | .loc n => match h1[n]? with
    | some (.lst _) => ga ρ h1 (fun ys h2 => match ys, h2[n]? with
      | [y], some (.lst xs) => xs.length < sizeLine ∧ Q (.d .none) (h2.set n (.lst (xs ++ [y])))
      | _, _ => False) E
    | none => False
  | _ => False) E
theorem KTo.write {as : List Addr} {H : Hp} {h : Ho} {Q : KD} {QV : VK} (k : KTo X as H Q QV) (r : HeapR X.K as H h) {n : Nat} {b : Addr} {vs : List V} {xs : List D} {y : D} {v : V} (hb : as[n]? = some b) (q : Q y (h.set n (.lst xs))) (rv : RelAll X.K as H vs xs)
    (ry : Rel X.K as H v y) : QV v (upd H b (.lst vs)) := by
  have l : Later as H as (upd H b (.lst vs)) := Later.write _ (List.mem_of_getElem? hb)
  exact k _ _ _ _ _ q l (r.write hb rv) (ry.later l)
theorem SE.append {e : Expr} (ho : SE X W o fo) (ha : SA X W [e] ga) (hbase : attributeBase o "append" X.env (eval o X.env) = eval o X.env := by rfl)
    (hfew : ((backTo cpos (starEach [e] X.env)).all (fun x => !x.1) && (backToKw cpos (keywordEach [] X.env)).all (fun x => x.1.isSome)
      && decide ([e].length + ([] : List Keyword).length + (if ([] : List Keyword).isEmpty then 0 else 1) < 30)) = true := by rfl)
    (hline : (apos.endLine == cpos.line) = true := by rfl) (hs : starEach [e] X.env = (false, eval e X.env) :: starEach [] X.env := by rfl) : SE X W (.Call (.Attribute o "append" apos) [e] [] cpos) (fAppend fo ga) := by
  obtain ⟨_, po, so⟩ := ho
  obtain ⟨_, pa, sa⟩ := ha
  refine ⟨_, pe_bm PySem.F.plainAttrs_list PySem.F.slot_list_append PySem.F.type_list_append mt_append po pa hbase hfew hline hs rfl, fun σ H as ρ h Q E QV eR hR hq k kx => ?_⟩
  refine so σ H as ρ h _ E _ eR hR hq (fun x h1 v as1 H1 hq1 l1 r1 rv => ?_) kx
  split at hq1
  · rename_i n
    split at hq1
    · rename_i xs0 e0
      cases rv with | loc hn =>
      obtain ⟨b, hb, vs0, o1, o2⟩ := r1.at e0
      rw [hn] at hb
      cases hb
      refine ⟨.inl ⟨rfl, _, SqL.of o1⟩, ?_⟩
      refine sa σ H1 as1 ρ h1 _ E _ (eR.later l1) r1 hq1 (fun ys h2 us as2 H2 hq2 l2 r2 rvs => ?_) (kx.later l1)
      split at hq2
      · rename_i y xs e2
        obtain ⟨u, rfl, ru⟩ := relAll1 rvs
        obtain ⟨b, hb, vs, o3, o4⟩ := r2.at e2
        rw [l2.at hn] at hb
        cases hb
        refine ⟨_, vs, u, rfl, rfl, o3, by rw [o4.length]; exact hq2.1, ?_⟩
        exact ((k.later l1).later l2).write r2 (l2.at hn) hq2.2 (o4.append (.cons ru .nil)) (.d .non)
      · exact hq2.elim
    · exact hq1.elim
  · exact hq1.elim
/-- xs.pop() -/
def fPop (fo : WE) : WE := fun ρ h Q E => fo ρ h (fun x h1 => match x with
  | .loc n => match h1[n]? with
    | some (.lst xs) => match xs[xs.length - 1]? with
      | some y => Q y (h1.set n (.lst xs.dropLast))
      | none => False
    | none => False
  | _ => False) E
theorem SE.pop (ho : SE X W o fo) (hbase : attributeBase o "pop" X.env (eval o X.env) = eval o X.env := by rfl) (hline : (apos.endLine == cpos.line) = true := by rfl) : SE X W (.Call (.Attribute o "pop" apos) [] [] cpos) (fPop fo) := by
  obtain ⟨_, po, so⟩ := ho
  refine ⟨_, pe_bm0 PySem.F.plainAttrs_list PySem.F.slot_list_pop PySem.F.type_list_pop mt_pop po hbase hline, fun σ H as ρ h Q E QV eR hR hq k kx => ?_⟩
  refine so σ H as ρ h _ E _ eR hR hq (fun x h1 v as1 H1 hq1 l1 r1 rv => ?_) kx
  split at hq1
  · split at hq1
    · rename_i n _ xs e0
      split at hq1
      · rename_i _ y ey
        cases rv with | loc hn =>
        obtain ⟨b, hb, vs, o1, o2⟩ := r1.at e0
        rw [hn] at hb
        cases hb
        obtain ⟨u, eu, ru⟩ := o2.get ey
        exact ⟨.inl ⟨rfl, _, SqL.of o1⟩, _, vs, u, rfl, rfl, o1, by rw [o2.length]; exact eu, (k.later l1).write r1 hn hq1 o2.dropLast ru⟩
      · exact hq1.elim
    · exact hq1.elim
  · exact hq1.elim

end
end V2
set_option Elab.async false
set_option linter.all false
set_option maxRecDepth 100000
set_option maxHeartbeats 4000000
namespace V2
open PySem PySem.Spec PyProof.Rows L2
open PySem.W (Frag)

/-! ### what is walked -/
/-- the items, and what must stay so of the store while it is walked -/
abbrev WI := En → Ho → (List D → (Ho → Prop) → Ho → Prop) → XD → Prop
/-- the walk J of the items xs, from the state as1 H1 on, while st holds -/
def Walks (K : Frag) (as1 : List Addr) (H1 : Hp) (xs : List D) (st : Ho → Prop) (J : It) : Prop :=
  ∀ i as2 H2 h2, Later as1 H1 as2 H2 → HeapR K as2 H2 h2 → st h2 → (i < xs.length → J.go i H2) ∧ (i = xs.length → J.stop i H2) ∧
    ∀ v H3, J.yld i H2 v H3 → ∀ x, xs[i]? = some x → Later as2 H2 as2 H3 ∧ HeapR K as2 H3 h2 ∧ Rel K as2 H3 v x
def SI (X : Cx) (W : WX) (tg it : Expr) (f : WI) : Prop :=
  ∃ wi : TI, PI X tg it wi ∧ ∀ σ H as ρ h Q E (R : It → Hp → Prop), EnvR X.K as H ρ σ → HeapR X.K as H h → f ρ h Q E →
    (∀ xs st h1 as1 H1 (J : It), Q xs st h1 → st h1 → Later as H as1 H1 → HeapR X.K as1 H1 h1 → Walks X.K as1 H1 xs st J → R J H1) → XTo X W as H σ E → wi σ H R
section
variable {X : Cx} {W : WX} {tg a : Expr} {fa : WE} {ga : WA} {pos p : Pos}
/-- a list or a tuple, data or a place -/
def stay (x : D) (xs : List D) : Ho → Prop := fun h => match x with
  | .loc n => h[n]? = some (.lst xs)
  | _ => True
theorem stay_items {x : D} {xs : List D} {h : Ho} (e : items h x = some xs) : stay x xs h := by
  unfold stay
  split
  · rename_i n
    simp only [items] at e
    split at e
    · rename_i ys en
      cases e
      exact en
    · cases e
  · trivial
theorem items_stay {x : D} {xs : List D} {h h2 : Ho} (e : items h x = some xs) (s : stay x xs h2) : items h2 x = some xs := by
  cases x with
  | d p => cases p <;> exact e
  | loc n =>
    have s' : h2[n]? = some (.lst xs) := s
    simp only [items, s']
def iSeq (fa : WE) : WI := fun ρ h Q E => fa ρ h (fun x h1 => match items h1 x with
  | some xs => Q xs (stay x xs) h1
  | none => False) E
def tSeqI (K : Frag) (tl : TE) : TI := fun σ H R => tl σ H fun x H1 => ∃ b, x = .ref b ∧ (((∃ xs, SqL K H1 b xs) ∧ R (Itl K b) H1) ∨ ((∃ xs, SqT K H1 b xs) ∧ R (Itt K b) H1))
theorem pi_seqI {l : Expr} {tl : TE} (hl : PE X l tl) : PI X tg l (tSeqI X.K tl) := by
  refine ⟨fun pins s σ H R I hw => ?_⟩
  refine thn (hl.run pins s σ H _ I hw) fun v s1 ⟨x, H1, I1, r1, b, eb, q1⟩ => ?_
  subst eb
  cases r1
  rcases q1 with ⟨⟨xs, hq⟩, q⟩ | ⟨⟨xs, hq⟩, q⟩
  · obtain ⟨its, rv, pl, hz⟩ := I1.list hq
    exact wpAny_pyIter_list pl.isList (pi_one (tk := s1.toks) I1 _ (turn_list b _) ⟨_, Heap.get?_push_size _ rfl, rfl, rfl⟩ q)
  · obtain ⟨its, rv, pl, hz⟩ := I1.tuple hq
    exact wpAny_pyIter_tuple (show s1.heap.IsTuple b its.toArray from pl) (pi_one (tk := s1.toks) I1 _ (turn_tuple b _) ⟨_, Heap.get?_push_size _ rfl, rfl, rfl⟩ q)
/-- the vs of a D that has items, at a later state: the same place -/
theorem walks_list {K : Frag} {as1 : List Addr} {H1 : Hp} {h1 : Ho} {x : D} {xs : List D} {b : Addr} (r : Rel K as1 H1 (.ref b) x) (hR : HeapR K as1 H1 h1) (e : items h1 x = some xs) {vs : List V} (s : SqL K H1 b vs)
    (nt : ∀ ps, x ≠ .d (.tuple ps)) : Walks K as1 H1 xs (stay x xs) (Itl K b) := by
  have key : ∀ as2 H2 h2, Later as1 H1 as2 H2 → HeapR K as2 H2 h2 → stay x xs h2 → ∃ us, SqL K H2 b us ∧ RelAll K as2 H2 us xs := by
    intro as2 H2 h2 l r2 st
    cases r with
    | d r =>
      cases r with
      | lst sx ax =>
        simp only [items, Option.some.injEq] at e
        subst e
        exact ⟨_, (sx.later l).sq, (ax.later l).rel⟩
      | tup sx ax => exact absurd rfl (nt _)
    | @loc _ n hb =>
      have st' : h2[n]? = some (O.lst xs) := st
      obtain ⟨c, hc, us, o1, o2⟩ := r2.at st'
      rw [l.at hb] at hc
      cases hc
      exact ⟨us, SqL.of o1, o2⟩
  intro i as2 H2 h2 l r2 st
  obtain ⟨us, q1, q2⟩ := key as2 H2 h2 l r2 st
  refine ⟨fun hi => ⟨us, us[i]'(by rw [q2.length]; exact hi), q1, List.getElem?_eq_getElem _⟩, fun hi => ⟨us, q1, by rw [q2.length]; exact Nat.le_of_eq hi.symm⟩, fun v H3 y z ez => ?_⟩
  obtain ⟨rfl, y⟩ := y
  obtain ⟨u, eu, ru⟩ := q2.get ez
  have := y us q1
  rw [eu] at this
  cases this
  exact ⟨Later.refl _ _, r2, ru⟩
theorem walks_tup {K : Frag} {as1 : List Addr} {H1 : Hp} {b : Addr} {vs : List V} {ps : List PyData} {st : Ho → Prop} (s : TupR K as1 H1 b vs) (al : DvAll K as1 H1 vs ps) : Walks K as1 H1 (ps.map D.d) st (Itt K b) := by
  intro i as2 H2 h2 l r2 _
  have q1 := (s.later l).sq
  have q2 := (al.later l).rel
  refine ⟨fun hi => ⟨vs, vs[i]'(by rw [q2.length]; exact hi), q1, List.getElem?_eq_getElem _⟩, fun hi => ⟨vs, q1, by rw [q2.length]; exact Nat.le_of_eq hi.symm⟩, fun v H3 y z ez => ?_⟩
  obtain ⟨rfl, y⟩ := y
  obtain ⟨u, eu, ru⟩ := q2.get ez
  have := y vs q1
  rw [eu] at this
  cases this
  exact ⟨Later.refl _ _, r2, ru⟩
theorem SI.seq (ha : SE X W a fa) : SI X W tg a (iSeq fa) := by
  obtain ⟨_, pa, sa⟩ := ha
  refine ⟨_, pi_seqI pa, fun σ H as ρ h Q E R eR hR hq k kx => ?_⟩
  refine sa σ H as ρ h _ E _ eR hR hq (fun x h1 v as1 H1 hq1 l1 r1 rv => ?_) kx
  split at hq1
  · rename_i xs e
    have st := stay_items e
    obtain ⟨b, vs, rfl, s, ra⟩ := items_rel rv r1 e
    refine ⟨b, rfl, ?_⟩
    by_cases nt : ∀ ps, x ≠ .d (.tuple ps)
    · have hl : ∃ us, SqL X.K H1 b us := by
        cases rv with
        | d r =>
          cases r with
          | lst sx ax => exact ⟨_, sx.sq⟩
          | tup sx ax => exact absurd rfl (nt _)
        | loc hb =>
          simp only [items] at e
          split at e
          · rename_i ys en
            obtain ⟨c, hc, us, o1, o2⟩ := r1.at en
            rw [hb] at hc
            cases hc
            exact ⟨us, SqL.of o1⟩
          · cases e
      obtain ⟨us, hl⟩ := hl
      exact .inl ⟨⟨us, hl⟩, k xs _ h1 as1 H1 _ hq1 st l1 r1 (walks_list rv r1 e hl nt)⟩
    · have nt' : ∃ ps, x = .d (.tuple ps) := Classical.byContradiction fun z => nt fun ps e => z ⟨ps, e⟩
      obtain ⟨ps, rfl⟩ := nt'
      cases rv with | d r =>
      cases r with | tup sx ax =>
      simp only [items, Option.some.injEq] at e
      subst e
      exact .inr ⟨⟨_, sx.sq⟩, k _ _ h1 as1 H1 _ hq1 st l1 r1 (walks_tup sx ax)⟩
  · exact hq1.elim
/-- range(n), range(a, b) -/
def rangeD (lo : Int) (n : Nat) : List D := (List.range n).map fun i => D.d (.int (lo + (i : Nat)))
theorem walks_range {K : Frag} {as1 : List Addr} {H1 : Hp} {lo : Int} {n : Nat} {st : Ho → Prop} : Walks K as1 H1 (rangeD lo n) st (Itr lo n) := by
  intro i as2 H2 h2 l r2 _
  have hlen : (rangeD lo n).length = n := by simp [rangeD]
  refine ⟨fun hi => by rw [hlen] at hi; exact hi, fun hi => by rw [hlen] at hi; exact Nat.le_of_eq hi.symm, fun v H3 y z ez => ?_⟩
  obtain ⟨rfl, rfl⟩ := y
  refine ⟨Later.refl _ _, r2, ?_⟩
  unfold rangeD at ez
  rw [List.getElem?_map] at ez
  cases q : (List.range n)[i]? with
  | none => rw [q] at ez; cases ez
  | some j =>
    rw [q] at ez
    cases ez
    have : j = i := by
      obtain ⟨h1, h2⟩ := List.getElem?_eq_some_iff.mp q
      simpa using h2.symm
    subst this
    exact .d (.int _)
def iRange1 (ga : WA) : WI := fun ρ h Q E => ga ρ h (fun ys h1 => match ys with
  | [.d (.int j)] => -(2 ^ 62) ≤ j ∧ j < 2 ^ 62 ∧ Q (rangeD 0 j.toNat) (fun _ => True) h1
  | _ => False) E
def iRange2 (ga : WA) : WI := fun ρ h Q E => ga ρ h (fun ys h1 => match ys with
  | [.d (.int i), .d (.int j)] => (-(2 ^ 62) ≤ i ∧ i < 2 ^ 62 ∧ -(2 ^ 62) ≤ j ∧ j < 2 ^ 62) ∧ Q (rangeD i (j - i).toNat) (fun _ => True) h1
  | _ => False) E
theorem SI.range1 (hg : Gl X "range") (hm : X.mg "range" = none) (ha : SA X W [a] ga) (hs : starEach [a] X.env = [(false, eval a X.env)] := by rfl) : SI X W tg (.Call (.Name "range" p) [a] [] pos) (iRange1 ga) := by
  obtain ⟨_, pa, sa⟩ := ha
  refine ⟨_, pi_range1 hg hm pa hs, fun σ H as ρ h Q E R eR hR hq k kx => ?_⟩
  refine sa σ H as ρ h _ E _ eR hR hq (fun ys h1 vs as1 H1 hq1 l1 r1 rv => ?_) kx
  split at hq1
  · obtain ⟨v, rfl, r⟩ := relAll1 rv
    rw [rel_int r]
    exact ⟨_, rfl, hq1.1, hq1.2.1, k _ _ h1 as1 H1 _ hq1.2.2 trivial l1 r1 walks_range⟩
  · exact hq1.elim
theorem SI.range2 {b : Expr} (hg : Gl X "range") (hm : X.mg "range" = none) (ha : SA X W [a, b] ga) (hs : starEach [a, b] X.env = [(false, eval a X.env), (false, eval b X.env)] := by rfl) (hs2 : starEach [b] X.env = [(false, eval b X.env)] := by rfl) :
    SI X W tg (.Call (.Name "range" p) [a, b] [] pos) (iRange2 ga) := by
  obtain ⟨_, pa, sa⟩ := ha
  refine ⟨_, pi_range2 hg hm pa hs hs2, fun σ H as ρ h Q E R eR hR hq k kx => ?_⟩
  refine sa σ H as ρ h _ E _ eR hR hq (fun ys h1 vs as1 H1 hq1 l1 r1 rv => ?_) kx
  split at hq1
  · obtain ⟨v, w, rfl, r, r'⟩ := relAll2 rv
    rw [rel_int r, rel_int r']
    exact ⟨_, _, rfl, hq1.1, k _ _ h1 as1 H1 _ hq1.2 trivial l1 r1 walks_range⟩
  · exact hq1.elim
end

/-! ### targets: names and tuples of names -/
abbrev WG := D → Ho → En → Option En
def SG (X : Cx) (tg : Expr) (g : WG) (sl : List Nat) : Prop :=
  ∃ t, PG X tg t ∧ ∀ (v : V) x σ H as ρ h ρ' (Q : L2.St → Hp → Prop), EnvR X.K as H ρ σ → HeapR X.K as H h → Rel X.K as H v x → g x h ρ = some ρ' →
    (∀ σ', EnvR X.K as H ρ' σ' → (∀ vs : List Nat, (∀ i ∈ sl, i ∈ vs) → L2.wipe σ' vs = L2.wipe σ vs) → Q σ' H) → t v σ H Q
abbrev WGs := List D → Ho → En → Option En
def SGs (X : Cx) (tg : List Expr) (g : WGs) (sl : List Nat) : Prop :=
  ∃ t, PGs X tg t ∧ ∀ (v : List V) x σ H as ρ h ρ' (Q : L2.St → Hp → Prop), EnvR X.K as H ρ σ → HeapR X.K as H h → RelAll X.K as H v x → g x h ρ = some ρ' →
    (∀ σ', EnvR X.K as H ρ' σ' → (∀ vs : List Nat, (∀ i ∈ sl, i ∈ vs) → L2.wipe σ' vs = L2.wipe σ vs) → Q σ' H) → t v σ H Q
theorem wipe_set {σ : L2.St} {i : Nat} {o : Option V} : ∀ {vs : List Nat}, i ∈ vs → L2.wipe (σ.set i o) vs = L2.wipe σ vs
  | v :: vs, hm => by
    unfold L2.wipe
    by_cases hv : i ∈ vs
    · rw [wipe_set hv]
    · have e : v = i := by
        rcases List.mem_cons.mp hm with e | e
        · exact e.symm
        · exact absurd e hv
      subst e
      have key : ∀ (ws : List Nat), v ∉ ws → L2.wipe (σ.set v o) ws = (L2.wipe σ ws).set v o := by
        intro ws
        induction ws with
        | nil => intro _; rfl
        | cons w ws ih =>
          intro hn
          simp only [List.mem_cons, not_or] at hn
          unfold L2.wipe
          rw [ih hn.2, List.set_comm _ _ (fun e => hn.1 e)]
      rw [key vs hv, List.set_set]
def gNm (i : Nat) : WG := fun x _ ρ => some (ρ.set i (some x))
def gsNil : WGs := fun ps _ ρ => match ps with
  | [] => some ρ
  | _ => none
def gsCons (g : WG) (gs : WGs) : WGs := fun ps h ρ => match ps with
  | p :: ps => (g p h ρ).bind fun ρ' => gs ps h ρ'
  | [] => none
def gTp (n : Nat) (gs : WGs) : WG := fun x h ρ => match items h x with
  | some xs => if xs.length = n then gs xs h ρ else none
  | none => none
theorem pg_or {X : Cx} {e : Expr} {t u : TG} (h1 : PG X e t) (h2 : PG X e u) : PG X e (fun v σ H Q => t v σ H Q ∨ u v σ H Q) :=
  ⟨fun pins s σ H v w Q I r hw => hw.elim (fun a => h1.run pins s σ H v w Q I r a) fun a => h2.run pins s σ H v w Q I r a⟩
section
variable {X : Cx} {pos : Pos}
theorem SG.name (i : Nat) {x : Str} (hN : X.N.Nodup) (hi : X.N[i]? = some x) (hx : Loc X.env.scope x) (hf : X.fn x = true ∨ X.env.scope.names.lookup x = some .local := by first | exact .inl rfl | exact .inr rfl | assumption) : SG X (.Name x pos) (gNm i) [i] := by
  refine ⟨_, pg_name hN hi hx hf, fun v x σ H as ρ h ρ' Q eR hR r e k => ?_⟩
  simp only [gNm, Option.some.injEq] at e
  subst e
  exact k _ (eR.set i r) fun vs hv => wipe_set (hv i (by simp))
theorem SGs.nil : SGs X [] gsNil [] := by
  refine ⟨_, pgs_nil, fun v x σ H as ρ h ρ' Q eR hR r e k => ?_⟩
  unfold gsNil at e
  split at e
  · cases e
    cases r
    exact ⟨rfl, k _ eR fun _ _ => rfl⟩
  · cases e
theorem SGs.cons {e : Expr} {es : List Expr} {g : WG} {gs : WGs} {sl sls : List Nat} (h1 : SG X e g sl) (h2 : SGs X es gs sls)
    (hs : (assignEach (e :: es) X.env).map (·.2) = assign e X.env :: (assignEach es X.env).map (·.2) := by rfl) : SGs X (e :: es) (gsCons g gs) (sl ++ sls) := by
  obtain ⟨_, p1, s1⟩ := h1
  obtain ⟨_, p2, s2⟩ := h2
  refine ⟨_, pgs_cons p1 p2 hs, fun v x σ H as ρ h ρ' Q eR hR r e k => ?_⟩
  unfold gsCons at e
  split at e
  · rename_i p ps
    cases r with
    | cons r rs =>
      rw [Option.bind_eq_some_iff] at e
      obtain ⟨ρ1, e1, e2⟩ := e
      refine ⟨_, _, rfl, s1 _ _ σ H as ρ h ρ1 _ eR hR r e1 fun σ1 eR1 w1 => ?_⟩
      refine s2 _ _ σ1 H as ρ1 h ρ' Q eR1 hR rs e2 fun σ2 eR2 w2 => k _ eR2 fun vs hv => ?_
      rw [w2 vs fun i hi => hv i (List.mem_append_right _ hi), w1 vs fun i hi => hv i (List.mem_append_left _ hi)]
  · cases e
theorem SG.tup {es : List Expr} {k n : Nat} {gs : WGs} {sl : List Nat} (hc : X.calm = true) (h : SGs X es gs sl) (hn : (assignEach es X.env).length = n := by rfl) (hst : (assignEach es X.env).findIdx? (·.1) = none := by rfl) : SG X (.Tuple es k pos) (gTp n gs) sl := by
  obtain ⟨_, p, s⟩ := h
  refine ⟨_, pg_or (pg_tup hc p hn hst) (pg_unl hc p hn hst), fun v x σ H as ρ h ρ' Q eR hR r e k => ?_⟩
  unfold gTp at e
  split at e
  · rename_i xs ei
    split at e
    · rename_i hl
      obtain ⟨a, vs, rfl, sq, ra⟩ := items_rel r hR ei
      rcases sq with sq | sq
      · exact .inr ⟨_, _, rfl, sq, by rw [ra.length]; exact hl, s _ _ σ H as ρ h ρ' Q eR hR ra e k⟩
      · exact .inl ⟨_, _, rfl, sq, by rw [ra.length]; exact hl, s _ _ σ H as ρ h ρ' Q eR hR ra e k⟩
    · cases e
  · cases e

/-! ### statements -/
variable {W : WX} {a e c : Expr} {fa fe : WE} {t : WT} {st : Stmt} {rest body orelse : List Stmt} {f g : WS}
def sNext : WS := fun ρ h D => D.nx ρ h
def sSeq (f g : WS) : WS := fun ρ h D => f ρ h { D with nx := fun ρ1 h1 => g ρ1 h1 D }
theorem SB.nil : SB X W [] sNext := ⟨_, pss_nil, fun σ H as ρ h D D' eR hR hq k => k.nx _ _ _ _ _ hq (Later.refl _ _) hR eR⟩
theorem SB.one (h : SS X W st f) : SB X W [st] f := let ⟨_, p, s⟩ := h; ⟨_, pss_one p, s⟩
theorem SB.cons (h : SS X W st f) (h2 : SB X W rest g) : SB X W (st :: rest) (sSeq f g) := by
  obtain ⟨_, p, s⟩ := h
  obtain ⟨_, p2, s2⟩ := h2
  refine ⟨_, pss_cons p p2, fun σ H as ρ h D D' eR hR hq k => ?_⟩
  refine s σ H as ρ h _ _ eR hR hq ⟨fun ρ1 h1 σ1 as1 H1 q l r eR1 => ?_, fun ρ1 h1 σ1 as1 H1 q l r eR1 => k.bk _ _ _ _ _ q l r eR1, fun ρ1 h1 σ1 as1 H1 q l r eR1 => k.ct _ _ _ _ _ q l r eR1, fun y h1 v as1 H1 q l r rv => k.rt _ _ _ _ _ q l r rv,
    fun x ρ1 h1 cls dd σ1 as1 H1 q l r eR1 xr => k.ex _ _ _ _ _ _ _ _ q l r eR1 xr⟩
  exact s2 σ1 H1 as1 ρ1 h1 D D' eR1 r q (k.later l)
def exOf (D : Nx) (ρ : En) : XD := fun x h => D.ex x ρ h
theorem STo.x {as : List Addr} {H : Hp} {D : Nx} {D' : Ends} (k : STo X W as H D D') {ρ : En} {σ : L2.St} (eR : EnvR X.K as H ρ σ) : XTo X W as H σ (exOf D ρ) :=
  fun x h' cls dd as1 H1 q l r xr => k.ex x ρ h' cls dd σ as1 H1 q l r (eR.later l) xr
/-- target = e -/
def sAsg (fe : WE) (g : WG) : WS := fun ρ h D => fe ρ h (fun x h1 => match g x h1 ρ with
  | some ρ1 => D.nx ρ1 h1
  | none => False) (exOf D ρ)
theorem sp_asg {te : TE} {tg : TG} {g : WG} {sl : List Nat} (se : SpE X W te fe)
    (sg : ∀ (v : V) x σ H as ρ h ρ' (Q : L2.St → Hp → Prop), EnvR X.K as H ρ σ → HeapR X.K as H h → Rel X.K as H v x → g x h ρ = some ρ' → (∀ σ', EnvR X.K as H ρ' σ' → (∀ vs : List Nat, (∀ i ∈ sl, i ∈ vs) → L2.wipe σ' vs = L2.wipe σ vs) → Q σ' H) → tg v σ H Q) :
    SpS X W (tAsg te tg) (sAsg fe g) := by
  intro σ H as ρ h D D' eR hR hq k
  refine se σ H as ρ h _ _ _ eR hR hq (fun x h1 v as1 H1 hq1 l1 r1 rv => ?_) (k.x eR)
  split at hq1
  · rename_i ρ1 e1
    exact sg v x σ H1 as1 ρ h1 ρ1 _ (eR.later l1) r1 rv e1 fun σ' eR' _ => k.nx _ _ _ _ _ hq1 l1 r1 eR'
  · exact hq1.elim
theorem SS.set (i : Nat) {x : Str} {pos' : Pos} (hN : X.N.Nodup) (hi : X.N[i]? = some x) (hx : Loc X.env.scope x) (he : SE X W e fe) (hs : swapsWith e (some (.Name x pos')) pos.line X.env = pure false := by rfl) (hf : X.fn x = true ∨ X.env.scope.names.lookup x = some .local := by first | exact .inl rfl | exact .inr rfl | assumption) :
    SS X W (.Assign [.Name x pos'] e pos) (sAsg fe (gNm i)) := by
  obtain ⟨_, p, s⟩ := he
  refine ⟨_, ps_set hN hi hx p hs hf, sp_asg (sl := [i]) s fun v x σ H as ρ h ρ' Q eR hR r e k => ?_⟩
  simp only [gNm, Option.some.injEq] at e
  subst e
  exact k _ (eR.set i r) fun vs hv => wipe_set (hv i (by simp))
theorem SS.asg {tg : Expr} {g : WG} {sl : List Nat} (he : SE X W e fe) (hg : SG X tg g sl) (hs : swapsWithSole [tg] e pos.line X.env = pure false := by rfl) (hw : swappedStores [tg] e X.env = pure none := by rfl)
    (h1 : (assignEach [tg] X.env).map (·.2) = [assign tg X.env] := by rfl) : SS X W (.Assign [tg] e pos) (sAsg fe g) := by
  obtain ⟨_, p, s⟩ := he
  obtain ⟨_, p2, s2⟩ := hg
  exact ⟨_, ps_asg p p2 hs hw h1, sp_asg s s2⟩
/-- a, b = x, y (local names) -/
def sPar (i j : Nat) (ga : WA) : WS := fun ρ h D => ga ρ h (fun xs h1 => match xs with
  | [x, y] => D.nx ((ρ.set i (some x)).set j (some y)) h1
  | _ => False) (exOf D ρ)
theorem SS.par (i j : Nat) {x y : Str} {b : Expr} {ga : WA} {px py pt : Pos} {kt k2 pt2} (hc : X.calm = true) (hN : X.N.Nodup) (hi : X.N[i]? = some x) (hj : X.N[j]? = some y) (hij : i ≠ j)
    (hx : X.env.scope.names.lookup x = some .local) (hy : X.env.scope.names.lookup y = some .local) (ha : SA X W [a, b] ga)
    (hw : swappedStores [.Tuple [.Name x px, .Name y py] kt pt] (.Tuple [a, b] k2 pt2) X.env = pure (some [x, y]))
    (hs : swapsWithSole [.Tuple [.Name x px, .Name y py] kt pt] (.Tuple [a, b] k2 pt2) pos.line X.env = pure false := by rfl) :
    SS X W (.Assign [.Tuple [.Name x px, .Name y py] kt pt] (.Tuple [a, b] k2 pt2) pos) (sPar i j ga) := by
  obtain ⟨_, p, s⟩ := ha
  refine ⟨_, ps_par hc hN hi hj hij hx hy p hw hs, fun σ H as ρ h D D' eR hR hq k => ?_⟩
  refine s σ H as ρ h _ _ _ eR hR hq (fun xs h1 vs as1 H1 hq1 l1 r1 rv => ?_) (k.x eR)
  split at hq1
  · obtain ⟨v, w, rfl, r, r'⟩ := relAll2 rv
    exact ⟨v, w, rfl, k.nx _ _ _ _ _ hq1 l1 r1 (((eR.later l1).set i r).set j r')⟩
  · exact hq1.elim
def sPar3 (i j l : Nat) (ga : WA) : WS := fun ρ h D => ga ρ h (fun xs h1 => match xs with
  | [x, y, z] => D.nx (((ρ.set i (some x)).set j (some y)).set l (some z)) h1
  | _ => False) (exOf D ρ)
/-- o[i] = e, o a list of the store -/
def sSub (fe fo fi : WE) : WS := fun ρ h D => fe ρ h (fun y h1 => fo ρ h1 (fun x h2 => fi ρ h2 (fun z h3 => match x, z with
  | .loc n, .d (.int k) => match h3[n]? with
    | some (.lst xs) => match ixN xs.length k with
      | some j => D.nx ρ (h3.set n (.lst (xs.set j y)))
      | none => False
    | none => False
  | _, _ => False) (exOf D ρ)) (exOf D ρ)) (exOf D ρ)
theorem STo.kx {as : List Addr} {H : Hp} {D : Nx} {D' : Ends} (k : STo X W as H D D') {ρ : En} {σ : L2.St} (eR : EnvR X.K as H ρ σ) {as1 : List Addr} {H1 : Hp} (l : Later as H as1 H1) : XTo X W as1 H1 σ (exOf D ρ) := (k.later l).x (eR.later l)
theorem SS.sub {o i : Expr} {fo fi : WE} {pos' : Pos} (he : SE X W e fe) (ho : SE X W o fo) (hi : SE X W i fi)
    (ha : ∀ v, assign (.Subscript o i pos') X.env v = (do
      let ov ← holding [v] (eval o X.env)
      let iv ← holding [v, ov] (eval i X.env)
      standAt pos'
      holding [v, ov, iv] (setItem ov iv v)
      release [v, ov, iv] []) := by intro _; rfl) (hs : swapsWithSole [.Subscript o i pos'] e pos.line X.env = pure false := by rfl) (hw : swappedStores [.Subscript o i pos'] e X.env = pure none := by rfl)
    (h1 : (assignEach [.Subscript o i pos'] X.env).map (·.2) = [assign (.Subscript o i pos') X.env] := by rfl) : SS X W (.Assign [.Subscript o i pos'] e pos) (sSub fe fo fi) := by
  obtain ⟨_, pe, se⟩ := he
  obtain ⟨_, po, so⟩ := ho
  obtain ⟨_, pi, si⟩ := hi
  refine ⟨_, ps_asg pe (pg_sub po pi set_list ha) hs hw h1, fun σ H as ρ h D D' eR hR hq k => ?_⟩
  refine se σ H as ρ h _ _ _ eR hR hq (fun y h1 v as1 H1 hq1 l1 r1 rv => ?_) (k.x eR)
  refine so σ H1 as1 ρ h1 _ _ _ (eR.later l1) r1 hq1 (fun x h2 u as2 H2 hq2 l2 r2 ru => ?_) (k.kx eR l1)
  have l12 := l1.trans l2
  refine si σ H2 as2 ρ h2 _ _ _ (eR.later l12) r2 hq2 (fun z h3 w as3 H3 hq3 l3 r3 rw' => ?_) (k.kx eR l12)
  have l13 := l12.trans l3
  split at hq3
  · rename_i n kk
    split at hq3
    · rename_i xs en
      split at hq3
      · rename_i j ej
        have ru3 := ru.later l3
        cases ru3 with | loc hb =>
        rw [rel_int rw']
        obtain ⟨b, hb', vs, o1, o2⟩ := r3.at en
        rw [hb] at hb'
        cases hb'
        have rv3 := (rv.later l2).later l3
        refine ⟨_, vs, kk, j, rfl, rfl, o1, by rw [o2.length]; exact ej, ?_⟩
        have lw : Later as3 H3 as3 (upd H3 _ (.lst (vs.set j v))) := Later.write _ (List.mem_of_getElem? hb)
        exact k.nx _ _ _ _ _ hq3 (l13.trans lw) (r3.write hb (o2.set j rv3)) (eR.later (l13.trans lw))
      · exact hq3.elim
    · exact hq3.elim
  · exact hq3.elim
/-- x op= e, ints -/
def sAug (i : Nat) (r : WR2) (fe : WE) : WS := fun ρ h D => match ρ[i]? with
  | some (some x) => fe ρ h (fun y h1 => r x y h1 (fun z h2 => D.nx (ρ.set i (some z)) h2)) (exOf D ρ)
  | _ => False
theorem SS.aug (i : Nat) {x : Str} {op : Operator} {rV : R2} {r : WR2} {pos' : Pos} (hN : X.N.Nodup) (hi : X.N[i]? = some x) (hx : Loc X.env.scope x) (he : SE X W e fe) (ho : OpR X (inplaceOp op) rV) (cp : Cp2 X rV r) (hf : X.fn x = true ∨ X.env.scope.names.lookup x = some .local := by first | exact .inl rfl | exact .inr rfl | assumption) :
    SS X W (.AugAssign (.Name x pos') op e pos) (sAug i r fe) := by
  obtain ⟨_, p, s⟩ := he
  refine ⟨_, ps_aug hN hi hx p ho hf, fun σ H as ρ h D D' eR hR hq k => ?_⟩
  unfold sAug at hq
  split at hq
  · rename_i x0 e0
    obtain ⟨v, ev, rv⟩ := eR.2 i x0 e0
    refine ⟨v, ev, ?_⟩
    refine s σ H as ρ h _ _ _ eR hR hq (fun y h1 w as1 H1 hq1 l1 r1 rw' => ?_) (k.x eR)
    refine cp x0 y h1 _ v w as1 H1 _ (rv.later l1) rw' r1 hq1 (fun z h2 u as2 H2 hq2 l2 r2 ru => ?_)
    exact k.nx _ _ _ _ _ hq2 (l1.trans l2) r2 ((eR.later (l1.trans l2)).set i ru)
  · exact hq.elim
def sDrop (fe : WE) : WS := fun ρ h D => fe ρ h (fun _ h1 => D.nx ρ h1) (exOf D ρ)
theorem SS.expr (he : SE X W e fe) (hs : swapsWith e none pos.line X.env = pure false := by rfl) : SS X W (.Expr e pos) (sDrop fe) := by
  obtain ⟨_, p, s⟩ := he
  refine ⟨_, ps_expr p hs, fun σ H as ρ h D D' eR hR hq k => ?_⟩
  exact s σ H as ρ h _ _ _ eR hR hq (fun y h1 w as1 H1 hq1 l1 r1 rw' => k.nx _ _ _ _ _ hq1 l1 r1 (eR.later l1)) (k.x eR)
def sRet (fe : WE) : WS := fun ρ h D => fe ρ h D.rt (exOf D ρ)
theorem SS.ret (he : SE X W e fe) : SS X W (.Return (some e) pos) (sRet fe) := by
  obtain ⟨_, p, s⟩ := he
  refine ⟨_, ps_ret p, fun σ H as ρ h D D' eR hR hq k => ?_⟩
  exact s σ H as ρ h _ _ _ eR hR hq (fun y h1 w as1 H1 hq1 l1 r1 rw' => k.rt _ _ _ _ _ hq1 l1 r1 rw') (k.x eR)
def sRetN : WS := fun _ h D => D.rt (.d .none) h
theorem SS.retN : SS X W (.Return none pos) sRetN := ⟨_, ps_retN, fun σ H as ρ h D D' eR hR hq k => k.rt _ _ _ _ _ hq (Later.refl _ _) hR (.d .non)⟩
theorem SS.pass : SS X W (.Pass pos) sNext := ⟨_, ps_pass, fun σ H as ρ h D D' eR hR hq k => k.nx _ _ _ _ _ hq (Later.refl _ _) hR eR⟩
def sBrk : WS := fun ρ h D => D.bk ρ h
def sCnt : WS := fun ρ h D => D.ct ρ h
theorem SS.brk : SS X W (.Break pos) sBrk := ⟨_, ps_break, fun σ H as ρ h D D' eR hR hq k => k.bk _ _ _ _ _ hq (Later.refl _ _) hR eR⟩
theorem SS.cnt : SS X W (.Continue pos) sCnt := ⟨_, ps_continue, fun σ H as ρ h D D' eR hR hq k => k.ct _ _ _ _ _ hq (Later.refl _ _) hR eR⟩
def sIf (t : WT) (f g : WS) : WS := fun ρ h D => t ρ h (fun b h1 => if b = true then f ρ h1 D else g ρ h1 D) (exOf D ρ)
theorem SS.ifS (hc : ST X W c t) (hb : SB X W body f) (ho : SB X W orelse g) : SS X W (.If c body orelse pos) (sIf t f g) := by
  obtain ⟨_, pc, sc⟩ := hc
  obtain ⟨_, pb, sb⟩ := hb
  obtain ⟨_, po, so⟩ := ho
  refine ⟨_, ps_if pc pb po, fun σ H as ρ h D D' eR hR hq k => ?_⟩
  refine sc σ H as ρ h _ _ _ eR hR hq (fun b h1 as1 H1 hq1 l1 r1 => ?_) (k.x eR)
  cases b with
  | true => exact iteT (sb σ H1 as1 ρ h1 D D' (eR.later l1) r1 hq1 (k.later l1))
  | false => exact iteF (so σ H1 as1 ρ h1 D D' (eR.later l1) r1 hq1 (k.later l1))
/-- while -/
def sWhile (t : WT) (f : WS) : WS := fun ρ h D => ∃ I : Nat → En → Ho → Prop, (∃ m, I m ρ h) ∧ ∀ m ρ h, I m ρ h → t ρ h (fun b h1 => if b = true then
    f ρ h1 { D with nx := fun ρ' h' => ∃ m', m' < m ∧ I m' ρ' h', ct := fun ρ' h' => ∃ m', m' < m ∧ I m' ρ' h', bk := D.nx } else D.nx ρ h1) (exOf D ρ)
theorem SS.whileS (hp : PassesOwn (model X.prog X.w) X.A X.env X.xe) (hc : ST X W c t) (hb : SB X W body f) : SS X W (.While c body [] pos) (sWhile t f) := by
  obtain ⟨_, pc, sc⟩ := hc
  obtain ⟨_, pb, sb⟩ := hb
  refine ⟨_, ps_while hp pc pb, fun σ H as ρ h D D' eR hR hq k => ?_⟩
  obtain ⟨I, ⟨m0, i0⟩, turn⟩ := hq
  refine ⟨fun m σ' H' => ∃ as' ρ' h', Later as H as' H' ∧ HeapR X.K as' H' h' ∧ EnvR X.K as' H' ρ' σ' ∧ I m ρ' h', ⟨m0, as, ρ, h, Later.refl _ _, hR, eR, i0⟩, ?_⟩
  rintro m σ1 H1 ⟨as1, ρ1, h1, l1, r1, eR1, i1⟩
  refine sc σ1 H1 as1 ρ1 h1 _ _ _ eR1 r1 (turn m ρ1 h1 i1) (fun b h2 as2 H2 hq2 l2 r2 => ?_) ((k.later l1).x eR1)
  have l12 := l1.trans l2
  cases b with
  | true =>
    refine iteT ⟨fun σ' H' => ∃ m', m' < m ∧ ∃ as' ρ' h', Later as H as' H' ∧ HeapR X.K as' H' h' ∧ EnvR X.K as' H' ρ' σ' ∧ I m' ρ' h', fun _ _ z => z, ?_⟩
    refine sb σ1 H2 as2 ρ1 h2 _ _ (eR1.later l2) r2 hq2 ⟨?_, ?_, ?_, ?_, ?_⟩
    · rintro ρ3 h3 σ3 as3 H3 ⟨m', hm, i3⟩ l3 r3 eR3
      exact ⟨m', hm, as3, ρ3, h3, l12.trans l3, r3, eR3, i3⟩
    · intro ρ3 h3 σ3 as3 H3 q l3 r3 eR3
      exact k.nx _ _ _ _ _ q (l12.trans l3) r3 eR3
    · rintro ρ3 h3 σ3 as3 H3 ⟨m', hm, i3⟩ l3 r3 eR3
      exact ⟨m', hm, as3, ρ3, h3, l12.trans l3, r3, eR3, i3⟩
    · intro y h3 v as3 H3 q l3 r3 rv
      exact k.rt _ _ _ _ _ q (l12.trans l3) r3 rv
    · intro x ρ3 h3 cls dd σ3 as3 H3 q l3 r3 eR3 xr
      exact k.ex _ _ _ _ _ _ _ _ q (l12.trans l3) r3 eR3 xr
  | false => exact iteF (k.nx _ _ _ _ _ hq2 l12 r2 (eR1.later l2))
/-- for -/
def forGo (g : WG) (f : WS) (N : Nx) (st : Ho → Prop) : List D → En → Ho → Prop
  | [], ρ, h => N.nx ρ h
  | x :: xs, ρ, h => match g x h ρ with
    | some ρ1 => f ρ1 h { N with nx := fun ρ2 h2 => st h2 ∧ forGo g f N st xs ρ2 h2, ct := fun ρ2 h2 => st h2 ∧ forGo g f N st xs ρ2 h2, bk := N.nx }
    | none => False
def sFor (wi : WI) (g : WG) (f : WS) : WS := fun ρ h D => wi ρ h (fun xs st h1 => forGo g f D st xs ρ h1) (exOf D ρ)
theorem SS.forS {tg it : Expr} {wi : WI} {g : WG} {sl : List Nat} (hp : PassesOwn (model X.prog X.w) X.A X.env X.xe) (hc : X.calm = true) (hi : SI X W tg it wi) (hg : SG X tg g sl) (hb : SB X W body f)
    (hs : ∀ x, foldedSetIterable it X.env x = pure x := by intro _; rfl) : SS X W (.For tg it body [] pos) (sFor wi g f) := by
  obtain ⟨_, pi, si⟩ := hi
  obtain ⟨_, pg, sg⟩ := hg
  obtain ⟨_, pb, sb⟩ := hb
  refine ⟨_, ps_for hp hc pi pg pb hs, fun σ H as ρ h D D' eR hR hq k => ?_⟩
  refine si σ H as ρ h _ _ _ eR hR hq (fun xs st h1 as1 H1 J hq1 st1 l1 r1 wk => ?_) (k.x eR)
  refine ⟨fun i m σ' H' => m = xs.length - i ∧ i ≤ xs.length ∧ ∃ as' ρ' h', Later as1 H1 as' H' ∧ HeapR X.K as' H' h' ∧ EnvR X.K as' H' ρ' σ' ∧ st h' ∧ forGo g f D st (xs.drop i) ρ' h',
    ⟨xs.length, by simp, Nat.zero_le _, as1, ρ, h1, Later.refl _ _, r1, eR.later l1, st1, hq1⟩, ?_⟩
  rintro i m σ2 H2 ⟨rfl, hi, as2, ρ2, h2, l2, r2, eR2, st2, fg⟩
  obtain ⟨w1, w2, w3⟩ := wk i as2 H2 h2 l2 r2 st2
  have l12 := l1.trans l2
  by_cases hlt : i < xs.length
  · refine .inr ⟨w1 hlt, fun σ' H' => i + 1 ≤ xs.length ∧ ∃ as' ρ' h', Later as1 H1 as' H' ∧ HeapR X.K as' H' h' ∧ EnvR X.K as' H' ρ' σ' ∧ st h' ∧ forGo g f D st (xs.drop (i + 1)) ρ' h',
      fun σ' H' z => ⟨xs.length - (i + 1), by omega, rfl, z.1, z.2⟩, fun v H3 y => ?_⟩
    obtain ⟨l3, r3, rv⟩ := w3 v H3 y xs[i] (List.getElem?_eq_getElem hlt)
    rw [List.drop_eq_getElem_cons hlt] at fg
    unfold forGo at fg
    split at fg
    · rename_i ρ3 e3
      have l23 := l2.trans l3
      have l13 := l12.trans l3
      refine sg v _ σ2 H3 as2 ρ2 h2 ρ3 _ (eR2.later l3) r3 rv e3 fun σ3 eR3 _ => ?_
      refine sb σ3 H3 as2 ρ3 h2 _ _ eR3 r3 fg ⟨?_, ?_, ?_, ?_, ?_⟩
      · rintro ρ4 h4 σ4 as4 H4 ⟨q1, q2⟩ l4 r4 eR4
        exact ⟨hlt, as4, ρ4, h4, l23.trans l4, r4, eR4, q1, q2⟩
      · intro ρ4 h4 σ4 as4 H4 q l4 r4 eR4
        exact k.nx _ _ _ _ _ q (l13.trans l4) r4 eR4
      · rintro ρ4 h4 σ4 as4 H4 ⟨q1, q2⟩ l4 r4 eR4
        exact ⟨hlt, as4, ρ4, h4, l23.trans l4, r4, eR4, q1, q2⟩
      · intro y h4 v as4 H4 q l4 r4 rv
        exact k.rt _ _ _ _ _ q (l13.trans l4) r4 rv
      · intro x ρ4 h4 cls dd σ4 as4 H4 q l4 r4 eR4 xr
        exact k.ex _ _ _ _ _ _ _ _ q (l13.trans l4) r4 eR4 xr
    · exact fg.elim
  · have e : i = xs.length := by omega
    subst e
    rw [List.drop_length] at fg
    unfold forGo at fg
    exact .inl ⟨w2 rfl, k.nx _ _ _ _ _ fg l12 r2 eR2⟩
end
end V2
set_option Elab.async false
set_option linter.all false
set_option maxRecDepth 100000
set_option maxHeartbeats 4000000
namespace V2
open PySem PySem.Spec PyProof.Rows L2
open PySem.W (Frag)

/-! ### defs and their calls -/
abbrev WF := List D → Ho → KD → XD → Prop
/-- the promise over data -/
def spD (K : Frag) (mg : Str → Option Value) (m : Nat) (F : WF) : Sp := fun vs H Q E => ∃ as xs h Q0 E0, vs.length = m ∧ RelAll K as H vs xs ∧ HeapR K as H h ∧ F xs h Q0 E0 ∧
  (∀ y h' v as1 H1, Q0 y h' → Later as H as1 H1 → HeapR K as1 H1 h' → Rel K as1 H1 v y → Q v H1) ∧
  (∀ x h' cls dd as1 H1, E0 x h' → Later as H as1 H1 → HeapR K as1 H1 h' → ExR K mg as1 H1 cls dd x → E cls dd H1)
structure FnG (P : Program) (w : World) (K : Frag) (mg : Str → Option Value) (base : Heap) (k : Nat) (f : Addr) (fd : FuncData) (ps : List Str) (F : WF) : Prop where
  run : ∀ (A : Around) (outer : List Env) (s : Shared) (H : Hp) (args : Args) (us : List Value) (vs : List V) (Q : VK) (E : XK), Room k A → A.guards = some [] → Env0 P w K mg base A outer s H → BindsTo s fd args (ps.zip us) → Vals vs us →
    spD K mg ps.length F vs H Q E → codeAny (model P w) A (.call (.ref f) args) (CR (L2.CX P w) outer P w H s Q E) s
theorem FnG.mono {P : Program} {w : World} {K : Frag} {mg : Str → Option Value} {base : Heap} {j k : Nat} {f : Addr} {fd : FuncData} {ps : List Str} {F : WF} (g : FnG P w K mg base j f fd ps F) (h : j ≤ k) : FnG P w K mg base k f fd ps F :=
  ⟨fun A outer s H args us vs Q E hr => g.run A outer s H args us vs Q E (hr.mono h)⟩
/-- another reading that asks more -/
theorem FnG.imp {P : Program} {w : World} {K : Frag} {mg : Str → Option Value} {base : Heap} {k : Nat} {f : Addr} {fd : FuncData} {ps : List Str} {F G : WF} (g : FnG P w K mg base k f fd ps F) (h : ∀ xs ho Q E, G xs ho Q E → F xs ho Q E) : FnG P w K mg base k f fd ps G :=
  ⟨fun A outer s H args us vs Q E hr hg e0 hb hv ⟨as, xs, ho, Q0, E0, h1, h2, h3, h4, h5, h6⟩ => g.run A outer s H args us vs Q E hr hg e0 hb hv ⟨as, xs, ho, Q0, E0, h1, h2, h3, h _ _ _ _ h4, h5, h6⟩⟩
def bodyN (rt : KD) (E : XD) : Nx := { nx := fun _ h => rt (.d .none) h, rt := rt, bk := fun _ _ => False, ct := fun _ _ => False, ex := fun x _ h => E x h }
/-- a def of n names, m of them parameters -/
def mir (n m : Nat) (f : WS) : WF := fun xs h Q E => xs.length = m ∧ f (xs.map some ++ List.replicate (n - m) none) h (bodyN Q E)
theorem env_start {K : Frag} {as : List Addr} {H : Hp} {N : List Str} {vs : List V} {xs : List D} (r : RelAll K as H vs xs) : EnvR K as H (xs.map some ++ List.replicate (N.length - xs.length) none) (L2.start N vs) := by
  unfold L2.start
  refine ⟨by simp [r.length], fun i x e => ?_⟩
  have hl := r.length
  by_cases hi : i < xs.length
  · rw [List.getElem?_append_left (by simpa using hi), List.getElem?_map] at e
    cases q : xs[i]? with
    | none => rw [q] at e; cases e
    | some y =>
      rw [q] at e
      cases e
      obtain ⟨v, e1, e2⟩ := r.get q
      exact ⟨v, by rw [List.getElem?_append_left (by simpa [hl] using hi), List.getElem?_map, e1]; rfl, e2⟩
  · rw [List.getElem?_append_right (by simpa using hi), List.getElem?_replicate] at e
    split at e <;> cases e
section
variable {P : Program} {w : World} {K : Frag} {mg : Str → Option Value} {base : Heap}
theorem fnG_of {x qual : Str} {st : Stmt} {f : Addr} {fd : FuncData} {N ps : List Str} {k : Nat} {fb : WS} (F : Fun K x qual st f fd) (S : FnScope N ps (defScope st))
    (hb : ∀ (cdv : Value) (A : Around) (outer : List Env) (s : Shared) (H : Hp) (E : XK), Room k (A.deeper (envOfC qual (defScope st) s.heap.objs.size f cdv)) → A.guards = some [] →
      SB (cxOf (L2.CX P w) P w K mg base N qual (defScope st) f cdv A outer s H E) (fun cls d _ H => E cls d H) (defBody st) fb) :
    FnG P w K mg base (k + 1) f fd ps (mir N.length ps.length fb) := by
  obtain ⟨oc, od, kV, doc, pm, an, cdv, ct, osl, rfl, lk, hcd⟩ := F.ex
  refine ⟨fun A outer s H args us vs Q E hr hgu e0 hbind rv hsp => ?_⟩
  obtain ⟨as, xs, ho, Q0, E0, hm, rel, hp, ⟨hxl, hf⟩, kq, kx⟩ := hsp
  have hpar : ∀ y ∈ ps.zip us, (defScope st).names.lookup y.1 = some .local ∨ ((defScope st).names.lookup y.1 = some .cell ∧ ((cellsFrom (s.heap.objs.size + 1) (defScope st).names []).lookup y.1).isSome = true) := by
    intro y hy
    rcases S.par y.1 (List.of_mem_zip hy).1 with q | q
    · exact .inl q
    · exact .inr ⟨q, PySem.W.cellsFrom_some _ _ _ (.inl q)⟩
  have inK := e0.mod.kin.keeps (fun b o e => (e0.bs b o e).1)
  refine codeAny_call_function hr.depth (inK _ _ lk) rfl S.co S.gen rfl (PySem.W.codeRec_of inK hcd) (hbind _ _ _ _ ?_)
  refine wpAny_newFunctionEnv_cells S.kind hpar fun env eenv s1 ic => ?_
  subst eenv
  refine ⟨(e0.mod.nolimit.keeps fun b o e => (e0.bs b o e).1).keeps ic.toInCall.keep, codeAny_func ?_⟩
  obtain ⟨t, pt, spt⟩ := hb cdv A outer s H E (hr.deeper _) hgu
  have J : Inv (cxOf (L2.CX P w) P w K mg base N qual (defScope st) f cdv A outer s H E) [] (L2.start N vs) H s1 := inv_start S hr.hd e0 hm rv ic
  have en := env_start (N := N) rel
  rw [hxl] at en
  refine wpAny_mono (pt.run [] s1 _ H { nx := fun _ H' => Q .non H', rt := Q } J (spt _ H as _ ho _ _ en hp hf ⟨?_, ?_, ?_, ?_, ?_⟩)) (fun fl s' hs => ?_) fun e s' hs => hs
  · intro ρ h' σ as1 H1 q l r _
    exact kq _ _ _ _ _ q l r (.d .non)
  · exact fun _ _ _ _ _ q _ _ _ => q.elim
  · exact fun _ _ _ _ _ q _ _ _ => q.elim
  · exact fun y h' v as1 H1 q l r rr => kq _ _ _ _ _ q l r rr
  · exact fun x ρ h' cls dd σ as1 H1 q l r _ xr => kx _ _ _ _ _ _ q l r xr
  · cases fl with
    | ret u =>
      obtain ⟨v, σ', H', J', rv', q⟩ := hs
      exact ⟨v, H', J'.os, J'.bare, J'.base, J'.hok, rv', q⟩
    | next =>
      obtain ⟨σ', H', J', q⟩ := hs
      exact ⟨.non, H', J'.os, J'.bare, J'.base, J'.hok, rfl, q⟩
    | brk =>
      obtain ⟨_, _, _, q⟩ := hs
      exact False.elim q
    | cont =>
      obtain ⟨_, _, _, q⟩ := hs
      exact False.elim q
end
def fFn (F : WF) (ga : WA) : WE := fun ρ h Q E => ga ρ h (fun xs h1 => F xs h1 Q E) E
section
variable {X : Cx} {W : WX} {k : Nat} {f : Addr} {fd : FuncData} {ps : List Str} {F : WF} {x : Str} {p pos : Pos} {e : Expr} {es : List Expr} {ga : WA}
theorem run_fnG {pins : List (Addr × Obj)} {σ : L2.St} {H : Hp} {s : Shared} {Q : VK} {args : Args} {us : List Value} {vs : List V} (G : FnG X.prog X.w X.K X.mg X.base k f fd ps F) (hr : Room k X.A) (hgu : X.A.guards = some []) (tk : Takes X W)
    (I : Inv X pins σ H s) (hb : BindsTo s fd args (ps.zip us)) (r : Vals vs us) (h : spD X.K X.mg ps.length F vs H Q (fun cls d H' => W cls d σ H')) : wpAny (model X.prog X.w) X.A (call (.ref f) args.pos args.kw) (EP X pins σ Q) X.xe s := by
  refine wpAny_call (codeAny_mono (G.run X.A X.stack s H args us vs Q _ hr hgu I.env0 hb r h) fun r s' hq => ?_)
  cases r with
  | error e => exact passAt tk σ pins H s e s' I hq
  | ok fl =>
    cases fl with
    | ret u => exact I.after hq
    | next => exact hq.elim
    | brk => exact hq.elim
    | cont => exact hq.elim
def tFn (X : Cx) (W : WX) (m : Nat) (F : WF) (t : TA) : TE := fun σ H Q => t σ H fun vs H1 => spD X.K X.mg m F vs H1 Q (fun cls d H' => W cls d σ H')
theorem sp_fn {t : TA} {m : Nat} (hlen : ∀ xs ho Q E, F xs ho Q E → xs.length = m) (sa : SpA X W t ga) : SpE X W (tFn X W m F t) (fFn F ga) := by
  intro σ H as ρ h Q E QV eR hR hq kq kx
  refine sa σ H as ρ h _ E _ eR hR hq (fun xs h1 vs as1 H1 hq1 l1 r1 rv => ?_) kx
  exact ⟨as1, xs, h1, Q, E, by rw [rv.length]; exact hlen _ _ _ _ hq1, rv, r1, hq1, fun y h' v as2 H2 q l r rr => kq.later l1 y h' v as2 H2 q l r rr, fun x h' cls dd as2 H2 q l r xr => kx.later l1 x h' cls dd as2 H2 q l r xr⟩
/-- f(e, ..) -/
theorem SE.call (G : FnG X.prog X.w X.K X.mg X.base k f fd ps F) (hlen : ∀ xs ho Q E, F xs ho Q E → xs.length = ps.length) (hr : Room k X.A) (hgu : X.A.guards = some []) (tk : Takes X W) (hg : Gl X x) (hm : X.mg x = some (.ref f)) (hk : PySem.W.keepIn X.K (.ref f) = true)
    (hb : Binds X.K fd ps []) (ha : SA X W (e :: es) ga) (hdb : (x == ("__debug__" : Str)) = false := by decide) (he : starEach (e :: es) X.env = (false, eval e X.env) :: starEach es X.env := by rfl)
    (hpl : (backTo pos (starEach es X.env)).any (·.1) = false := by rfl) : SE X W (.Call (.Name x p) (e :: es) [] pos) (fFn F ga) := by
  obtain ⟨t, pa, sa⟩ := ha
  refine ⟨tFn X W ps.length F t, ⟨fun pins s σ H Q I hw => ?_⟩, sp_fn hlen sa⟩
  refine wpAny_Call_Name_kw (ld_glob I hg hm ?_ hdb)
  refine PySem.W.callWith_K (h₀ := X.base) I.ok.mod.kin hk (thn (pa.run pos pins s σ H _ I hw) fun us s1 ⟨vs, H1, I1, r, q⟩ => ⟨I1.kIn, ?_⟩) he hpl
  have hl : us.length = ps.length := by
    obtain ⟨as, xs, h, Q0, E0, hm', _⟩ := q
    rw [← r.length, hm']
  have b := hb s1 us I1.kIn (by rw [List.append_nil]; exact hl)
  rw [List.append_nil] at b
  exact run_fnG (args := ⟨us, []⟩) G hr hgu tk I1 b r q
/-- f() -/
theorem SE.call0 (G : FnG X.prog X.w X.K X.mg X.base k f fd [] F) (hlen : ∀ xs ho Q E, F xs ho Q E → xs.length = 0) (hr : Room k X.A) (hgu : X.A.guards = some []) (tk : Takes X W) (hg : Gl X x) (hm : X.mg x = some (.ref f)) (hk : PySem.W.keepIn X.K (.ref f) = true)
    (hb : Binds X.K fd [] []) (hdb : (x == ("__debug__" : Str)) = false := by decide) : SE X W (.Call (.Name x p) [] [] pos) (fFn F aNil) := by
  obtain ⟨t, pa, sa⟩ := (SA.nil : SA X W [] aNil)
  refine ⟨tFn X W 0 F tNil, ⟨fun pins s σ H Q I hw => ?_⟩, sp_fn hlen (fun σ H as ρ h Q E QV eR hR hq k kx => k _ _ _ _ _ hq (Later.refl _ _) hR .nil)⟩
  refine wpAny_Call_Name_kw (ld_glob I hg hm ?_ hdb)
  refine PySem.W.callWith_K0 I.kIn hk ?_
  have b := hb s [] I.kIn rfl
  exact run_fnG (args := ⟨[], []⟩) G hr hgu tk I b .nil hw
/-! keywords -/
def SKw (X : Cx) (W : WX) (kws : List Keyword) (g : WA) : Prop := ∃ t, PK X kws t ∧ SpA X W t g
theorem SKw.nil : SKw X W [] aNil := ⟨_, pk_nil, fun _ _ _ _ _ _ _ _ _ hR hq k _ => k _ _ _ _ _ hq (Later.refl _ _) hR .nil⟩
theorem SKw.cons {nm : Option Str} {kpos : Pos} {fe : WE} {kws : List Keyword} {g : WA} (he : SE X W e fe) (hr : SKw X W kws g) : SKw X W (⟨nm, e, kpos⟩ :: kws) (aCons fe g) := by
  obtain ⟨te, pe, se⟩ := he
  obtain ⟨ta, pa, sa⟩ := hr
  refine ⟨_, pk_cons pe pa, fun σ H as ρ h Q E QV eR hR hq k kx => ?_⟩
  refine se σ H as ρ h _ E _ eR hR hq (fun x h1 v as1 H1 hq1 l1 r1 rv => ?_) kx
  refine sa σ H1 as1 ρ h1 _ E _ (eR.later l1) r1 hq1 (fun xs h2 vs as2 H2 hq2 l2 r2 rvs => ?_) (kx.later l1)
  exact k _ _ _ _ _ hq2 (l1.trans l2) r2 (.cons (rv.later l2) rvs)
/-- a permutation of the keywords into the parameters' order: place i of the parameters is keyword at ix[i] -/
def pick {α : Type} (ix : List Nat) (xs : List α) : List α := ix.filterMap fun i => xs[i]?
theorem RelAll.pick {K : Frag} {as : List Addr} {H : Hp} {vs : List V} {xs : List D} (r : RelAll K as H vs xs) : ∀ ix : List Nat, RelAll K as H (V2.pick ix vs) (V2.pick ix xs)
  | [] => .nil
  | i :: ix => by
    have ih := RelAll.pick r ix
    unfold V2.pick at ih ⊢
    rw [List.filterMap_cons, List.filterMap_cons]
    cases q : xs[i]? with
    | none =>
      have : vs[i]? = none := by
        rw [List.getElem?_eq_none_iff] at q ⊢
        rw [r.length]; exact q
      rw [this]
      exact ih
    | some y =>
      obtain ⟨v, e1, e2⟩ := r.get q
      rw [e1]
      exact .cons e2 ih
theorem vals_pick {vs : List V} {us : List Value} (r : Vals vs us) : ∀ ix : List Nat, Vals (V2.pick ix vs) (V2.pick ix us)
  | [] => .nil
  | i :: ix => by
    have ih := vals_pick r ix
    unfold V2.pick at ih ⊢
    rw [List.filterMap_cons, List.filterMap_cons]
    cases q : vs[i]? with
    | none =>
      have : us[i]? = none := by
        rw [List.getElem?_eq_none_iff] at q ⊢
        rw [← r.length]; exact q
      rw [this]
      exact ih
    | some y =>
      obtain ⟨v, e1, e2⟩ := r.get q
      rw [e1]
      exact .cons e2 ih
/-- how keywords bind: all parameters by keywords ks -/
def KwB (K : Frag) (fd : FuncData) (ps ks : List Str) (ix : List Nat) : Prop := ∀ (s : Shared) (us : List Value), K.In s.heap → us.length = ks.length → BindsTo s fd ⟨[], ks.zip us⟩ (ps.zip (V2.pick ix us))
def fFnK (ix : List Nat) (n : Nat) (F : WF) (ga : WA) : WE := fun ρ h Q E => ga ρ h (fun xs h1 => xs.length = n ∧ F (V2.pick ix xs) h1 Q E) E
/-- f(k = e, ..), all by keywords -/
theorem SE.callK {kws : List Keyword} {g : WA} {ks : List Str} {ix : List Nat} (G : FnG X.prog X.w X.K X.mg X.base k f fd ps F) (hlen : ∀ xs ho Q E, F xs ho Q E → xs.length = ps.length) (hr : Room k X.A) (hgu : X.A.guards = some []) (tk : Takes X W) (hg : Gl X x) (hm : X.mg x = some (.ref f))
    (hk : PySem.W.keepIn X.K (.ref f) = true) (hb : KwB X.K fd ps ks ix) (ha : SKw X W kws g)
    (hall : (backToKw pos (keywordEach kws X.env)).all (·.1.isSome) = true := by rfl) (hks : (backToKw pos (keywordEach kws X.env)).filterMap (·.1) = ks := by rfl)
    (hdb : (x == ("__debug__" : Str)) = false := by decide)
    (hpl : ((backTo pos (starEach [] X.env)).any (·.1) || (backToKw pos (keywordEach kws X.env)).any (·.1.isNone)) = false := by rfl) : SE X W (.Call (.Name x p) [] kws pos) (fFnK ix ks.length F g) := by
  obtain ⟨t, pa, sa⟩ := ha
  refine ⟨fun σ H Q => t σ H fun vs H1 => vs.length = ks.length ∧ spD X.K X.mg ps.length F (V2.pick ix vs) H1 Q (fun cls d H' => W cls d σ H'), ⟨fun pins s σ H Q I hw => ?_⟩, ?_⟩
  · refine wpAny_Call_Name_kw (ld_glob I hg hm ?_ hdb)
    refine PySem.W.callWith_KW0 (h₀ := X.base) I.ok.mod.kin hk hall (thn (pa.run pos pins s σ H _ I hw) fun us s1 ⟨vs, H1, I1, r, hl, q⟩ => ⟨I1.kIn, ?_⟩) hpl
    rw [hks]
    have b := hb s1 us I1.kIn (by rw [← r.length]; exact hl)
    exact run_fnG (args := ⟨[], ks.zip us⟩) G hr hgu tk I1 b (vals_pick r ix) q
  · intro σ H as ρ h Q E QV eR hR hq kq kx
    refine sa σ H as ρ h _ E _ eR hR hq (fun xs h1 vs as1 H1 hq1 l1 r1 rv => ?_) kx
    have rp := rv.pick ix
    refine ⟨by rw [rv.length, hq1.1], as1, _, h1, Q, E, by rw [rp.length]; exact hlen _ _ _ _ hq1.2, rp, r1, hq1.2, fun y h' v as2 H2 q l r rr => kq.later l1 y h' v as2 H2 q l r rr, fun x h' cls dd as2 H2 q l r xr => kx.later l1 x h' cls dd as2 H2 q l r xr⟩
end
theorem mir_len {n m : Nat} {f : WS} : ∀ xs ho Q E, mir n m f xs ho Q E → xs.length = m := fun _ _ _ _ h => h.1
end V2
set_option Elab.async false
set_option linter.all false
set_option maxRecDepth 100000
set_option maxHeartbeats 4000000
namespace V2
open PySem PySem.Spec PyProof.Rows L2
open PySem.W (Frag)

/-! ### the reading over data, as a reading of the layer (the same in every context of one K, mg) -/
def cE (K : Frag) (mg : Str → Option Value) (W : WX) (f : WE) : TE := fun σ H QV => ∃ as ρ h Q E, EnvR K as H ρ σ ∧ HeapR K as H h ∧ f ρ h Q E ∧
  (∀ y h' v as1 H', Q y h' → Later as H as1 H' → HeapR K as1 H' h' → Rel K as1 H' v y → QV v H') ∧ (∀ x h' cls dd as1 H', E x h' → Later as H as1 H' → HeapR K as1 H' h' → ExR K mg as1 H' cls dd x → W cls dd σ H')
theorem SE.c {X : Cx} {W : WX} {e : Expr} {f : WE} (h : SE X W e f) : PE X e (cE X.K X.mg W f) := by
  obtain ⟨t, pt, st⟩ := h
  exact ⟨fun pins s σ H Q I ⟨as, ρ, ho, Q0, E0, h1, h2, h3, h4, h5⟩ => pt.run pins s σ H Q I (st σ H as ρ ho Q0 E0 Q h1 h2 h3 h4 h5)⟩
def cT (K : Frag) (mg : Str → Option Value) (W : WX) (f : WT) : TT := fun σ H QV => ∃ as ρ h Q E, EnvR K as H ρ σ ∧ HeapR K as H h ∧ f ρ h Q E ∧
  (∀ y h' as1 H', Q y h' → Later as H as1 H' → HeapR K as1 H' h' → QV y H') ∧ (∀ x h' cls dd as1 H', E x h' → Later as H as1 H' → HeapR K as1 H' h' → ExR K mg as1 H' cls dd x → W cls dd σ H')
theorem ST.c {X : Cx} {W : WX} {e : Expr} {f : WT} (h : ST X W e f) : PT X e (cT X.K X.mg W f) := by
  obtain ⟨t, pt, st⟩ := h
  exact ⟨fun pins s σ H Q I ⟨as, ρ, ho, Q0, E0, h1, h2, h3, h4, h5⟩ => pt.run pins s σ H Q I (st σ H as ρ ho Q0 E0 Q h1 h2 h3 h4 h5)⟩
def cG (K : Frag) (g : WG) (sl : List Nat) : TG := fun v σ H Q => ∃ as x ρ h ρ', EnvR K as H ρ σ ∧ HeapR K as H h ∧ Rel K as H v x ∧ g x h ρ = some ρ' ∧
    (∀ σ', EnvR K as H ρ' σ' → (∀ vs : List Nat, (∀ i ∈ sl, i ∈ vs) → L2.wipe σ' vs = L2.wipe σ vs) → Q σ' H)
theorem SG.c {X : Cx} {tg : Expr} {g : WG} {sl : List Nat} (h : SG X tg g sl) : PG X tg (cG X.K g sl) := by
  obtain ⟨t, pt, st⟩ := h
  exact ⟨fun pins s σ H v u Q I r ⟨as, x, ρ, ho, ρ', h1, h2, h3, h4, h5⟩ => pt.run pins s σ H v u Q I r (st v x σ H as ρ ho ρ' Q h1 h2 h3 h4 h5)⟩

/-! ### list comprehensions of one clause -/
def noX : XD := fun _ _ => False
/-- nothing leaves -/
def WF0 : WX := fun _ _ _ _ => False
/-- the turns: the items so far stand at place n -/
def lcGo (g : WG) (tt : WT) (te : WE) (st : Ho → Prop) (n : Nat) (ρ : En) (Q : Ho → Prop) : List D → Ho → Prop
  | [], h => Q h
  | x :: xs, h => match g x h ρ with
    | some ρ1 => tt ρ1 h (fun b h1 => if b = true then te ρ1 h1 (fun y h2 => match h2[n]? with
        | some (.lst acc) => acc.length < sizeLine ∧ st (h2.set n (.lst (acc ++ [y]))) ∧ lcGo g tt te st n ρ Q xs (h2.set n (.lst (acc ++ [y])))
        | none => False) noX else st h1 ∧ lcGo g tt te st n ρ Q xs h1) noX
    | none => False
/-- the new list is a place -/
def fLcL (wi : WI) (g : WG) (tt : WT) (te : WE) (own : List Nat) : WE := fun ρ h Q E => wi ρ h (fun xs st h1 =>
  st (h1 ++ [.lst []]) ∧ lcGo g tt te st h1.length (wipeD ρ own) (fun h2 => Q (.loc h1.length) h2) xs (h1 ++ [.lst []])) E
/-- no place n stands in the store -/
def noRefD (n : Nat) : D → Bool
  | .loc m => m != n
  | _ => true
def noRef (n : Nat) (h : Ho) : Bool := h.all fun o => match o with
  | .lst xs => xs.all (noRefD n)
/-- the new list is data: the store behind is as long as ahead, and nothing in it leads to the list -/
def fLcV (wi : WI) (g : WG) (tt : WT) (te : WE) (own : List Nat) : WE := fun ρ h Q E => wi ρ h (fun xs st h1 =>
  st (h1 ++ [.lst []]) ∧ lcGo g tt te st h1.length (wipeD ρ own) (fun h2 => ∃ hh acc ps, h2 = hh ++ [.lst acc] ∧ hh.length = h1.length ∧ (hh = h1 ∨ noRef h1.length hh = true) ∧ allD acc = some ps ∧ Q (.d (.list ps)) hh) xs (h1 ++ [.lst []])) E
def tTrue : WT := fun _ h Q _ => Q true h
section
variable {X : Cx} {W : WX} {elt tg it : Expr} {ifs : List Expr} {scope : Scope} {own : List (Str × Nat)} {pos : Pos} {wi : WI} {g : WG} {sl : List Nat} {tt : WT} {te : WE}
def STs (X : Cx) (W : WX) (ifs : List Expr) (f : WT) : Prop := ∃ t, PTs X ifs t ∧ SpT X W t f
theorem STs.nil : STs X W [] tTrue := ⟨_, pts_nil, fun _ _ _ _ _ _ _ _ _ hR hq k _ => k _ _ _ _ hq (Later.refl _ _) hR⟩
theorem STs.one {c : Expr} {f : WT} (h : ST X W c f) : STs X W [c] f := let ⟨_, p, s⟩ := h; ⟨_, pts_one p, s⟩
theorem STs.c {f : WT} (h : STs X W ifs f) : PTs X ifs (cT X.K X.mg W f) := by
  obtain ⟨t, pt, st⟩ := h
  exact ⟨fun pins s σ H Q I ⟨as, ρ, ho, Q0, E0, h1, h2, h3, h4, h5⟩ => pt.run pins s σ H Q I (st σ H as ρ ho Q0 E0 Q h1 h2 h3 h4 h5)⟩
theorem wipe_wipe (σ : L2.St) (vs : List Nat) : L2.wipe (L2.wipe σ vs) vs = L2.wipe σ vs := by
  have key : ∀ (ws us : List Nat), (∀ i ∈ ws, i ∈ us) → ∀ τ, L2.wipe (L2.wipe τ ws) us = L2.wipe τ us := by
    intro ws
    induction ws with
    | nil => intro us _ τ; rfl
    | cons w ws ih =>
      intro us hs τ
      show L2.wipe ((L2.wipe τ ws).set w none) us = _
      rw [wipe_set (hs w (by simp)), ih us (fun i hi => hs i (List.mem_cons_of_mem _ hi))]
  exact key vs vs (fun _ h => h) σ
/-- the walk of the turns, in the layer -/
theorem lc_walk {K : Frag} {mg : Str → Option Value} {as1 : List Addr} {H1 : Hp} {h1 : Ho} {σ : L2.St} {ρ : En} {xs : List D} {st : Ho → Prop} {J : It} {Qf : Ho → Prop} {QV : VK} {ow : List Nat} (hsl : ∀ i ∈ sl, i ∈ ow)
    (r1 : HeapR K as1 H1 h1) (eR : EnvR K as1 H1 ρ σ) (wk : Walks K as1 H1 xs st J) (st1 : st (h1 ++ [.lst []])) (go : lcGo g tt te st h1.length (wipeD ρ ow) Qf xs (h1 ++ [.lst []]))
    (kq : ∀ p as2 H2 h2, H1 p = none → Qf h2 → Later as1 H1 as2 H2 → HeapR K as2 H2 h2 → as2[h1.length]? = some p → QV (.ref p) H2) :
    ∀ p, H1 p = none → ∃ Wm : Nat → Nat → Hp → Prop, (∃ m, Wm 0 m (upd H1 p (.lst []))) ∧ ∀ i m H, Wm i m H →
      (J.stop i H ∧ QV (.ref p) H) ∨ (J.go i H ∧ ∃ Nx : Hp → Prop, (∀ H', Nx H' → ∃ m', m' < m ∧ Wm (i + 1) m' H') ∧ ∀ x H', J.yld i H x H' → cG K g sl x (L2.wipe σ ow) H' fun σ2 H2 => L2.wipe σ2 ow = L2.wipe σ ow ∧ cT K mg WF0 tt σ2 H2 fun b H3 =>
        if b = true then cE K mg WF0 te σ2 H3 fun y H4 => ∃ acc, H4 p = some (.lst acc) ∧ acc.length < sizeLine ∧ Nx (upd H4 p (.lst (acc ++ [y]))) else Nx H3) := by
  intro p hp
  obtain ⟨rp, ep⟩ := r1.place (vs := []) (xs := []) hp .nil
  have lp : Later as1 H1 (as1 ++ [p]) (upd H1 p (.lst [])) := Later.place _ hp
  refine ⟨fun i m H => m = xs.length - i ∧ i ≤ xs.length ∧ ∃ as2 h2, Later as1 H1 as2 H ∧ as2[h1.length]? = some p ∧ HeapR K as2 H h2 ∧ st h2 ∧ lcGo g tt te st h1.length (wipeD ρ ow) Qf (xs.drop i) h2,
    ⟨xs.length, by simp, Nat.zero_le _, _, _, lp, ep, rp, st1, go⟩, ?_⟩
  rintro i m H ⟨rfl, hi, as2, h2, l2, e2, r2, st2, go2⟩
  obtain ⟨w1, w2, w3⟩ := wk i as2 H h2 l2 r2 st2
  by_cases hlt : i < xs.length
  · refine .inr ⟨w1 hlt, fun H' => i + 1 ≤ xs.length ∧ ∃ as3 h3, Later as1 H1 as3 H' ∧ as3[h1.length]? = some p ∧ HeapR K as3 H' h3 ∧ st h3 ∧ lcGo g tt te st h1.length (wipeD ρ ow) Qf (xs.drop (i + 1)) h3,
      fun H' z => ⟨xs.length - (i + 1), by omega, rfl, z.1, z.2⟩, fun v H' y => ?_⟩
    obtain ⟨l3, r3, rv⟩ := w3 v H' y xs[i] (List.getElem?_eq_getElem hlt)
    rw [List.drop_eq_getElem_cons hlt] at go2
    unfold lcGo at go2
    split at go2
    · rename_i ρ1 e1
      have l13 := l2.trans l3
      refine ⟨as2, _, _, h2, ρ1, (eR.later l13).wipe ow, r3, rv, e1, fun σ2 eR2 hw => ⟨?_, ?_⟩⟩
      · rw [hw ow hsl, wipe_wipe]
      · refine ⟨as2, ρ1, h2, _, _, eR2, r3, go2, fun b h3 as3 H3 q3 l4 r4 => ?_, fun _ _ _ _ _ _ z => z.elim⟩
        cases b with
        | false =>
          refine iteF ⟨hlt, as3, h3, l13.trans l4, l4.at e2, r4, ?_⟩
          exact q3
        | true =>
          refine iteT ⟨as3, ρ1, h3, _, _, eR2.later l4, r4, q3, fun y h4 w as4 H4 q4 l5 r5 rw' => ?_, fun _ _ _ _ _ _ z => z.elim⟩
          split at q4
          · rename_i acc ea
            have e4 := l5.at (l4.at e2)
            obtain ⟨b, hb, vs, o1, o2⟩ := r5.at ea
            rw [e4] at hb
            cases hb
            have lw : Later as4 H4 as4 (upd H4 p (.lst (vs ++ [w]))) := Later.write _ (List.mem_of_getElem? e4)
            exact ⟨vs, o1, by rw [o2.length]; exact q4.1, hlt, as4, _, ((l13.trans l4).trans l5).trans lw, e4, r5.write e4 (o2.append (.cons rw' .nil)), q4.2.1, q4.2.2⟩
          · exact q4.elim
    · exact go2.elim
  · have e : i = xs.length := by omega
    subst e
    rw [List.drop_length] at go2
    unfold lcGo at go2
    exact .inl ⟨w2 rfl, kq p as2 H h2 hp go2 l2 r2 e2⟩
variable (hc : X.calm = true) (hN : X.N.Nodup) (hi : SI X W tg it wi) (ok : BlkOk X.N X.env.scope scope own) (hsl : ∀ i ∈ sl, i ∈ own.map (·.2))
    (hg : ∀ (s : Shared) (H : Hp) (C : Addr) (cl : List (Str × Addr)) (fp : List Addr), SG (X.blk s H scope (compEnvC scope cl C X.env) fp) tg g sl)
    (ht : ∀ (s : Shared) (H : Hp) (C : Addr) (cl : List (Str × Addr)) (fp : List Addr), STs (X.blk s H scope (compEnvC scope cl C X.env) fp) WF0 ifs tt)
    (he : ∀ (s : Shared) (H : Hp) (C : Addr) (cl : List (Str × Addr)) (fp : List Addr), SE (X.blk s H scope (compEnvC scope cl C X.env) fp) WF0 elt te)
include hc hN hi ok hsl hg ht he
theorem sp_lc {t : TI} (st' : ∀ σ H as ρ h Q E (R : It → Hp → Prop), EnvR X.K as H ρ σ → HeapR X.K as H h → wi ρ h Q E →
    (∀ xs st h1 as1 H1 (J : It), Q xs st h1 → st h1 → Later as H as1 H1 → HeapR X.K as1 H1 h1 → Walks X.K as1 H1 xs st J → R J H1) → XTo X W as H σ E → t σ H R) :
    SpE X W (tLc t (cG X.K g sl) (cT X.K X.mg WF0 tt) (cE X.K X.mg WF0 te) (own.map (·.2))) (fLcL wi g tt te (own.map (·.2))) ∧
    SpE X W (tLc t (cG X.K g sl) (cT X.K X.mg WF0 tt) (cE X.K X.mg WF0 te) (own.map (·.2))) (fLcV wi g tt te (own.map (·.2))) := by
  constructor
  · intro σ H as ρ h Q E QV eR hR hq k kx
    refine st' σ H as ρ h _ E _ eR hR hq (fun xs st h1 as1 H1 J q1 s1 l1 r1 wk => ?_) kx
    refine lc_walk hsl r1 (eR.later l1) wk q1.1 q1.2 fun p as2 H2 h2 hp q2 l2 r2 e2 => ?_
    exact k _ _ _ _ _ q2 (l1.trans l2) r2 (.loc e2)
  · intro σ H as ρ h Q E QV eR hR hq k kx
    refine st' σ H as ρ h _ E _ eR hR hq (fun xs st h1 as1 H1 J q1 s1 l1 r1 wk => ?_) kx
    refine lc_walk hsl r1 (eR.later l1) wk q1.1 q1.2 fun p as2 H2 h2 hp q2 l2 r2 e2 => ?_
    obtain ⟨hh, acc, ps, rfl, hlen, hno, hps, q⟩ := q2
    -- the last place is taken away
    have hal : as2.length = hh.length + 1 := by rw [r2.len]; simp
    have al1 : as1.length = h1.length := r1.len
    obtain ⟨mo, hmo⟩ := l2.more
    have hmo1 : mo.length = 1 := by
      have := congrArg List.length hmo
      rw [List.length_append] at this
      omega
    obtain ⟨p', rfl⟩ : ∃ p', mo = [p'] := by
      cases mo with
      | nil => simp at hmo1
      | cons a t => cases t with
        | nil => exact ⟨a, rfl⟩
        | cons _ _ => simp at hmo1
    have ep : p' = p := by
      rw [hmo, ← al1] at e2
      simpa using e2
    subst ep
    subst hmo
    have hpn : p' ∉ as1 := fun hm => by
      obtain ⟨u, e⟩ := r1.there hm
      rw [hp] at e
      cases e
    obtain ⟨b, hb, vs, o1, o2⟩ := r2.at (n := hh.length) (o := .lst acc) (by simp)
    have ebp : b = p' := by
      rw [hlen, ← al1] at hb
      simpa using hb.symm
    subst ebp
    have l2' : Later as1 H1 as1 H2 := ⟨⟨[], by simp⟩, fun q o e n => ⟨(l2.keep q o e n).1, n⟩⟩
    have back : Later (as1 ++ [b]) H2 as1 H2 → True := fun _ => trivial
    have dvBack : ∀ {v : V} {d : PyData}, Dv X.K (as1 ++ [b]) H2 v d → Dv X.K as1 H2 v d := by
      have key : ∀ (q : Addr) (o : HO), H2 q = some o → q ∉ as1 ++ [b] → H2 q = some o ∧ q ∉ as1 := fun q o e n => ⟨e, fun m => n (List.mem_append_left _ m)⟩
      intro v d hd
      have tupB : ∀ {a : Addr} {ys : List V}, TupR X.K (as1 ++ [b]) H2 a ys → TupR X.K as1 H2 a ys := fun z => z.elim (fun z => .inl ⟨z.1, fun m => z.2 (List.mem_append_left _ m)⟩) .inr
      have lstB : ∀ {a : Addr} {ys : List V}, LstR X.K (as1 ++ [b]) H2 a ys → LstR X.K as1 H2 a ys := fun z => z.elim (fun z => .inl ⟨z.1, fun m => z.2 (List.mem_append_left _ m)⟩) .inr
      exact Dv.rec (motive_1 := fun v d _ => Dv X.K as1 H2 v d) (motive_2 := fun vs ds _ => DvAll X.K as1 H2 vs ds) .non (fun b => .bl b) (fun i => .int i) (fun x => .str x) (fun s _ ih => .lst (lstB s) ih) (fun s _ ih => .tup (tupB s) ih) .nil (fun _ _ ih1 ih2 => .cons ih1 ih2) hd
    have relBack : ∀ {v : V} {x : D}, Rel X.K (as1 ++ [b]) H2 v x → noRefD h1.length x = true → Rel X.K as1 H2 v x := by
      intro v x rx hn
      cases rx with
      | d rx => exact .d (dvBack rx)
      | @loc a m hm =>
        simp only [noRefD, bne_iff_ne, ne_eq] at hn
        have hlt := (List.getElem?_eq_some_iff.mp hm).1
        simp at hlt
        have : m < as1.length := by omega
        rw [List.getElem?_append_left this] at hm
        exact .loc hm
    have allBack : ∀ {vs : List V} {xs : List D}, RelAll X.K (as1 ++ [b]) H2 vs xs → (∀ x ∈ xs, noRefD h1.length x = true) → RelAll X.K as1 H2 vs xs := by
      intro vs xs ra
      induction ra with
      | nil => intro _; exact .nil
      | cons r t ih => intro hn; exact .cons (relBack r (hn _ (by simp))) (ih fun x hx => hn x (List.mem_cons_of_mem _ hx))
    have hclean : ∀ (i : Nat) (ys : List D), hh[i]? = some (.lst ys) → ∀ x ∈ ys, noRefD h1.length x = true := by
      intro i ys e x hx
      rcases hno with rfl | hno
      · -- the store as it was: each place within is an old one
        obtain ⟨a, ha, us, u1, u2⟩ := r1.at e
        obtain ⟨j, hj, ej⟩ := List.mem_iff_getElem.mp hx
        obtain ⟨v, _, rvx⟩ := u2.get (i := j) (x := x) (by rw [List.getElem?_eq_getElem hj, ej])
        cases rvx with
        | d _ => rfl
        | @loc a m hm =>
          have := (List.getElem?_eq_some_iff.mp hm).1
          simp only [noRefD, bne_iff_ne, ne_eq]
          omega
      · unfold noRef at hno
        rw [List.all_eq_true] at hno
        have := hno _ (List.mem_of_getElem? e)
        simp only [List.all_eq_true] at this
        exact this x hx
    have r2' : HeapR X.K as1 H2 hh := by
      refine ⟨by omega, r1.nd, fun i o a e1 e2 => ?_⟩
      have hi' : i < as1.length := (List.getElem?_eq_some_iff.mp e2).1
      have q2 := r2.ob i o a (by rw [List.getElem?_append_left (by omega)]; exact e1) (by rw [List.getElem?_append_left hi']; exact e2)
      cases o with
      | lst ys =>
        obtain ⟨us, u1, u2⟩ := q2
        exact ⟨us, u1, allBack u2 (hclean i ys e1)⟩
    have dv := o2.ofAllD hps
    have dvl : DvAll X.K as1 H2 vs ps := by
      have := DvAll.rec (motive_1 := fun _ _ _ => True) (motive_2 := fun vs ds _ => DvAll X.K as1 H2 vs ds) (K := X.K) (as := as1 ++ [b]) (H := H2) trivial (fun _ => trivial) (fun _ => trivial) (fun _ => trivial) (fun _ _ _ => trivial) (fun _ _ _ => trivial) .nil (fun h1 _ _ ih2 => .cons (dvBack h1) ih2) dv
      exact this
    exact k _ _ _ _ _ q (l1.trans l2') r2' (.d (.lst (.inl ⟨.inl o1, hpn⟩) dvl))
theorem SE.lcL (hs : ∀ x, foldedSetIterable it X.env x = pure x := by intro _; rfl) : SE X W (.ListComp elt [⟨tg, it, ifs, 0⟩] scope pos) (fLcL wi g tt te (own.map (·.2))) := by
  obtain ⟨t, pi, st'⟩ := id hi
  exact ⟨_, pe_lc hc hN pi ok (fun s H C cl fp => (hg s H C cl fp).c) (fun s H C cl fp => (ht s H C cl fp).c) (fun s H C cl fp => (he s H C cl fp).c) hs, (sp_lc hc hN hi ok hsl hg ht he st').1⟩
theorem SE.lcV (hs : ∀ x, foldedSetIterable it X.env x = pure x := by intro _; rfl) : SE X W (.ListComp elt [⟨tg, it, ifs, 0⟩] scope pos) (fLcV wi g tt te (own.map (·.2))) := by
  obtain ⟨t, pi, st'⟩ := id hi
  exact ⟨_, pe_lc hc hN pi ok (fun s H C cl fp => (hg s H C cl fp).c) (fun s H C cl fp => (ht s H C cl fp).c) (fun s H C cl fp => (he s H C cl fp).c) hs, (sp_lc hc hN hi ok hsl hg ht he st').2⟩
/-- name = [..], on one row -/
theorem SS.setLcL {i : Nat} {y : Str} {py spos : Pos} (hy : X.N[i]? = some y) (hyl : X.env.scope.names.lookup y = some .local) (hsw : swapsWith (.ListComp elt [⟨tg, it, ifs, 0⟩] scope pos) (some (.Name y py)) spos.line X.env = pure true)
    (hs : ∀ x, foldedSetIterable it X.env x = pure x := by intro _; rfl) : SS X W (.Assign [.Name y py] (.ListComp elt [⟨tg, it, ifs, 0⟩] scope pos) spos) (sAsg (fLcL wi g tt te (own.map (·.2))) (gNm i)) := by
  obtain ⟨t, pi, st'⟩ := id hi
  refine ⟨_, ps_setLc hc hN hy hyl hsw pi ok (fun s H C cl fp => (hg s H C cl fp).c) (fun s H C cl fp => (ht s H C cl fp).c) (fun s H C cl fp => (he s H C cl fp).c) hs, sp_asg (sl := [i]) (sp_lc hc hN hi ok hsl hg ht he st').1 fun v x σ H as ρ h ρ' Q eR hR r e k => ?_⟩
  simp only [gNm, Option.some.injEq] at e
  subst e
  exact k _ (eR.set i r) fun vs hv => wipe_set (hv i (by simp))
theorem SS.setLcV {i : Nat} {y : Str} {py spos : Pos} (hy : X.N[i]? = some y) (hyl : X.env.scope.names.lookup y = some .local) (hsw : swapsWith (.ListComp elt [⟨tg, it, ifs, 0⟩] scope pos) (some (.Name y py)) spos.line X.env = pure true)
    (hs : ∀ x, foldedSetIterable it X.env x = pure x := by intro _; rfl) : SS X W (.Assign [.Name y py] (.ListComp elt [⟨tg, it, ifs, 0⟩] scope pos) spos) (sAsg (fLcV wi g tt te (own.map (·.2))) (gNm i)) := by
  obtain ⟨t, pi, st'⟩ := id hi
  refine ⟨_, ps_setLc hc hN hy hyl hsw pi ok (fun s H C cl fp => (hg s H C cl fp).c) (fun s H C cl fp => (ht s H C cl fp).c) (fun s H C cl fp => (he s H C cl fp).c) hs, sp_asg (sl := [i]) (sp_lc hc hN hi ok hsl hg ht he st').2 fun v x σ H as ρ h ρ' Q eR hR r e k => ?_⟩
  simp only [gNm, Option.some.injEq] at e
  subst e
  exact k _ (eR.set i r) fun vs hv => wipe_set (hv i (by simp))
end
end V2
set_option Elab.async false
set_option linter.all false
set_option maxRecDepth 100000
set_option maxHeartbeats 4000000
namespace V2
open PySem PySem.Spec PyProof.Rows L2
open PySem.W (Frag)
open PySem.Builtin PySem.Builtin.ObjectAttr

/-! ### own exceptions over Exception -/
/-- own classes, then Exception's chain -/
inductive Refs : List Value → Prop
  | nil : Refs [.type "Exception", .type "BaseException", .type "object"]
  | cons (c : Addr) {r : List Value} : Refs r → Refs (.ref c :: r)
theorem Refs.pass (self : Value) : ∀ {l : List Value}, Refs l → refuseLoop self "__setattr__" l = pure ()
  | _, .nil => F.store_Exception.passes self
  | _, .cons _ r => by rw [refuseLoop_ref]; exact Refs.pass self r
theorem Refs.has (n : String) : ∀ {l : List Value}, Refs l → l.contains (.type n) = ([.type "Exception", .type "BaseException", .type "object"] : List Value).contains (.type n)
  | _, .nil => rfl
  | _, .cons _ r => by rw [List.contains_cons, Refs.has n r]; rfl
theorem Refs.ne : ∀ {l : List Value}, Refs l → l.isEmpty = false
  | _, .nil => rfl
  | _, .cons _ _ => rfl
section
variable {prog : Program} {w : World} {A : Around} {E : Value → Shared → Prop} {R : Result → Shared → Prop} {hp : Heap} {g : Array GenState} {d : Drawn} {t : Nat} {os : OsState}
/-- self.name = v on an exception that has no dict yet -/
theorem refs_osa {K : Frag} {name : Str} {tk : Tok} {v : Value} {x C : Addr} {fv : Array Value} {cd : ClassData} (inK : K.In hp) (ox : hp.get? x = some { cls := .ref C, data := .fields fv }) (ecd : PySem.W.clsIn K C = some cd) (rf : Refs cd.mro)
    (edict : cd.hasDict = true) (noF : PySem.W.findIn K (.ref C) name = some none)
    (fin : ∀ h' tk' dx, (∀ b o, b ≠ x → hp.get? b = some o → h'.get? b = some o) → hp.objs.size ≤ dx → dx ≠ x → h'.get? x = some { cls := .ref C, dict := some dx, data := .fields fv } →
      h'.Ns1 dx (fun y => if y = name then some v else none) → R (.ok (.ret .none)) ⟨h', g, d, tk', os⟩) :
    codeAny (model prog w) A (.call (.builtin "object.__setattr__") ⟨[.ref x, .str name tk, v], []⟩) R ⟨hp, g, d, t, os⟩ := by
  have inst : PySem.W.InstAt hp x { cls := .ref C, data := .fields fv } C none := ⟨ox, rfl, rfl, trivial⟩
  have so := F.store_object
  have isob : cd.mro.contains (.type "object") = true := (rf.has "object").trans (by decide +kernel)
  have apart : x ≠ hp.objs.size := Nat.ne_of_lt (Heap.lt_size ox)
  have lob : PySem.W.Looks (model prog w) hp (isInstance (.ref x) (.type "object")) true := inst.type.andThen (PySem.W.looks_mroIn inK (by unfold PySem.W.mroIn; rw [ecd, Option.bind_some, if_neg (by rw [rf.ne]; decide), isob]))
  refine codeAny_call_builtin so.slot.plain so.entry (@PySem.W.check_slot (model prog w) _ _ ⟨hp, g, d, t, os⟩ "object.__setattr__" "object" "__setattr__" (.ref x) [.str name tk, v] [] _ so.kind so.split lob (so.args (.ref x) (.str name tk) v) ?_)
  have lm : PySem.W.Looks (model prog w) hp (mroOf (.ref C)) cd.mro := (PySem.W.looks_clsIn inK ecd).andThen .now
  have l3 : PySem.W.Looks (model prog w) hp (storeTaker? none) none := .now
  have lcd : PySem.W.Looks (model prog w) hp (classData C) cd := PySem.W.looks_clsIn inK ecd
  rw [PySem.W.osa_eq, refuse_eq]
  refine wpAny_bind (wpAny_bind (inst.type.at (wpAny_bind (lm.at ?_))))
  rw [rf.pass _]
  refine wpAny_pure (wpAny_bind (inst.type.at (wpAny_bind ((PySem.W.looks_findIn inK noF).at (wpAny_bind (l3.at ?_))))))
  show wpAny _ _ (storeInOwnDict (.ref x) (.ref C) (.str name tk) name v false) _ _ _
  obtain ⟨cn, cb, cm, cns, cq, chd, csn, csb, cab, ccol, cdel⟩ := cd
  dsimp only at edict
  subst edict
  unfold storeInOwnDict ownDictForStores
  repeat (first | with_reducible refine HandSPX.store_in_new ?_ ?_ | with_reducible refine wpAny_loadPart_at ox ?_ | with_reducible refine lcd.at ?_ | wp_step)
  · exact ⟨_, #[], _, (Heap.get?_update_ne _ _ _ _ apart.symm).trans (Heap.get?_push_at rfl rfl), rfl, fun e he => absurd he (by simp), fun _ => rfl⟩
  · intro h' tk' hn' hs
    have ox1 : (hp.push { cls := .type "dict", data := .dict #[] }).get? x = some { cls := .ref C, data := .fields fv } := Heap.get?_push_of_some _ ox
    refine fin h' tk' hp.objs.size (fun b o hb ho => ?_) (Nat.le_refl _) apart.symm ?_ hn'
    · exact (hs.2 b (Nat.ne_of_lt (Heap.lt_size ho))).trans ((Heap.get?_update_ne _ _ _ _ hb).trans (Heap.get?_push_of_some _ ho))
    · exact (hs.2 x apart).trans (Heap.get?_update_self _ ox1 rfl)
end
/-- what __init__(self, fld) leaves of a fresh exception at x -/
structure InitBehind (fld : Str) (h h' : Heap) (x C dx t1 : Addr) (v : Value) : Prop where
  keep : ∀ b o, b ≠ x → h.get? b = some o → h'.get? b = some o
  obj : h'.get? x = some { cls := .ref C, dict := some dx, data := .fields #[.ref t1, .none, .none, .none, .bool false, .none] }
  dbig : h.objs.size ≤ dx
  dne : dx ≠ x
  ns : h'.Ns1 dx (fun y => if y = fld then some v else none)
/-- a made exception -/
structure MadeX (fld : Str) (h h' : Heap) (e C d : Addr) (v : Value) : Prop where
  keep : ∀ b o, h.get? b = some o → h'.get? b = some o
  new : h.objs.size ≤ e
  obj : ∃ oe vs, h'.get? e = some oe ∧ oe.cls = .ref C ∧ oe.dict = some d ∧ oe.data = .fields vs ∧ vs[1]? = some .none
  dbig : h.objs.size ≤ d
  dne : d ≠ e
  ns : h'.Ns1 d (fun y => if y = fld then some v else none)
/-- what the written part says of a class -/
structure XCls (K : Frag) (mg : Str → Option Value) (cn : Str) (C : Addr) : Prop where
  gC : mg cn = some (.ref C)
  cls : ∃ nm q N bs bm sn sub ab col dd k0 k1 k2 k3 k5, K.lookup C = some (excClassObj nm q C N bs bm true sn sub ab col dd k0 k1 k2 k3 k5 "Exception.__new__") ∧ Refs bm
  kC : PySem.W.keepIn K (.ref C) = true
  exC : PySem.W.subIn K (.ref C) (.type "BaseException") = some true
  tyC : PySem.W.typeIn K (.ref C) = some (.type "type")
  hdC : PySem.W.hasDictIn K C = true
/-- with an __init__ at fI that stores one field -/
structure XOwn (K : Frag) (mg : Str → Option Value) (cn : Str) (C fI : Addr) (fld : Str) : Prop extends XCls K mg cn C where
  sa : PySem.W.findIn K (.ref C) "__setattr__" = some (some (.builtin "object.__setattr__"))
  noN : PySem.W.findIn K (.ref C) fld = some none
  iC : PySem.W.findIn K (.ref C) "__init__" = some (some (.ref fI))
  tC : PySem.W.typeIn K (.ref fI) = some (.type "function")
  init : ∀ {prog : Program} {w : World} {A : Around} {R : Result → Shared → Prop} {s : Shared} {x t0 : Addr} {v : Value}, K.In s.heap → s.heap.NoLimit → s.heap.get? x = some (HandSPX.excO C t0) → A.depth < recursionLimit →
    (∀ h' tk dx, InitBehind fld s.heap h' x C dx t0 v → R (.ok (.ret .none)) { s with heap := h', toks := tk }) → codeAny (model prog w) A (.call (.ref fI) ⟨[.ref x, v], []⟩) R s
theorem one_fits (v : Value) : [v].length ≤ sizeLine := by
  rw [sizeLine_eq]
  exact (by decide : 1 ≤ 16777216)
section
variable {prog : Program} {w : World} {A : Around} {E : Value → Shared → Prop} {R : Result → Shared → Prop} {s : Shared} {K : Frag} {mg : Str → Option Value} {C fI : Addr} {cn fld : Str}
theorem x_made (T : XOwn K mg cn C fI fld) {v : Value} (inK : K.In s.heap) (hlim : s.heap.NoLimit) (hroom : A.depth + 1 < recursionLimit)
    (hq : ∀ h' tk e d, MadeX fld s.heap h' e C d v → R (.ok (.ret (.ref e))) { s with heap := h', toks := tk }) : codeAny (model prog w) A (.call (.ref C) ⟨[v], []⟩) R s := by
  obtain ⟨nm, q, N, bs, bm, sn, sub, ab, col, dd, k0, k1, k2, k3, k5, hC, hbm⟩ := T.cls
  obtain ⟨hp, gg, dr, tk, os⟩ := s
  have up : ∀ b o, hp.get? b = some o → ((hp.push (PySem.W.kdv_tup [v])).push (HandSPX.excO C hp.objs.size)).get? b = some o := fun b o e => Heap.get?_push_of_some _ (Heap.get?_push_of_some _ e)
  have there : ((hp.push (PySem.W.kdv_tup [v])).push (HandSPX.excO C hp.objs.size)).get? (hp.objs.size + 1) = some (HandSPX.excO C hp.objs.size) := by heap_get
  refine HandSPX.call_own F.excBase_Exception (fun n => hbm.has n) (inK _ _ hC) (PySem.W.looks_findIn inK T.iC) (fun self => PySem.W.bind_fn inK self T.tC) (one_fits v) ?_
  refine T.init (s := ⟨(hp.push (PySem.W.kdv_tup [v])).push (HandSPX.excO C hp.objs.size), gg, dr, tk, os⟩) (inK.keeps up) (hlim.keeps up) there ?_ fun h' tk' dx ⟨k', hx, dn, dne, hns⟩ => ?_
  · show A.depth + 1 < recursionLimit
    exact hroom
  · have old : ∀ b o, hp.get? b = some o → h'.get? b = some o := fun b o e => k' b o (Nat.ne_of_lt (Nat.lt_succ_of_lt (Heap.lt_size e))) (up b o e)
    have z : hp.objs.size + 1 + 1 ≤ dx := by
      have q := dn
      simp only [Heap.size_push] at q
      exact q
    exact ⟨rfl, hq h' tk' (hp.objs.size + 1) dx ⟨old, Nat.le_succ _, ⟨_, _, hx, rfl, rfl, rfl, rfl⟩, (by show hp.objs.size ≤ dx; omega), dne, hns⟩⟩
end
theorem relO_one {v : V} {v' : Value} {fld : Str} (r : RelV v v') (f : Str) : RelO (List.lookup f [(fld, v)]) (if f = fld then some v' else none) := by
  by_cases hw : f = fld
  · subst hw
    rw [if_pos rfl]
    have q : List.lookup f [(f, v)] = some v := by simp [List.lookup]
    rw [q]
    exact r
  · rw [if_neg hw]
    have qw : (f == fld) = false := by simpa using hw
    have q2 : List.lookup f [(fld, v)] = none := by simp [List.lookup, qw]
    rw [q2]
    trivial
section
variable {X : Cx} {W : WX} {C fI : Addr} {cn fld : Str}
def tMkX (C : Addr) (fld : Str) (ta : TA) : L2.St → Hp → XK → Prop := fun σ H Q => ta σ H fun vs H1 => ∃ v, vs = [v] ∧ ∀ d, H1 d = none → Q (.ref C) (some d) (upd H1 d (.xd [(fld, v)]))
theorem pmk_x {a : Expr} {ta : TA} {p pos : Pos} {k : Nat} (T : XOwn X.K X.mg cn C fI fld) (hr : Room k X.A) (ha : PA X [a] ta) (hg : Gl X cn) (hdb : (cn == ("__debug__" : Str)) = false := by decide)
    (he : starEach (a :: []) X.env = (false, eval a X.env) :: starEach [] X.env := by rfl) (hpl : (backTo pos (starEach [] X.env)).any (·.1) = false := by rfl) : PMk X (.Call (.Name cn p) [a] [] pos) (tMkX C fld ta) := by
  intro pins s σ H Q I h
  refine wpAny_Call_Name_kw (ld_glob I hg T.gC ?_ hdb)
  refine PySem.W.callWith_K (h₀ := X.base) I.ok.mod.kin T.kC (thn (ha.run pos pins s σ H _ I h) fun us s1 hh => ?_) he hpl
  obtain ⟨vs, H1, I1, r1, v, ev, q1⟩ := hh
  subst ev
  refine ⟨I1.kIn, ?_⟩
  obtain ⟨u, rfl, rv⟩ := vals1 r1
  show wpAny _ _ (call (.ref C) [u]) _ _ _
  have nol := I1.nolimit
  obtain ⟨hp, g, dr, tk, os⟩ := s1
  refine wpAny_call (x_made T I1.kIn nol (by have := hr.dp; omega) fun h' tk' e d M => ?_)
  show MkP X pins σ Q (.ref e) ⟨h', g, dr, tk', os⟩
  obtain ⟨oe, fv, hoe, hc, hd, hdat, h1⟩ := M.obj
  obtain ⟨G', g1, g2⟩ := restrict h' fun b => decide (b ≠ e)
  have gk : ∀ b, b ≠ e → G'.get? b = h'.get? b := fun b hb => g1 b (decide_eq_true hb)
  have ge : G'.get? e = none := g2 e (by simp)
  have old : ∀ b o, hp.get? b = some o → G'.get? b = some o := fun b o q => (gk b (Nat.ne_of_lt (Nat.lt_of_lt_of_le (Heap.lt_size q) M.new))).trans (M.keep b o q)
  have ob : ObjOk X.prog X.w (upd H1 d (.xd [(fld, v)])) G' d (.xd [(fld, v)]) := ⟨_, M.ns.at (fun o q => (gk d M.dne).trans q), fun f => relO_one rv f⟩
  have J : Inv X pins σ (upd H1 d (.xd [(fld, v)])) ⟨G', g, dr, tk', os⟩ := I1.laid (t' := tk') old M.dbig ob
  refine ⟨e, oe, fv, ⟨G', g, dr, tk', os⟩, _, .ref C, some d, rfl, J, fun b o q => ?_, ge, hoe, ⟨hc, hd⟩, hdat, h1, ?_, rfl, I1.bare, raises_own T.exC T.tyC, q1 d (I1.hok.fresh M.dbig)⟩
  · by_cases hb : b = e
    · have q' : G'.get? b = some o := q
      rw [hb, ge] at q'
      cases q'
    · exact (gk b hb).symm.trans q
  · rw [upd_ne (Ne.symm M.dne)]
    exact I1.hok.fresh M.new
/-- raise C(e) -/
def sRaise (cn fld : Str) (ga : WA) : WS := fun ρ h D => ga ρ h (fun xs h1 => match xs with
  | [y] => D.ex ⟨cn, some (fld, y)⟩ ρ h1
  | _ => False) (exOf D ρ)
theorem SS.raise {a : Expr} {ga : WA} {p pos pos2 : Pos} {k : Nat} (hc : X.calm = true) (T : XOwn X.K X.mg cn C fI fld) (hr : Room k X.A) (tk : Takes X W) (ha : SA X W [a] ga) (hg : Gl X cn) (hdb : (cn == ("__debug__" : Str)) = false := by decide)
    (he : starEach (a :: []) X.env = (false, eval a X.env) :: starEach [] X.env := by rfl) (hpl : (backTo pos (starEach [] X.env)).any (·.1) = false := by rfl) :
    SS X W (.Raise (some (.Call (.Name cn p) [a] [] pos)) none pos2) (sRaise cn fld ga) := by
  obtain ⟨ta, pa, sa⟩ := ha
  refine ⟨_, ps_raise hc tk (pmk_x T hr pa hg hdb he hpl), fun σ H as ρ h D D' eR hR hq k => ?_⟩
  refine sa σ H as ρ h _ _ _ eR hR hq (fun xs h1 vs as1 H1 hq1 l1 r1 rv => ?_) (k.x eR)
  split at hq1
  · obtain ⟨v, rfl, r⟩ := relAll1 rv
    refine ⟨v, rfl, fun d hd => ?_⟩
    have l2 : Later as1 H1 as1 (upd H1 d (.xd [(fld, v)])) := Later.new _ hd
    have hda : d ∉ as1 := fun hm => by
      obtain ⟨u, e⟩ := r1.there hm
      rw [hd] at e
      cases e
    exact k.ex _ _ _ _ _ _ _ _ hq1 (l1.trans l2) (r1.new _ hd) (eR.later (l1.trans l2)) ⟨C, T.gC, rfl, d, v, rfl, hda, upd_same, r.later l2⟩
  · exact hq1.elim
end
/-! ### def __init__(self, fld): self.fld = fld -/
namespace XI
def iA (fld : Str) (p1 p2 : Pos) : Arguments := { posonlyargs := [], args := [{ arg := "self", annotation := none, pos := p1 }, { arg := fld, annotation := none, pos := p2 }], vararg := none, kwonlyargs := [], kw_defaults := [], kwarg := none, defaults := [] }
def iB (fld : Str) (q1 q2 q3 q4 : Pos) : List Stmt := [.Assign [.Attribute (.Name "self" q1) fld q2] (.Name fld q3) q4]
def iS (fld : Str) : Scope := { kind := .function, names := [(PySem.Str.ofString "self", .local), (fld, .local)], isGenerator := false, isCoroutine := false, more := [] }
end XI
def XInit (K : Frag) (fI : Addr) (fld qn : Str) : Prop := ∃ (oc : Value) (od : Option Addr) (doc pm : Value) (an : Option Addr) (cdv ct : Value) (osl : Array (Option Value)) (p1 p2 q1 q2 q3 q4 : Pos),
  K.lookup fI = some ⟨oc, od, .func (PySem.W.fnOf "__init__" qn (XI.iA fld p1 p2) (XI.iB fld q1 q2 q3 q4) (XI.iS fld) .none .none doc pm an cdv ct), osl⟩ ∧ PySem.W.codeIn K cdv qn = true
def XBind (fld : Str) : Prop := ∀ (qn : Str) (p1 p2 q1 q2 q3 q4 : Pos) (doc pm : Value) (an : Option Addr) (cdv ct a b : Value),
  bindArgs (PySem.W.fnOf "__init__" qn (XI.iA fld p1 p2) (XI.iB fld q1 q2 q3 q4) (XI.iS fld) .none .none doc pm an cdv ct) ⟨[a, b], []⟩ = pure ([(("self" : Str), a), (fld, b)] : List (Str × Value))
theorem xbind_at : XBind "at" := fun _ _ _ _ _ _ _ _ _ _ _ _ _ _ => by first | rfl | with_unfolding_all rfl
theorem xbind_word : XBind "word" := fun _ _ _ _ _ _ _ _ _ _ _ _ _ _ => by first | rfl | with_unfolding_all rfl
theorem xbind_name : XBind "name" := fun _ _ _ _ _ _ _ _ _ _ _ _ _ _ => by first | rfl | with_unfolding_all rfl
theorem read_local {M : Model} {s : Shared} {name : Str} {scope : Scope} {L a : Addr} {cd : Value} {m : Str → Option Value} {x : Str} {pos : Pos} {v : Value} {Q : Value → Shared → Prop} {A : Around} {E : Value → Shared → Prop} (hn : s.heap.Ns L m) (hv : m x = some v) (h : Q v s)
    (hk : scope.kind = .function) (hl : (envOfC name scope L a cd).kindOf x = some .local) (hd : (x == ("__debug__" : Str)) = false) : wpAny M A (eval (.Name x pos) (envOfC name scope L a cd)) Q E s :=
  wpAny_Name (wpAny_loadName_local hk hl hn hv h) hd
theorem x_init {K : Frag} {mg : Str → Option Value} {cn : Str} {C fI : Addr} {fld qn : Str} (T : XCls K mg cn C) (sa : PySem.W.findIn K (.ref C) "__setattr__" = some (some (.builtin "object.__setattr__"))) (noN : PySem.W.findIn K (.ref C) fld = some none)
    (fn : XInit K fI fld qn) (hbA : XBind fld) (hne : fld ≠ "self") (hdbg : (fld == ("__debug__" : Str)) = false)
    {prog : Program} {w : World} {A : Around} {R : Result → Shared → Prop} {s : Shared} {x t0 : Addr} {v : Value} (inK : K.In s.heap) (hlim : s.heap.NoLimit) (hx : s.heap.get? x = some (HandSPX.excO C t0)) (hroom : A.depth < recursionLimit)
    (hq : ∀ h' tk dx, InitBehind fld s.heap h' x C dx t0 v → R (.ok (.ret .none)) { s with heap := h', toks := tk }) : codeAny (model prog w) A (.call (.ref fI) ⟨[.ref x, v], []⟩) R s := by
  obtain ⟨oc, od, doc, pm, an, cdv, ct, osl, p1, p2, q1, q2, q3, q4, ho, hcd⟩ := fn
  obtain ⟨nm, q, N, bs, bm, sn, sub, ab, col, dd, k0, k1, k2, k3, k5, hC, hbm⟩ := T.cls
  have hcl : PySem.W.clsIn K C = some { name := nm, bases := bs, mro := .ref C :: bm, ns := N, qualname := q, hasDict := true, slotNames := sn, subclasses := sub, abstract := ab, collection := col, hasDel := false } := by unfold PySem.W.clsIn; rw [hC] <;> rfl
  have hns' : (("self" : Str) == fld) = false := by simpa using fun e => hne e.symm
  have hns2 : (fld == ("self" : Str)) = false := by simpa using hne
  have kS : (envOfC qn (XI.iS fld) s.heap.objs.size fI cdv).kindOf ("self" : Str) = some .local := rfl
  have kF : (envOfC qn (XI.iS fld) s.heap.objs.size fI cdv).kindOf fld = some .local := by
    show List.lookup fld [(PySem.Str.ofString "self", NameKind.local), (fld, NameKind.local)] = some .local
    have e2 : (fld == PySem.Str.ofString "self") = false := hns2
    simp [List.lookup, e2]
  refine Att.call_fn (binds := [("self", .ref x), (fld, v)]) inK hlim ho hcd hroom (BindsTo.of_eq ?b1) ?b2 (fun s₁ IC => ?_) rfl rfl rfl
  case b1 => exact hbA qn p1 p2 q1 q2 q3 q4 doc pm an cdv ct (.ref x) v
  case b2 =>
    have e1 : List.lookup (PySem.Str.ofString "self") (XI.iS fld).names = some .local := rfl
    have e2 : List.lookup fld (XI.iS fld).names = some .local := kF
    simp [e1, e2]
  obtain ⟨h₁, tk₁, rfl⟩ := IC.toInCall.same
  have kp : ∀ b o, s.heap.get? b = some o → h₁.get? b = some o := IC.toInCall.keep
  have hn := IC.toInCall.ns
  have inK1 : K.In h₁ := inK.keeps kp
  show wpAny _ _ (execs _ _) _ _ _
  refine wpAny_execs_cons (plainObj_wpAny_Assign_Attribute ?_)
  refine read_local (v := v) hn ?v1 (read_local (v := .ref x) hn ?v2 ?_ rfl kS (by decide)) rfl kF hdbg
  case v1 => simp [bindL, kS, kF]
  case v2 =>
    have e1 : ¬ PySem.Str.ofString "self" = fld := fun e => hne e.symm
    simp [bindL, kS, kF, e1]
  refine PySem.W.set_plain inK1 (ox := HandSPX.excO C t0) (od := none) ⟨kp _ _ hx, rfl, rfl, trivial⟩ sa ?_
  refine refs_osa inK1 (kp _ _ hx) hcl (.cons C hbm) rfl noN (fun h₃ tk₃ dx k₃ dn dne hx₃ hn₃ => ?_)
  show wpAny _ _ (execs _ _) _ _ _
  have z : s.heap.objs.size < h₁.objs.size := hn.lt
  exact wpAny_execs_nil (hq h₃ tk₃ dx ⟨fun b o hb e => k₃ b o hb (kp b o e), hx₃, by show s.heap.objs.size ≤ dx; have : h₁.objs.size ≤ dx := dn; omega, dne, hn₃⟩)

/-- all that is asked of a class with such an __init__ -/
theorem XOwn.mk' {K : Frag} {mg : Str → Option Value} {cn : Str} {C fI : Addr} {fld qn : Str} (T : XCls K mg cn C) (sa : PySem.W.findIn K (.ref C) "__setattr__" = some (some (.builtin "object.__setattr__"))) (noN : PySem.W.findIn K (.ref C) fld = some none)
    (iC : PySem.W.findIn K (.ref C) "__init__" = some (some (.ref fI))) (tC : PySem.W.typeIn K (.ref fI) = some (.type "function")) (fn : XInit K fI fld qn) (hbA : XBind fld) (hne : fld ≠ "self") (hdbg : (fld == ("__debug__" : Str)) = false) : XOwn K mg cn C fI fld :=
  { T with sa := sa, noN := noN, iC := iC, tC := tC, init := x_init T sa noN fn hbA hne hdbg }
end V2
set_option Elab.async false
set_option linter.all false
set_option maxRecDepth 100000
set_option maxHeartbeats 4000000
namespace V2
open PySem PySem.Spec PyProof.Rows L2
open PySem.W (Frag)

/-! ### try: body, except c as n: suite -/
theorem EnvR.none {K : Frag} {as : List Addr} {H : Hp} {ρ : En} {σ : L2.St} (h : EnvR K as H ρ σ) (i : Nat) (o : Option V) : EnvR K as H (ρ.set i none) (σ.set i o) := by
  refine ⟨by rw [List.length_set, List.length_set]; exact h.1, fun j y e => ?_⟩
  by_cases hj : i = j
  · subst hj
    by_cases hl : i < ρ.length
    · rw [List.getElem?_set_self hl] at e; cases e
    · rw [List.getElem?_eq_none (by simpa using hl)] at e; cases e
  · rw [List.getElem?_set_ne hj] at e
    obtain ⟨w, h1, h2⟩ := h.2 j y e
    exact ⟨w, by rw [List.getElem?_set_ne hj]; exact h1, h2⟩
/-- what a suite wants behind: nothing may leave it -/
def sufN (i : Nat) (D : Nx) : Nx := { nx := fun ρ h => D.nx (ρ.set i none) h, rt := D.rt, bk := fun ρ h => D.bk (ρ.set i none) h, ct := fun ρ h => D.ct (ρ.set i none) h, ex := fun _ _ _ => False }
/-- m: of a class's name, whether the clause takes it -/
def sTry (i : Nat) (m : Str → Option Bool) (f : WS) (sf : Ex → WS) : WS := fun ρ h D => f ρ h { D with ex := fun x ρ1 h1 => match m x.cls with
  | some true => i < ρ1.length ∧ sf x (ρ1.set i none) h1 (sufN i D)
  | some false => D.ex x ρ1 h1
  | none => False }
/-- the suite's soundness: slot i holds the exception x, at a -/
def SSuite (X : Cx) (i : Nat) (suite : List Stmt) (sf : Ex → WS) : Prop :=
  ∀ (a : Addr) (oe : Obj) (cls : Value) (d : Option Addr) (pn : List (Addr × Obj)), Zc cls d oe → (∃ vs, oe.data = .fields vs) →
    ∃ t, PSs (X.suite a ((a, oe) :: pn)) suite t ∧ ∀ x σ H as ρ h D D', EnvR X.K as H ρ σ → σ[i]? = some (some (.ref a)) → HeapR X.K as H h → ExR X.K X.mg as H cls d x → sf x ρ h D → STo X WF0 as H D D' → t D' σ H
/-- the canonical reading of a suite -/
def cSu (K : Frag) (mg : Str → Option Value) (i : Nat) (sf : Ex → WS) (X : Cx) (a : Addr) (cls : Value) (d : Option Addr) : TS := fun D' σ H => ∃ x as ρ h D, EnvR K as H ρ σ ∧ σ[i]? = some (some (.ref a)) ∧ HeapR K as H h ∧ ExR K mg as H cls d x ∧ sf x ρ h D ∧ STo X WF0 as H D D'
theorem pss_mono {X : Cx} {b : List Stmt} {t u : TS} (h : PSs X b t) (i : ∀ D σ H, u D σ H → t D σ H) : PSs X b u := ⟨fun pins s σ H D I q => h.run pins s σ H D I (i D σ H q)⟩
section
variable {X : Cx} {W : WX} {x n : Str} {c : Value} {i : Nat} {body suite : List Stmt} {b₀ : Stmt} {np pos pos' : Pos} {f : WS} {sf : Ex → WS} {m : Str → Option Bool}
theorem SS.tryAs (hs : X.stack = X.env :: X.outer) (hf : X.env.frame = some X.env.locals) (hN : X.N.Nodup) (hi : X.N[i]? = some n) (hln : X.env.kindOf n = some .local) (hc : Names X x c) (tk : Takes X W)
    (hm : ∀ nm C b, X.mg nm = some (.ref C) → m nm = some b → PySem.W.exmOne X.K (.ref C) c = some b)
    (hb : ∀ (W' : WX) (pn : List (Addr × Obj)) (xe : Value → Shared → Prop), Takes (X.tr pn xe) W' → PassesOwn (model X.prog X.w) X.A X.env xe → SB (X.tr pn xe) W' body f) (hsu : SSuite X i (b₀ :: suite) sf) :
    SS X W (.Try body [.ExceptHandler (some (.Name x np)) (some n) (b₀ :: suite) pos'] [] [] pos) (sTry i m f sf) := by
  -- the body's reading, for each wish
  let tb : WX → TS := fun W' => fun D' σ H => ∃ as ρ h D, EnvR X.K as H ρ σ ∧ HeapR X.K as H h ∧ f ρ h D ∧ STo X W' as H D D'
  refine ⟨_, ps_try_as (tb := tb) (ts := cSu X.K X.mg i sf X) (Wout := W) hs hf hN hi hln hc tk (fun W' pn xe tk' ho => ?_) (fun a oe cls d pn hz hd => ?_), fun σ H as ρ h D D' eR hR hq k => ?_⟩
  · obtain ⟨t, pt, st⟩ := hb W' pn xe tk' ho
    exact pss_mono pt fun D' σ H ⟨as, ρ, h, D, h1, h2, h3, h4⟩ => st σ H as ρ h D D' h1 h2 h3 ⟨h4.nx, h4.bk, h4.ct, h4.rt, h4.ex⟩
  · obtain ⟨t, pt, st⟩ := hsu a oe cls d pn hz hd
    exact pss_mono pt fun D' σ H ⟨x, as, ρ, h, D, h1, h2, h3, h4, h5, h6⟩ => st x σ H as ρ h D D' h1 h2 h3 h4 h5 h6
  · refine ⟨as, ρ, h, _, eR, hR, hq, ⟨k.nx, k.bk, k.ct, k.rt, ?_⟩⟩
    intro x ρ1 h1 cls dd σ1 as1 H1 q l1 r1 eR1 xr
    obtain ⟨C, g1, rfl, g3⟩ := id xr
    have q : (match m x.cls with
      | some true => i < ρ1.length ∧ sf x (ρ1.set i none) h1 (sufN i D)
      | some false => D.ex x ρ1 h1
      | none => False) := q
    split at q
    · rename_i em
      refine ⟨true, hm _ _ _ g1 em, fun _ a ha => ?_, fun z => Bool.noConfusion z⟩
      have hl : i < σ1.length := by rw [← eR1.1]; exact q.1
      refine ⟨x, as1, ρ1.set i none, h1, _, eR1.none i _, by rw [List.getElem?_set_self hl], r1, xr, q.2, ⟨?_, ?_, ?_, ?_, ?_⟩⟩
      · intro ρ2 h2 σ2 as2 H2 q2 l2 r2 eR2
        exact k.nx _ _ _ _ _ q2 (l1.trans l2) r2 (eR2.none i none)
      · intro ρ2 h2 σ2 as2 H2 q2 l2 r2 eR2
        exact k.bk _ _ _ _ _ q2 (l1.trans l2) r2 (eR2.none i none)
      · intro ρ2 h2 σ2 as2 H2 q2 l2 r2 eR2
        exact k.ct _ _ _ _ _ q2 (l1.trans l2) r2 (eR2.none i none)
      · intro y h2 v as2 H2 q2 l2 r2 rv
        exact k.rt _ _ _ _ _ q2 (l1.trans l2) r2 rv
      · intro x2 ρ2 h2 cls2 dd2 σ2 as2 H2 q2
        exact q2.elim
    · rename_i em
      exact ⟨false, hm _ _ _ g1 em, fun z => Bool.noConfusion z, fun _ => k.ex _ _ _ _ _ _ _ _ q l1 r1 eR1 xr⟩
    · exact q.elim
end

/-! ### in a suite: the held exception's field, and what it is one of -/
abbrev XE' := Ex → WE
section
variable (X : Cx) (i : Nat)
/-- slot i holds the exception -/
def Hold (a : Addr) (cls : Value) (d : Option Addr) (x : Ex) (σ : L2.St) (as : List Addr) (H : Hp) : Prop := σ[i]? = some (some (.ref a)) ∧ ExR X.K X.mg as H cls d x
def SXE (e : Expr) (fe : XE') : Prop := ∀ (a : Addr) (oe : Obj) (cls : Value) (d : Option Addr) (pn : List (Addr × Obj)), Zc cls d oe → (∃ vs, oe.data = .fields vs) →
  ∃ t, PE (X.suite a ((a, oe) :: pn)) e t ∧ ∀ x σ H as ρ h Q E QV, EnvR X.K as H ρ σ → HeapR X.K as H h → Hold X i a cls d x σ as H → fe x ρ h Q E → KTo X as H Q QV → t σ H QV
def SXT (e : Expr) (fe : Ex → WT) : Prop := ∀ (a : Addr) (oe : Obj) (cls : Value) (d : Option Addr) (pn : List (Addr × Obj)), Zc cls d oe → (∃ vs, oe.data = .fields vs) →
  ∃ t, PT (X.suite a ((a, oe) :: pn)) e t ∧ ∀ x σ H as ρ h Q E QV, EnvR X.K as H ρ σ → HeapR X.K as H h → Hold X i a cls d x σ as H → fe x ρ h Q E → TTo X as H Q QV → t σ H QV
def SXW (e : Expr) (fe : Ex → WT) : Prop := ∀ (a : Addr) (oe : Obj) (cls : Value) (d : Option Addr) (pn : List (Addr × Obj)), Zc cls d oe → (∃ vs, oe.data = .fields vs) →
  ∃ t, PW (X.suite a ((a, oe) :: pn)) e t ∧ ∀ x σ H as ρ h Q E QV, EnvR X.K as H ρ σ → HeapR X.K as H h → Hold X i a cls d x σ as H → fe x ρ h Q E → TTo X as H Q QV → t σ H QV
def SXA (e : List Expr) (fe : Ex → WA) : Prop := ∀ (a : Addr) (oe : Obj) (cls : Value) (d : Option Addr) (pn : List (Addr × Obj)), Zc cls d oe → (∃ vs, oe.data = .fields vs) →
  ∃ t, PA (X.suite a ((a, oe) :: pn)) e t ∧ ∀ x σ H as ρ h Q E QV, EnvR X.K as H ρ σ → HeapR X.K as H h → Hold X i a cls d x σ as H → fe x ρ h Q E → ATo X as H Q QV → t σ H QV
end
section
variable {X : Cx} {i : Nat} {a' : Expr} {n : Str} {pos p : Pos} {e b : Expr} {es rest : List Expr} {fe fb : XE'} {ga : Ex → WA} {ft gt : Ex → WT}
theorem Hold.later {a : Addr} {cls : Value} {d : Option Addr} {x : Ex} {σ : L2.St} {as as1 : List Addr} {H H1 : Hp} (l : Later as H as1 H1) (h : Hold X i a cls d x σ as H) : Hold X i a cls d x σ as1 H1 := ⟨h.1, h.2.later l⟩
/-- an expression without it -/
theorem SXE.lift {f : WE} (h : ∀ (a : Addr) (oe : Obj) (pn : List (Addr × Obj)), SE (X.suite a ((a, oe) :: pn)) WF0 e f) : SXE X i e (fun _ => fun ρ h Q E => f ρ h Q noX) := by
  intro a oe cls d pn hz hd
  obtain ⟨t, pt, st⟩ := h a oe pn
  exact ⟨t, pt, fun x σ H as ρ h Q E QV eR hR _ hq k => st σ H as ρ h Q noX QV eR hR hq k fun _ _ _ _ _ _ z => z.elim⟩
theorem suite_ret (he : SXE X i e fe) : SSuite X i [.Return (some e) pos] (fun x => sRet (fe x)) := by
  intro a oe cls d pn hz hd
  obtain ⟨t, pt, st⟩ := he a oe cls d pn hz hd
  refine ⟨_, pss_one (ps_ret pt), fun x σ H as ρ h D D' eR hs hR xr hq k => ?_⟩
  exact st x σ H as ρ h D.rt (exOf D ρ) D'.rt eR hR ⟨hs, xr⟩ hq fun y h' v as1 H' q l r rr => k.rt _ _ _ _ _ q l r rr
theorem suite_plain {st : List Stmt} {f : WS} (h : ∀ (a : Addr) (oe : Obj) (pn : List (Addr × Obj)), SB (X.suite a ((a, oe) :: pn)) WF0 st f) : SSuite X i st (fun _ => f) := by
  intro a oe cls d pn hz hd
  obtain ⟨t, pt, st⟩ := h a oe pn
  exact ⟨t, pt, fun x σ H as ρ h D D' eR hs hR xr hq k => st σ H as ρ h D D' eR hR hq ⟨k.nx, k.bk, k.ct, k.rt, k.ex⟩⟩
/-- e.f, e of the class cn -/
def xFld (cn f : Str) : XE' := fun x _ h Q _ => x.cls = cn ∧ ∃ y, x.fld = some (f, y) ∧ Q y h
theorem SXE.fld {C : Addr} {cn : Str} (T : XfC X.K C) (gC : X.mg cn = some (.ref C)) (f : Str) (hno : PySem.W.findIn X.K (.ref C) f = some none) (hN : X.N[i]? = some n) (hv : Vis X.env.scope n) (hd : (n == ("__debug__" : Str)) = false := by decide) (hcd : (n == ("__classdict__" : Str)) = false := by decide)
    (hb : attributeBase (.Name n p) f X.env (eval (.Name n p) X.env) = eval (.Name n p) X.env := by rfl) : SXE X i (.Attribute (.Name n p) f pos) (xFld cn f) := by
  intro a oe cls d pn hz hf
  refine ⟨_, pe_xf T hno hz hf (pe_var (i := i) hN hv hd hcd) hb, fun x σ H as ρ h Q E QV eR hR ho hq k => ?_⟩
  obtain ⟨ec, y, ef, q⟩ := hq
  obtain ⟨C', g1, g2, g3⟩ := ho.2
  rw [ec, gC] at g1
  cases g1
  rw [ef] at g3
  obtain ⟨dd, v, e1, e2, e3, e4⟩ := g3
  refine ⟨.ref a, ho.1, rfl, g2, dd, _, v, e1, e3, by simp [List.lookup], k.q hR q e4⟩
/-- isinstance(e, c), e of the class cn: b -/
structure XIs (K : Frag) (C : Addr) : Prop where
  ga : PySem.W.findIn K (.ref C) "__getattribute__" = some (some (.builtin "BaseException.__getattribute__"))
  gg : PySem.W.findIn K (.ref C) "__getattr__" = some none
  exC : PySem.W.subIn K (.ref C) (.type "BaseException") = some true
  hdC : PySem.W.hasDictIn K C = true
  ha : PySem.W.findIn K (.ref C) "__class__" = some (some (.builtin "object.__class__"))
  hn : PySem.W.specialIn K (.builtin "object.__class__") "__get__" = some (some (.builtin "getset_descriptor.__get__"))
  ht : PySem.W.takesIn K (.builtin "object.__class__") = some true
  hm : PySem.W.mroIn K C (.type "object") = some true
def xIsi (cn : Str) (b : Bool) : XE' := fun x _ h Q _ => x.cls = cn ∧ (x.fld.isSome = true) ∧ Q (.d (.bool b)) h
theorem SXE.isi {C : Addr} {cn c : Str} {cv : Value} {vc : V} {b : Bool} {p1 p2 p3 : Pos} (T : XIs X.K C) (gC : X.mg cn = some (.ref C)) (hg : Gl X "isinstance") (hm : X.mg "isinstance" = none) (hgc : Gl X c) (hmc : X.mg c = some cv) (rc : RelV vc cv) (uc : ∀ u, RelV vc u → u = cv) (ek : PySem.W.kitOne X.K (.ref C) cv = some b)
    (hN : X.N[i]? = some n) (hv : Vis X.env.scope n) (hd : (n == ("__debug__" : Str)) = false := by decide) (hcd : (n == ("__classdict__" : Str)) = false := by decide) (hdc : (c == ("__debug__" : Str)) = false := by decide)
    (he : starEach [.Name n p2, .Name c p3] X.env = (false, eval (.Name n p2) X.env) :: starEach [.Name c p3] X.env := by rfl) (he2 : starEach [.Name c p3] X.env = (false, eval (.Name c p3) X.env) :: starEach [] X.env := by rfl)
    (hpl : (backTo pos (starEach [.Name c p3] X.env)).any (·.1) = false := by rfl) : SXE X i (.Call (.Name "isinstance" p1) [.Name n p2, .Name c p3] [] pos) (xIsi cn b) := by
  intro a oe cls d pn hz hf
  have isi : CallR (X.suite a ((a, oe) :: pn)) (.builtin "isinstance") (fun xs H Q => xs = [.ref a, vc] ∧ cls = .ref C ∧ (∃ dd fs, d = some dd ∧ H dd = some (.xd fs)) ∧ Q (.bl b) H) := by
    intro pins s σ H xs us Q I r h
    obtain ⟨rfl, rfl, ⟨dd, fs, rfl, hx⟩, q⟩ := h
    obtain ⟨u1, u2, rfl, r1, r2⟩ := vals2 r
    cases r1
    have e2 := uc _ r2
    subst e2
    obtain ⟨hget, _⟩ := I.pin (a, oe) (List.mem_append_left _ List.mem_cons_self)
    obtain ⟨vs, hvs⟩ := hf
    have ox : ObjOk X.prog X.w H s.heap dd (.xd fs) := I.hok dd _ hx
    obtain ⟨mA, hns, _⟩ := ox
    obtain ⟨od, ho, _⟩ := lookIn_ns hns
    have J : PySem.W.InstAt s.heap a oe C (some od) := ⟨hget, hz.1, by unfold PySem.W.notCls; rw [hvs] <;> rfl, by rw [hz.2]; exact ho⟩
    exact PySem.W.kia_one (PySem.W.kitx_exc (by obtain ⟨cd, hc, _⟩ := PySem.W.any_some T.hdC; rw [hc]; rfl) T.ga T.gg T.exC T.ha T.hn T.ht T.hm) I.kIn J ek (fun z => nomatch z) fun tk => ⟨.bl b, H, I.kept (t' := tk) fun _ _ z => z, rfl, q⟩
  refine ⟨_, pe_callB isi hg hm (by decide +kernel) (pa_cons (pe_var (i := i) hN hv hd hcd) (pa_cons (pe_glob hgc hmc rc hdc) pa_nil he2) he) (hpl := hpl) (he := he), fun x σ H as ρ h Q E QV eR hR ho hq k => ?_⟩
  obtain ⟨ec, ef, q⟩ := hq
  obtain ⟨C', g1, g2, g3⟩ := ho.2
  rw [ec, gC] at g1
  cases g1
  obtain ⟨f, y⟩ := x.fld.get ef
  cases efx : x.fld with
  | none => rw [efx] at ef; cases ef
  | some fy =>
    obtain ⟨f, y⟩ := fy
    rw [efx] at g3
    obtain ⟨dd, v, e1, e2, e3, e4⟩ := g3
    exact ⟨.ref a, ho.1, rfl, g2, ⟨dd, _, e1, e3⟩, k.qd hR q (.bl b)⟩
theorem SXA.nil : SXA X i [] (fun _ => aNil) := fun a oe cls d pn hz hd => ⟨_, pa_nil, fun x σ H as ρ h Q E QV eR hR _ hq k => k _ _ _ _ _ hq (Later.refl _ _) hR .nil⟩
theorem SXA.cons (he : SXE X i e fe) (ha : SXA X i es ga) (hs : starEach (e :: es) X.env = (false, eval e X.env) :: starEach es X.env := by rfl) : SXA X i (e :: es) (fun x => aCons (fe x) (ga x)) := by
  intro a oe cls d pn hz hd
  obtain ⟨_, pe, se⟩ := he a oe cls d pn hz hd
  obtain ⟨_, pa, sa⟩ := ha a oe cls d pn hz hd
  refine ⟨_, pa_cons pe pa hs, fun x σ H as ρ h Q E QV eR hR ho hq k => ?_⟩
  refine se x σ H as ρ h _ E _ eR hR ho hq (fun y h1 v as1 H1 hq1 l1 r1 rv => ?_)
  refine sa x σ H1 as1 ρ h1 _ E _ (eR.later l1) r1 (ho.later l1) hq1 (fun xs h2 vs as2 H2 hq2 l2 r2 rvs => ?_)
  exact k _ _ _ _ _ hq2 (l1.trans l2) r2 (.cons (rv.later l2) rvs)
theorem SXE.tup {x1} (ha : SXA X i es ga) : SXE X i (.Tuple es x1 pos) (fun x => fTup (ga x)) := by
  intro a oe cls d pn hz hd
  obtain ⟨_, pa, sa⟩ := ha a oe cls d pn hz hd
  refine ⟨_, pe_tup pa, fun x σ H as ρ h Q E QV eR hR ho hq k => ?_⟩
  refine sa x σ H as ρ h _ E _ eR hR ho hq (fun xs h1 vs as1 H1 hq1 l1 r1 rv => ?_)
  split at hq1
  · rename_i ps ep
    have dv := rv.ofAllD ep
    exact ⟨by rw [dv.length]; exact hq1.1, fun p hp => (k.later l1).newTup r1 hq1.2 dv hp⟩
  · exact hq1.elim
theorem SXE.lst (ha : SXA X i es ga) : SXE X i (.List es pos) (fun x => fLst (ga x)) := by
  intro a oe cls d pn hz hd
  obtain ⟨_, pa, sa⟩ := ha a oe cls d pn hz hd
  refine ⟨_, pe_lst pa, fun x σ H as ρ h Q E QV eR hR ho hq k => ?_⟩
  refine sa x σ H as ρ h _ E _ eR hR ho hq (fun xs h1 vs as1 H1 hq1 l1 r1 rv => ?_)
  split at hq1
  · rename_i ps ep
    have dv := rv.ofAllD ep
    exact ⟨by rw [dv.length]; exact hq1.1, fun p hp => (k.later l1).newLst r1 hq1.2 dv hp⟩
  · exact hq1.elim
theorem SXT.val (he : SXE X i e fe) (hp : ∀ whole, isTrue e X.env whole = (do let v ← whole; standAt e.pos; holding [v] (truthy v)) := by intro _; rfl) : SXT X i e (fun x => tVal (fe x)) := by
  intro a oe cls d pn hz hd
  obtain ⟨_, pe, se⟩ := he a oe cls d pn hz hd
  refine ⟨_, pt_val pe hp, fun x σ H as ρ h Q E QV eR hR ho hq k => ?_⟩
  refine se x σ H as ρ h _ E _ eR hR ho hq (fun y h1 v as1 H1 hq1 l1 r1 rv => ?_)
  split at hq1
  · rw [rel_bl rv]
    exact ⟨_, rfl, k _ _ _ _ hq1 l1 r1⟩
  · exact hq1.elim
theorem SXT.not (he : SXT X i e ft) : SXT X i (.UnaryOp .Not e pos) (fun x => tNot2 (ft x)) := by
  intro a oe cls d pn hz hd
  obtain ⟨_, pe, se⟩ := he a oe cls d pn hz hd
  refine ⟨_, pt_not pe, fun x σ H as ρ h Q E QV eR hR ho hq k => ?_⟩
  exact se x σ H as ρ h _ E _ eR hR ho hq (fun y h1 as1 H1 hq1 l1 r1 => k _ _ _ _ hq1 l1 r1)
theorem SXW.and1 (he : SXT X i e ft) : SXW X i (.BoolOp .And [e] pos) ft := by
  intro a oe cls d pn hz hd
  obtain ⟨_, pe, se⟩ := he a oe cls d pn hz hd
  exact ⟨_, pw_and1 pe, se⟩
theorem SXW.and (he : SXT X i e ft) (hb : SXW X i (.BoolOp .And (b :: rest) pos) gt) : SXW X i (.BoolOp .And (e :: b :: rest) pos) (fun x => tAnd2 (ft x) (gt x)) := by
  intro a oe cls d pn hz hd
  obtain ⟨_, pe, se⟩ := he a oe cls d pn hz hd
  obtain ⟨_, pb, sb⟩ := hb a oe cls d pn hz hd
  refine ⟨_, pw_and pe pb, fun x σ H as ρ h Q E QV eR hR ho hq k => ?_⟩
  refine se x σ H as ρ h _ E _ eR hR ho hq (fun c h1 as1 H1 hq1 l1 r1 => ?_)
  cases c with
  | true => exact iteT (sb x σ H1 as1 ρ h1 Q E QV (eR.later l1) r1 (ho.later l1) hq1 (k.later l1))
  | false => exact iteF (k _ _ _ _ hq1 l1 r1)
theorem SXW.pt (h : SXW X i e ft) : SXT X i e ft := fun a oe cls d pn hz hd => let ⟨_, p, s⟩ := h a oe cls d pn hz hd; ⟨_, p.pt, s⟩
theorem SXE.ifE {c : Expr} (hc : SXT X i c ft) (he : SXE X i e fe) (hb : SXE X i b fb) : SXE X i (.IfExp c e b pos) (fun x => fIf (ft x) (fe x) (fb x)) := by
  intro a oe cls d pn hz hd
  obtain ⟨_, pc, sc⟩ := hc a oe cls d pn hz hd
  obtain ⟨_, pe, se⟩ := he a oe cls d pn hz hd
  obtain ⟨_, pb, sb⟩ := hb a oe cls d pn hz hd
  refine ⟨_, pe_ifExp pc pe pb, fun x σ H as ρ h Q E QV eR hR ho hq k => ?_⟩
  refine sc x σ H as ρ h _ E _ eR hR ho hq (fun c h1 as1 H1 hq1 l1 r1 => ?_)
  cases c with
  | true => exact iteT (se x σ H1 as1 ρ h1 Q E QV (eR.later l1) r1 (ho.later l1) hq1 (k.later l1))
  | false => exact iteF (sb x σ H1 as1 ρ h1 Q E QV (eR.later l1) r1 (ho.later l1) hq1 (k.later l1))
theorem SXE.bin {op : CmpOp} {rV : Cx → R2} {r : WR2} (ho' : ∀ X', OpR X' (compareOp op) (rV X')) (c : Cp2 X (rV X) r) (hK : ∀ X' : Cx, X'.K = X.K → rV X' = rV X) (he : SXE X i e fe) (hb : SXE X i b fb) (hm : behindInMarks op b = false) : SXE X i (.Compare e [op] [b] pos) (fun x => fBin r (fe x) (fb x)) := by
  intro a oe cls d pn hz hd
  obtain ⟨_, pe, se⟩ := he a oe cls d pn hz hd
  obtain ⟨_, pb, sb⟩ := hb a oe cls d pn hz hd
  refine ⟨_, pe_cmpR (ho' _) pe pb hm, fun x σ H as ρ h Q E QV eR hR ho hq k => ?_⟩
  rw [hK (X.suite a ((a, oe) :: pn)) rfl]
  refine se x σ H as ρ h _ E _ eR hR ho hq (fun y h1 v as1 H1 hq1 l1 r1 rv => ?_)
  refine sb x σ H1 as1 ρ h1 _ E _ (eR.later l1) r1 (ho.later l1) hq1 (fun z h2 w as2 H2 hq2 l2 r2 rw' => ?_)
  exact c y z h2 Q v w as2 H2 QV (rv.later l2) rw' r2 hq2 (k.later (l1.trans l2))
end
end V2
set_option Elab.async false
set_option linter.all false
set_option maxRecDepth 100000
set_option maxHeartbeats 4000000
namespace V2
open PySem PySem.Spec PyProof.Rows L2
open PySem.W (Frag)
/-- the script as data -/
def scriptD (ns : List Int) : D := .d (.list (ns.map PyData.int))
/-- the law over data: it says True, nothing is raised -/
def Says (F : WF) (ns : List Int) : Prop := F [scriptD ns] [] (fun y _ => y = .d (.bool true)) noX
theorem law_endG {P : Program} {w : World} {K : Frag} {mg mb : Str → Option Value} {k : Nat} {fa a : Addr} {fd : FuncData} {x : Str} {F : WF} {s₁ : Shared} {vs : List Value} {ns : List Int}
    (inK : K.In s₁.heap) (gns : s₁.heap.Ns mainGlobals mg) (gb : s₁.heap.Ns builtinsNs mb) (gbb : ∀ x : Str, x ≠ "__name__" → mb x = bootBuiltins x) (nol : s₁.heap.NoLimit) (gen : s₁.gens = #[])
    (oa : s₁.heap.get? a = some { cls := .type "list", data := .seq vs.toArray }) (hints : IntsAre vs ns) (hl : ns.length ≤ sizeLine) (hr : Room k callerA)
    (G : ∀ base : Heap, K.In base → base.Ns mainGlobals mg → FnG P w K mg base k fa fd [x] F) (bind1 : ∀ (s : Shared) (u : Value), BindsTo s fd ⟨[u], []⟩ [(x, u)]) (says : Says F ns) :
    codeAny (model P w) callerA (.call (.ref fa) ⟨[.ref a], []⟩) (fun r s' => r = .ok (.ret (.bool true)) ∧ OldK s₁.heap s'.heap ∧ s'.os = s₁.os ∧ AllBare s'.gens) s₁ := by
  have rv := vals_ints hints
  have main : ∀ H : Hp, Only H → LstR K [] H a (ns.map V.int) → HOk P w H s₁.heap → (∀ b, H b ≠ none → b = a) → (H a ≠ none → K.lookup a = none) →
      codeAny (model P w) callerA (.call (.ref fa) ⟨[.ref a], []⟩) (fun r s' => r = .ok (.ret (.bool true)) ∧ OldK s₁.heap s'.heap ∧ s'.os = s₁.os ∧ AllBare s'.gens) s₁ := by
    intro H only lst ok onlyA notK
    have noDict : ∀ {b : Addr} {o : Obj} {es : Array DictEntry} {ep : Nat}, s₁.heap.get? b = some o → o.data = .dict es ep → H b = none := by
      intro b o es ep e d
      refine Classical.byContradiction fun z => ?_
      rw [onlyA b z, oa] at e
      cases e
      cases d
    have nsH : ∀ {b : Addr} {m : Str → Option Value}, s₁.heap.Ns b m → (hidT s₁.heap H).Ns b m := by
      rintro b m ⟨o, es, ep, e, d, r⟩
      exact ⟨o, es, ep, hidT_get e (noDict e d), d, r⟩
    have baseK : K.In (hidT s₁.heap H) := by
      intro b o e
      refine hidT_get (inK b o e) (Classical.byContradiction fun z => ?_)
      have eb := onlyA b z
      subst eb
      rw [notK z] at e
      cases e
    obtain ⟨mc, nol1, nol2⟩ := id nol
    have md : Mod K mg (hidT s₁.heap H) := ⟨baseK, nsH gns, ⟨mb, nsH gb, gbb⟩, ⟨mc, nsH nol1, nol2⟩⟩
    have e0 : Env0 P w K mg (hidT s₁.heap H) callerA [] s₁ H := ⟨rfl, md, fun b o e => of_hidT e, Nat.le_of_eq (hidT_size _ _), trivial, fun b hb => absurd (show b ∈ ([] : List Addr) from hb) (by simp), ok, .of_eq gen⟩
    have sp : spD K mg 1 F [.ref a] H (fun v _ => v = .bl true) (fun _ _ _ => False) := by
      refine ⟨[], [scriptD ns], [], _, _, rfl, .cons (.d (.lst lst (DvAll.ints ns))) .nil, ⟨rfl, List.nodup_nil, fun i o b e => by simp at e⟩, says, fun y h' v as1 H1 q l r rr => ?_, fun x h' cls dd as1 H1 q => q.elim⟩
      subst q
      exact rel_bl rr
    refine codeAny_mono ((G _ baseK (nsH gns)).run callerA [] s₁ H ⟨[.ref a], []⟩ [.ref a] [.ref a] _ _ hr rfl e0 (bind1 s₁ (.ref a)) (.cons rfl .nil) sp) fun r s' h => ?_
    cases r with
    | error e =>
      obtain ⟨_, _, _, _, _, _, _, _, _, _, _, _, z⟩ := h
      exact z.elim
    | ok fl =>
      cases fl with
      | next => exact h.elim
      | brk => exact h.elim
      | cont => exact h.elim
      | ret u =>
        obtain ⟨v, H', os, bare, un, ok', r', q⟩ := h
        have q' : v = .bl true := q
        subst q'
        obtain rfl : u = Value.bool true := r'
        refine ⟨rfl, OldK.of_keep fun b o e => ?_, os, bare⟩
        rcases only b with z | ⟨ob, xs, z⟩
        · exact un.keep b o e z (by intro y; exact absurd (show b ∈ ([] : List Addr) from y) (by simp)) (by simp)
        · have z2 := un.frzs b ob _ z
          obtain ⟨e1, _⟩ := ok b _ z
          obtain ⟨e2, _⟩ := ok' b _ z2
          rw [e] at e1
          cases e1
          exact e2
  cases hk : K.lookup a with
  | some o =>
    have e := inK a o hk
    rw [oa] at e
    cases e
    refine main (fun _ => none) (fun _ => .inl rfl) (.inr ⟨_, vs.toArray, _, hk, rfl, rfl, rfl, by rw [List.size_toArray, hints.length]; exact hl, by simpa using rv⟩) (fun b u z => nomatch z) (fun b z => absurd rfl z) (fun z => absurd rfl z)
  | none =>
    have self : (fun b => if b = a then some (HO.frz { cls := .type "list", data := .seq vs.toArray } (.lst (ns.map V.int))) else none : Hp) a = some (.frz { cls := .type "list", data := .seq vs.toArray } (.lst (ns.map V.int))) := if_pos rfl
    refine main (fun b => if b = a then some (.frz { cls := .type "list", data := .seq vs.toArray } (.lst (ns.map V.int))) else none) (fun b => ?_) (.inl ⟨.inr ⟨_, self⟩, by simp⟩) (fun b u z => ?_) (fun b z => ?_) (fun _ => hk)
    · by_cases hb : b = a
      · subst hb; exact .inr ⟨_, _, self⟩
      · exact .inl (if_neg hb)
    · by_cases hb : b = a
      · subst hb
        rw [self] at z
        cases z
        exact ⟨oa, by rw [List.length_map]; exact hl, vs, _, rv, oa⟩
      · have z' : (none : Option HO) = some u := (if_neg hb).symm.trans z
        cases z'
    · exact Classical.byContradiction fun hb => z (if_neg hb)
/-- the goal that k_head leaves, from the law's reading over data -/
theorem walkG {l : PySem.W.OpenLaw} {n k : Nat} {q : Program} {loose : List Str} {XP : (Str → Option Value) → Heap → Prop} {YP : World → Heap → Prop} {d : DefRec} {K : Params → Frag} {F : WF} {x : Str}
    (hn : l.most = some n) (hn2 : n ≤ sizeLine) (hdf : d.params.defaults = []) (hr : Room k callerA) (hY : ∀ (w : World) (h : Heap), YP w h → (K w.params).In h)
    (all : ∀ (w : World) (mg : Str → Option Value) (fa : Addr) (h : Heap), (K w.params).In h → h.Ns mainGlobals mg → mg d.name = some (.ref fa) →
      ∃ fd : FuncData, (∀ (s : Shared) (u : Value), BindsTo s fd ⟨[u], []⟩ [(x, u)]) ∧ ∀ base : Heap, (K w.params).In base → base.Ns mainGlobals mg → FnG l.prog w (K w.params) mg base k fa fd [x] F)
    (says : ∀ ns : List Int, ns.length ≤ n → (∀ i ∈ ns, Builtin.Int.intBits i ≤ 1048576) → Says F ns) : PySem.W.WalkO q loose XP YP l.row.toRowW d [] (fun f vs => PySem.call f vs) := by
  refine Att.attach_callB hn hdf fun w s₀ s₁ mg mb fa o pm cd doc a vs ns G Y ho hd hcd hmg hobj hints hlen hbits hg => ?_
  have inK := hY w _ Y
  obtain ⟨fd, hb, hF⟩ := all w mg fa _ inK G.T.g hmg
  exact law_endG inK G.T.g G.T.b G.T.builtins G.T.nolimit hg hobj hints (Nat.le_trans hlen hn2) hr hF hb (says ns hlen hbits)
end V2
set_option Elab.async false
set_option linter.all false
set_option maxRecDepth 100000
set_option maxHeartbeats 4000000
namespace V2
open PySem PySem.Spec PyProof.Rows L2
open PySem.W (Frag)
section
variable {X : Cx} {W : WX} {a b c : Expr} {fa fb fc : WE} {pos : Pos} {ga : WA}
theorem relAll3 {K : Frag} {as : List Addr} {H : Hp} {vs : List V} {x y z : D} (r : RelAll K as H vs [x, y, z]) : ∃ u v w, vs = [u, v, w] ∧ Rel K as H u x ∧ Rel K as H v y ∧ Rel K as H w z := by
  cases r with | cons r t => cases t with | cons r2 t => cases t with | cons r3 t => cases t; exact ⟨_, _, _, rfl, r, r2, r3⟩
theorem SS.par3 (i j l : Nat) {x y z : Str} {px py pz pt : Pos} {kt k2 pt2} (hc : X.calm = true) (hN : X.N.Nodup) (hi : X.N[i]? = some x) (hj : X.N[j]? = some y) (hl : X.N[l]? = some z) (hij : i ≠ j) (hil : i ≠ l) (hjl : j ≠ l)
    (hx : X.env.scope.names.lookup x = some .local) (hy : X.env.scope.names.lookup y = some .local) (hz : X.env.scope.names.lookup z = some .local) (ha : SA X W [a, b, c] ga)
    (hw : swappedStores [.Tuple [.Name x px, .Name y py, .Name z pz] kt pt] (.Tuple [a, b, c] k2 pt2) X.env = pure (some [x, y, z]))
    (hs : swapsWithSole [.Tuple [.Name x px, .Name y py, .Name z pz] kt pt] (.Tuple [a, b, c] k2 pt2) pos.line X.env = pure false := by rfl) :
    SS X W (.Assign [.Tuple [.Name x px, .Name y py, .Name z pz] kt pt] (.Tuple [a, b, c] k2 pt2) pos) (sPar3 i j l ga) := by
  obtain ⟨_, p, s⟩ := ha
  refine ⟨_, ps_par3 hc hN hi hj hl hij hil hjl hx hy hz p hw hs, fun σ H as ρ h D D' eR hR hq k => ?_⟩
  refine s σ H as ρ h _ _ _ eR hR hq (fun xs h1 vs as1 H1 hq1 l1 r1 rv => ?_) (k.x eR)
  split at hq1
  · obtain ⟨u, v, w, rfl, r, r', r''⟩ := relAll3 rv
    exact ⟨u, v, w, rfl, k.nx _ _ _ _ _ hq1 l1 r1 ((((eR.later l1).set i r).set j r').set l r'')⟩
  · exact hq1.elim
/-- x += e, ints -/
theorem SS.augAdd {e : Expr} {fe : WE} (i : Nat) {x : Str} {pos' : Pos} (hN : X.N.Nodup) (hi : X.N[i]? = some x) (hx : Loc X.env.scope x) (he : SE X W e fe) (hf : X.fn x = true ∨ X.env.scope.names.lookup x = some .local := by first | exact .inl rfl | exact .inr rfl | assumption) :
    SS X W (.AugAssign (.Name x pos') .Add e pos) (sAug i (rInts (fun _ _ => True) fun i j => .int (i + j)) fe) := .aug i hN hi hx he iop_add (cp_ints0 fun _ _ _ _ _ => .int _) hf
theorem SS.augSub {e : Expr} {fe : WE} (i : Nat) {x : Str} {pos' : Pos} (hN : X.N.Nodup) (hi : X.N[i]? = some x) (hx : Loc X.env.scope x) (he : SE X W e fe) (hf : X.fn x = true ∨ X.env.scope.names.lookup x = some .local := by first | exact .inl rfl | exact .inr rfl | assumption) :
    SS X W (.AugAssign (.Name x pos') .Sub e pos) (sAug i (rInts (fun _ _ => True) fun i j => .int (i - j)) fe) := .aug i hN hi hx he iop_sub (cp_ints0 fun _ _ _ _ _ => .int _) hf
end
/-- a def's facts as they are found in the written part -/
structure DefAt (K : Frag) (mg : Str → Option Value) (x : Str) (st : Stmt) (f : Addr) (fd : FuncData) : Prop where
  F : Fun K x x st f fd
  gl : mg x = some (.ref f)
  kp : PySem.W.keepIn K (.ref f) = true
section
variable {P : Program} {w : World} {K : Frag} {mg : Str → Option Value} {base : Heap}
/-- a call's facts in short -/
theorem SE.fn {X : Cx} {W : WX} {k j : Nat} {f : Addr} {fd : FuncData} {ps : List Str} {F : WF} {x : Str} {st : Stmt} {p pos : Pos} {e : Expr} {es : List Expr} {ga : WA} (D : DefAt X.K X.mg x st f fd) (G : FnG X.prog X.w X.K X.mg X.base j f fd ps F)
    (hlen : ∀ xs ho Q E, F xs ho Q E → xs.length = ps.length) (hr : Room k X.A) (hj : j ≤ k) (hgu : X.A.guards = some []) (tk : Takes X W) (hg : Gl X x) (hb : Binds X.K fd ps []) (ha : SA X W (e :: es) ga) (hdb : (x == ("__debug__" : Str)) = false := by decide)
    (he : starEach (e :: es) X.env = (false, eval e X.env) :: starEach es X.env := by rfl) (hpl : (backTo pos (starEach es X.env)).any (·.1) = false := by rfl) : SE X W (.Call (.Name x p) (e :: es) [] pos) (fFn F ga) :=
  .call G hlen (hr.mono hj) hgu tk hg D.gl D.kp hb ha hdb he hpl
theorem SE.fnK {X : Cx} {W : WX} {k j : Nat} {f : Addr} {fd : FuncData} {ps : List Str} {F : WF} {x : Str} {st : Stmt} {p pos : Pos} {kws : List Keyword} {g : WA} {ks : List Str} {ix : List Nat} (D : DefAt X.K X.mg x st f fd) (G : FnG X.prog X.w X.K X.mg X.base j f fd ps F)
    (hlen : ∀ xs ho Q E, F xs ho Q E → xs.length = ps.length) (hr : Room k X.A) (hj : j ≤ k) (hgu : X.A.guards = some []) (tk : Takes X W) (hg : Gl X x) (hb : KwB X.K fd ps ks ix) (ha : SKw X W kws g)
    (hall : (backToKw pos (keywordEach kws X.env)).all (·.1.isSome) = true := by rfl) (hks : (backToKw pos (keywordEach kws X.env)).filterMap (·.1) = ks := by rfl) (hdb : (x == ("__debug__" : Str)) = false := by decide)
    (hpl : ((backTo pos (starEach [] X.env)).any (·.1) || (backToKw pos (keywordEach kws X.env)).any (·.1.isNone)) = false := by rfl) : SE X W (.Call (.Name x p) [] kws pos) (fFnK ix ks.length F g) :=
  .callK G hlen (hr.mono hj) hgu tk hg D.gl D.kp hb ha hall hks hdb hpl
end
end V2
namespace V2
open PySem PySem.Spec PyProof.Rows L2
open PySem.W (Frag)
section
variable {P : Program} {w : World} {K : Frag} {mg : Str → Option Value} {base : Heap} {N : List Str} {qual : Str} {sc : Scope} {f : Addr} {cdv : Value} {A : Around} {outer : List Env} {s : Shared} {H : Hp} {E : XK}
/-- in a def's body: what it lets out is taken; nothing stands in a loop's way -/
theorem tkD : Takes (cxOf (L2.CX P w) P w K mg base N qual sc f cdv A outer s H E) (fun cls d _ H' => E cls d H') := takes_of rfl rfl rfl rfl
theorem poD : PassesOwn (model P w) (cxOf (L2.CX P w) P w K mg base N qual sc f cdv A outer s H E).A (cxOf (L2.CX P w) P w K mg base N qual sc f cdv A outer s H E).env (cxOf (L2.CX P w) P w K mg base N qual sc f cdv A outer s H E).xe := passes_of rfl
theorem tk0 {X : Cx} : Takes X WF0 := takes0
end
end V2
namespace V2
open PySem PySem.Spec PyProof.Rows L2
open PySem.W (Frag)
/-- a clause that takes one class, and is reached by it alone -/
def only (cn : Str) (s : Str) : Option Bool := if s = cn then some true else none
theorem only_exm {K : Frag} {mg : Str → Option Value} {cn : Str} {C : Addr} (g : mg cn = some (.ref C)) (e : PySem.W.exmOne K (.ref C) (.ref C) = some true) : ∀ nm D b, mg nm = some (.ref D) → only cn nm = some b → PySem.W.exmOne K (.ref D) (.ref C) = some b := by
  intro nm D b h1 h2
  unfold only at h2
  split at h2
  · rename_i q
    subst q
    rw [g] at h1
    cases h1
    cases h2
    exact e
  · cases h2
end V2
set_option Elab.async false
set_option linter.all false
set_option maxRecDepth 100000
set_option maxHeartbeats 4000000
/-! ## Going through a reading, step by step -/
namespace V2
open PySem PySem.Spec PyProof.Rows L2
open PySem.W (Frag)

inductive GetAt : Nat → En → D → Prop
  | zero {d : D} {l : En} : GetAt 0 (some d :: l) d
  | succ {n : Nat} {a : Option D} {l : En} {d : D} : GetAt n l d → GetAt (n + 1) (a :: l) d
inductive SetAt : Nat → En → D → En → Prop
  | zero {a : Option D} {d : D} {l : En} : SetAt 0 (a :: l) d (some d :: l)
  | succ {n : Nat} {a : Option D} {d : D} {l l' : En} : SetAt n l d l' → SetAt (n + 1) (a :: l) d (a :: l')
theorem GetAt.eq {n : Nat} {l : En} {d : D} (h : GetAt n l d) : l[n]? = some (some d) := by
  induction h with
  | zero => rfl
  | succ _ ih => rw [List.getElem?_cons_succ]; exact ih
theorem SetAt.eq {n : Nat} {l l' : En} {d : D} (h : SetAt n l d l') : l.set n (some d) = l' := by
  induction h with
  | zero => rfl
  | succ _ ih => rw [List.set_cons_succ, ih]

inductive Pad : Nat → En → Prop
  | zero : Pad 0 []
  | succ {n : Nat} {l : En} : Pad n l → Pad (n + 1) (none :: l)
inductive Pre : List D → En → En → Prop
  | nil {l : En} : Pre [] l l
  | cons {x : D} {xs : List D} {l l' : En} : Pre xs l l' → Pre (x :: xs) l (some x :: l')
theorem Pad.eq {n : Nat} {l : En} (p : Pad n l) : l = List.replicate n none := by
  induction p with
  | zero => rfl
  | succ _ ih => rw [List.replicate_succ, ih]
theorem Pre.eq {xs : List D} {l l' : En} (p : Pre xs l l') : xs.map some ++ l = l' := by
  induction p with
  | nil => rfl
  | cons _ ih => rw [List.map_cons, List.cons_append, ih]

section
variable {ρ ρ1 ρ2 ρ3 : En} {h : Ho} {Q : KD} {E : XD} {d x y z : D} {fa fb : WE} {ga : WA} {r : WR2} {nx : En → Ho → Prop} {rt : KD} {bk ct : En → Ho → Prop} {ex : Ex → En → Ho → Prop} {f g : WS} {i j : Int} {t u : WT} {b : Bool} {QA : List D → Ho → Prop} {QT : Bool → Ho → Prop}
theorem i_var {n : Nat} (e : GetAt n ρ d) (k : Q d h) : fVar n ρ h Q E := by
  unfold fVar
  rw [e.eq]
  exact k
theorem i_c {p : PyData} (k : Q (.d p) h) : fC p ρ h Q E := k
theorem i_nil (k : QA [] h) : aNil ρ h QA E := k
theorem i_cons (k : fa ρ h (fun x h1 => ga ρ h1 (fun xs h2 => QA (x :: xs) h2) E) E) : aCons fa ga ρ h QA E := k
theorem i_bin (k : fa ρ h (fun x h1 => fb ρ h1 (fun y h2 => r x y h2 Q) E) E) : fBin r fa fb ρ h Q E := k
theorem i_ints {C : Int → Int → Prop} {gg : Int → Int → PyData} (c : C i j) (k : Q (.d (gg i j)) h) : rInts C gg (.d (.int i)) (.d (.int j)) h Q := ⟨c, k⟩
theorem i_ints0 {gg : Int → Int → PyData} (k : Q (.d (gg i j)) h) : rInts (fun _ _ => True) gg (.d (.int i)) (.d (.int j)) h Q := ⟨trivial, k⟩
theorem i_add (k : Q (.d (.int (i + j))) h) : rAdd2 (.d (.int i)) (.d (.int j)) h Q := k
theorem i_eqi (k : Q (.d (.bool (decide (i = j)))) h) : rEq2 (.d (.int i)) (.d (.int j)) h Q := k
theorem i_nei (k : Q (.d (.bool (!decide (i = j)))) h) : rNe2 (.d (.int i)) (.d (.int j)) h Q := k
theorem i_eqs {i j : Str} (k : Q (.d (.bool (decide (i = j)))) h) : rEq2 (.d (.str i)) (.d (.str j)) h Q := k
theorem i_nes {i j : Str} (k : Q (.d (.bool (!decide (i = j)))) h) : rNe2 (.d (.str i)) (.d (.str j)) h Q := k
theorem i_eqd {p q : PyData} (ex : datum h x = some p) (ey : datum h y = some q) (hp : SeqAt.shaped p = true) (hq : SeqAt.shaped q = true) (ni : (∀ i, x ≠ .d (.int i)) ∧ ∀ i, x ≠ .d (.str i)) (k : Q (.d (.bool (PyData.eqv p q))) h) : rEq2 x y h Q := by
  unfold rEq2
  split
  · exact (ni.1 _ rfl).elim
  · exact (ni.2 _ rfl).elim
  · rw [ex, ey]
    exact ⟨hp, hq, k⟩
theorem i_ned {p q : PyData} (ex : datum h x = some p) (ey : datum h y = some q) (hp : SeqAt.shaped p = true) (hq : SeqAt.shaped q = true) (ni : (∀ i, x ≠ .d (.int i)) ∧ ∀ i, x ≠ .d (.str i)) (k : Q (.d (.bool (!PyData.eqv p q))) h) : rNe2 x y h Q := by
  unfold rNe2
  split
  · exact (ni.1 _ rfl).elim
  · exact (ni.2 _ rfl).elim
  · rw [ex, ey]
    exact ⟨hp, hq, k⟩
theorem i_un {gg : Int → PyData} (k : fa ρ h (fun x h1 => ∃ i, x = .d (.int i) ∧ Q (.d (gg i)) h1) E) : fUn gg fa ρ h Q E := by
  have e : (fun (x : D) (h1 : Ho) => ∃ i, x = .d (.int i) ∧ Q (.d (gg i)) h1) = (fun x h1 => match x with
      | .d (.int i) => Q (.d (gg i)) h1
      | _ => False) := by
    funext x h1
    apply propext
    constructor
    · rintro ⟨i, rfl, q⟩; exact q
    · split
      · exact fun q => ⟨_, rfl, q⟩
      · exact False.elim
  rw [e] at k
  exact k
theorem i_val (k : fa ρ h (fun x h1 => ∃ b, x = .d (.bool b) ∧ QT b h1) E) : tVal fa ρ h QT E := by
  have e : (fun (x : D) (h1 : Ho) => ∃ b, x = .d (.bool b) ∧ QT b h1) = (fun x h1 => match x with
      | .d (.bool b) => QT b h1
      | _ => False) := by
    funext x h1
    apply propext
    constructor
    · rintro ⟨i, rfl, q⟩; exact q
    · split
      · exact fun q => ⟨_, rfl, q⟩
      · exact False.elim
  rw [e] at k
  exact k
theorem i_isb {P : Bool → Prop} (k : P b) : ∃ b', D.d (.bool b) = .d (.bool b') ∧ P b' := ⟨b, rfl, k⟩
theorem i_isi {P : Int → Prop} (k : P i) : ∃ i', D.d (.int i) = .d (.int i') ∧ P i' := ⟨i, rfl, k⟩
theorem i_isr {P : Int → Prop} (k : P i) : ∃ i', [D.d (.int i)] = [.d (.int i')] ∧ P i' := ⟨i, rfl, k⟩
theorem i_and2 (k : t ρ h (fun b h1 => if b = true then u ρ h1 QT E else QT false h1) E) : tAnd2 t u ρ h QT E := k
theorem i_or2 (k : t ρ h (fun b h1 => if b = true then QT true h1 else u ρ h1 QT E) E) : tOr2 t u ρ h QT E := k
theorem i_not2 (k : t ρ h (fun b h1 => QT (!b) h1) E) : tNot2 t ρ h QT E := k
theorem i_fif (k : t ρ h (fun b h1 => if b = true then fa ρ h1 Q E else fb ρ h1 Q E) E) : fIf t fa fb ρ h Q E := k
theorem i_ifT {p q : Prop} (e : b = true) (k : p) : if b = true then p else q := by rw [if_pos e]; exact k
theorem i_ifF {p q : Prop} (e : b = false) (k : q) : if b = true then p else q := by rw [e, if_neg (by decide)]; exact k
theorem i_ite {p q : Prop} (k1 : b = true → p) (k2 : b = false → q) : if b = true then p else q := by
  cases b with
  | true => rw [if_pos rfl]; exact k1 rfl
  | false => rw [if_neg (by decide)]; exact k2 rfl
theorem i_iteC {p C : Prop} (hC : C) (k : b = true → C → p) : if b = true then p else C := by
  cases b with
  | true => rw [if_pos rfl]; exact k rfl hC
  | false => rw [if_neg (by decide)]; exact hC
inductive AllD : List D → List PyData → Prop
  | nil : AllD [] []
  | cons {p : PyData} {xs : List D} {ps : List PyData} : AllD xs ps → AllD (.d p :: xs) (p :: ps)
theorem AllD.eq {xs : List D} {ps : List PyData} (a : AllD xs ps) : allD xs = some ps := by
  induction a with
  | nil => rfl
  | cons _ ih => simp only [allD, ih, Option.map_some, Option.bind_some]
theorem allD_iff : ∀ {xs : List D} {ps : List PyData}, allD xs = some ps → AllD xs ps
  | [], ps, e => by cases e; exact .nil
  | .d p :: xs, ps, e => by
    simp only [allD, Option.map_eq_some_iff] at e
    obtain ⟨qs, e1, rfl⟩ := e
    exact .cons (allD_iff e1)
  | .loc _ :: xs, ps, e => by cases e
theorem m_allD {P : List PyData → Ho → Prop} : (fun (xs : List D) (h1 : Ho) => ∃ ps, AllD xs ps ∧ P ps h1) = (fun xs h1 => match allD xs with
    | some ps => P ps h1
    | none => False) := by
  funext xs h1
  apply propext
  constructor
  · rintro ⟨ps, a, q⟩
    rw [a.eq]
    exact q
  · split
    · rename_i ps e
      exact fun q => ⟨ps, allD_iff e, q⟩
    · exact False.elim
theorem i_tup (k : ga ρ h (fun xs h1 => ∃ ps, AllD xs ps ∧ ps.length ≤ sizeLine ∧ Q (.d (.tuple ps)) h1) E) : fTup ga ρ h Q E := by
  rw [m_allD (P := fun ps h1 => ps.length ≤ sizeLine ∧ Q (.d (.tuple ps)) h1)] at k
  exact k
theorem i_lst (k : ga ρ h (fun xs h1 => ∃ ps, AllD xs ps ∧ ps.length ≤ sizeLine ∧ Q (.d (.list ps)) h1) E) : fLst ga ρ h Q E := by
  rw [m_allD (P := fun ps h1 => ps.length ≤ sizeLine ∧ Q (.d (.list ps)) h1)] at k
  exact k
theorem i_all {xs : List D} {ps : List PyData} {P : List PyData → Prop} (a : AllD xs ps) (l : ps.length ≤ sizeLine) (k : P ps) : ∃ ps, AllD xs ps ∧ ps.length ≤ sizeLine ∧ P ps := ⟨ps, a, l, k⟩
theorem i_loc (k : ga ρ h (fun xs h1 => xs.length ≤ sizeLine ∧ Q (.loc h1.length) (h1 ++ [.lst xs])) E) : fLoc ga ρ h Q E := k
/-- subscripts -/
theorem i_ix {xs : List D} (e : items h x = some xs) (ea : L2.atI xs i = some y) (k : Q y h) : rIx2 x (.d (.int i)) h Q := by
  simp only [rIx2, e, ea]
  exact k
/-- calls -/
theorem i_call {r : WR} (k : ga ρ h (fun xs h1 => r xs h1 Q) E) : fCall r ga ρ h Q E := k
theorem i_fn {F : WF} (k : ga ρ h (fun xs h1 => F xs h1 Q E) E) : fFn F ga ρ h Q E := k
theorem i_fnk {F : WF} {ix : List Nat} {n : Nat} (k : ga ρ h (fun xs h1 => xs.length = n ∧ ∃ ys, V2.pick ix xs = ys ∧ F ys h1 Q E) E) : fFnK ix n F ga ρ h Q E := by
  have e : (fun (xs : List D) (h1 : Ho) => xs.length = n ∧ ∃ ys, V2.pick ix xs = ys ∧ F ys h1 Q E) = (fun xs h1 => xs.length = n ∧ F (V2.pick ix xs) h1 Q E) := by
    funext xs h1
    apply propext
    exact ⟨fun ⟨a, ys, e, q⟩ => ⟨a, by rw [e]; exact q⟩, fun ⟨a, q⟩ => ⟨a, _, rfl, q⟩⟩
  rw [e] at k
  exact k
theorem i_pk1 {P : List D → Prop} (k : P [x]) : [x].length = 1 ∧ ∃ ys, V2.pick [0] [x] = ys ∧ P ys := ⟨rfl, _, rfl, k⟩
theorem i_pk2 {P : List D → Prop} (k : P [y, x]) : [x, y].length = 2 ∧ ∃ ys, V2.pick [1, 0] [x, y] = ys ∧ P ys := ⟨rfl, _, rfl, k⟩
theorem i_abs (k : Q (.d (.int (if i < 0 then -i else i))) h) : rAbs [.d (.int i)] h Q := k
theorem i_toint (k : Q (.d (.int i)) h) : rInt1 [.d (.int i)] h Q := k
theorem i_gcd (k : Q (.d (.int (Nat.gcd i.natAbs j.natAbs : Nat))) h) : rGcd2 [.d (.int i), .d (.int j)] h Q := k
theorem i_len {xs : List D} (e : items h x = some xs) (k : Q (.d (.int xs.length)) h) : rLen [x] h Q := by
  simp only [rLen, e]
  exact k
theorem i_repr {p : PyData} (hs : p.showable = true) (hd : p.depth < 60) (hz : p.shown.length ≤ sizeLine) (k : Q (.d (.str p.shown)) h) : rRepr [.d p] h Q := ⟨hs, hd, hz, k⟩
theorem i_fand (k : fa ρ h (fun x h1 => ∃ b, x = .d (.bool b) ∧ if b = true then fb ρ h1 Q E else Q (.d (.bool false)) h1) E) : fAnd fa fb ρ h Q E := by
  have e : (fun (x : D) (h1 : Ho) => ∃ b, x = .d (.bool b) ∧ if b = true then fb ρ h1 Q E else Q (.d (.bool false)) h1) = (fun x h1 => match x with
      | .d (.bool true) => fb ρ h1 Q E
      | .d (.bool false) => Q (.d (.bool false)) h1
      | _ => False) := by
    funext x h1
    apply propext
    constructor
    · rintro ⟨b, rfl, q⟩
      cases b with
      | true => simpa using q
      | false => simpa using q
    · split
      · exact fun q => ⟨true, rfl, by simpa using q⟩
      · exact fun q => ⟨false, rfl, by simpa using q⟩
      · exact False.elim
  rw [e] at k
  exact k
/-- statements -/
theorem i_mir {xs : List D} {n m : Nat} {l : En} (hl : xs.length = m) (p : Pad (n - m) l) (q : Pre xs l ρ) (k : f ρ h ⟨fun _ h => Q (.d .none) h, Q, fun _ _ => False, fun _ _ => False, fun x _ h => E x h⟩) : mir n m f xs h Q E := by
  refine ⟨hl, ?_⟩
  rw [← p.eq, q.eq]
  exact k
theorem i_seq (k : f ρ h ⟨fun ρ1 h1 => g ρ1 h1 ⟨nx, rt, bk, ct, ex⟩, rt, bk, ct, ex⟩) : sSeq f g ρ h ⟨nx, rt, bk, ct, ex⟩ := k
theorem i_next (k : nx ρ h) : sNext ρ h ⟨nx, rt, bk, ct, ex⟩ := k
theorem i_ret (k : fa ρ h rt (fun x h => ex x ρ h)) : sRet fa ρ h ⟨nx, rt, bk, ct, ex⟩ := k
theorem i_drop (k : fa ρ h (fun _ h1 => nx ρ h1) (fun x h => ex x ρ h)) : sDrop fa ρ h ⟨nx, rt, bk, ct, ex⟩ := k
theorem i_brk (k : bk ρ h) : sBrk ρ h ⟨nx, rt, bk, ct, ex⟩ := k
theorem i_cnt (k : ct ρ h) : sCnt ρ h ⟨nx, rt, bk, ct, ex⟩ := k
theorem i_if (k : t ρ h (fun b h1 => if b = true then f ρ h1 ⟨nx, rt, bk, ct, ex⟩ else g ρ h1 ⟨nx, rt, bk, ct, ex⟩) (fun x h => ex x ρ h)) : sIf t f g ρ h ⟨nx, rt, bk, ct, ex⟩ := k
theorem i_asgn {n : Nat} (k : fa ρ h (fun x h1 => ∃ ρ1, SetAt n ρ x ρ1 ∧ nx ρ1 h1) (fun x h => ex x ρ h)) (hn : n < ρ.length) : sAsg fa (gNm n) ρ h ⟨nx, rt, bk, ct, ex⟩ := by
  have e : (fun (x : D) (h1 : Ho) => ∃ ρ1, SetAt n ρ x ρ1 ∧ nx ρ1 h1) = fun x h1 => nx (ρ.set n (some x)) h1 := by
    funext x h1
    apply propext
    constructor
    · rintro ⟨ρ1, s, q⟩
      rw [s.eq]
      exact q
    · intro q
      refine ⟨_, ?_, q⟩
      clear k q
      induction n generalizing ρ with
      | zero =>
        cases ρ with
        | nil => exact absurd hn (by simp)
        | cons a l => exact .zero
      | succ n ih =>
        cases ρ with
        | nil => exact absurd hn (by simp)
        | cons a l => exact .succ (ih (by simpa using hn))
  rw [e] at k
  exact k
theorem i_set {n : Nat} {P : En → Prop} (s : SetAt n ρ x ρ1) (k : P ρ1) : ∃ ρ1, SetAt n ρ x ρ1 ∧ P ρ1 := ⟨ρ1, s, k⟩
/-- a, b = a pair -/
theorem i_asg2 {n m : Nat} (k : fa ρ h (fun x h1 => ∃ p q ρ1 ρ2, x = .d (.tuple [p, q]) ∧ SetAt n ρ (.d p) ρ1 ∧ SetAt m ρ1 (.d q) ρ2 ∧ nx ρ2 h1) (fun x h => ex x ρ h)) (mo : ∀ (P P' : KD), (∀ x h, P x h → P' x h) → fa ρ h P (fun x h => ex x ρ h) → fa ρ h P' (fun x h => ex x ρ h)) : sAsg fa (gTp 2 (gsCons (gNm n) (gsCons (gNm m) gsNil))) ρ h ⟨nx, rt, bk, ct, ex⟩ := by
  refine mo _ _ (fun x h1 => ?_) k
  rintro ⟨p, q, ρ1, ρ2, rfl, s1, s2, hq⟩
  have e : gTp 2 (gsCons (gNm n) (gsCons (gNm m) gsNil)) (.d (.tuple [p, q])) h1 ρ = some ρ2 := by
    simp only [gTp, items, List.map_cons, List.map_nil, List.length_cons, List.length_nil, if_true, gsCons, gNm, gsNil, Option.bind_some, s1.eq, s2.eq]
  rw [e]
  exact hq
theorem mo_var {n : Nat} (P P' : KD) (p : ∀ x h, P x h → P' x h) : fVar n ρ h P E → fVar n ρ h P' E := by
  unfold fVar
  split
  · exact p _ _
  · exact id
theorem i_asg2v {n m l : Nat} {p q : PyData} (e : GetAt l ρ (.d (.tuple [p, q]))) (s1 : SetAt n ρ (.d p) ρ1) (s2 : SetAt m ρ1 (.d q) ρ2) (k : nx ρ2 h) : sAsg (fVar l) (gTp 2 (gsCons (gNm n) (gsCons (gNm m) gsNil))) ρ h ⟨nx, rt, bk, ct, ex⟩ :=
  i_asg2 (i_var e ⟨p, q, ρ1, ρ2, rfl, s1, s2, k⟩) fun P P' hp => mo_var P P' hp
theorem i_par {n m : Nat} (k : ga ρ h (fun xs h1 => ∃ x y ρ1 ρ2, xs = [x, y] ∧ SetAt n ρ x ρ1 ∧ SetAt m ρ1 y ρ2 ∧ nx ρ2 h1) (fun x h => ex x ρ h)) (hn : n < ρ.length) (hm : m < ρ.length) : sPar n m ga ρ h ⟨nx, rt, bk, ct, ex⟩ := by
  have st : ∀ (n : Nat) (ρ : En) (x : D), n < ρ.length → SetAt n ρ x (ρ.set n (some x)) := by
    intro n
    induction n with
    | zero =>
      intro ρ x hn
      cases ρ with
      | nil => exact absurd hn (by simp)
      | cons a l => exact .zero
    | succ n ih =>
      intro ρ x hn
      cases ρ with
      | nil => exact absurd hn (by simp)
      | cons a l => exact .succ (ih _ _ (by simpa using hn))
  have e : (fun (xs : List D) (h1 : Ho) => ∃ x y ρ1 ρ2, xs = [x, y] ∧ SetAt n ρ x ρ1 ∧ SetAt m ρ1 y ρ2 ∧ nx ρ2 h1) = (fun xs h1 => match xs with
      | [x, y] => nx ((ρ.set n (some x)).set m (some y)) h1
      | _ => False) := by
    funext xs h1
    apply propext
    constructor
    · rintro ⟨x, y, ρ1, ρ2, rfl, s1, s2, hq⟩
      simp only
      rw [s1.eq, s2.eq]
      exact hq
    · split
      · intro hq
        exact ⟨_, _, _, _, rfl, st _ _ _ hn, st _ _ _ (by simpa using hm), hq⟩
      · exact False.elim
  rw [e] at k
  exact k
theorem i_pair {n m : Nat} {P : En → Prop} (s1 : SetAt n ρ x ρ1) (s2 : SetAt m ρ1 y ρ2) (k : P ρ2) : ∃ x' y' ρ1 ρ2, [x, y] = [x', y'] ∧ SetAt n ρ x' ρ1 ∧ SetAt m ρ1 y' ρ2 ∧ P ρ2 := ⟨x, y, ρ1, ρ2, rfl, s1, s2, k⟩
theorem i_par3 {n m l : Nat} (k : ga ρ h (fun xs h1 => ∃ x y z ρ1 ρ2 ρ3, xs = [x, y, z] ∧ SetAt n ρ x ρ1 ∧ SetAt m ρ1 y ρ2 ∧ SetAt l ρ2 z ρ3 ∧ nx ρ3 h1) (fun x h => ex x ρ h)) (hn : n < ρ.length) (hm : m < ρ.length) (hl : l < ρ.length) : sPar3 n m l ga ρ h ⟨nx, rt, bk, ct, ex⟩ := by
  have st : ∀ (n : Nat) (ρ : En) (x : D), n < ρ.length → SetAt n ρ x (ρ.set n (some x)) := by
    intro n
    induction n with
    | zero =>
      intro ρ x hn
      cases ρ with
      | nil => exact absurd hn (by simp)
      | cons a l => exact .zero
    | succ n ih =>
      intro ρ x hn
      cases ρ with
      | nil => exact absurd hn (by simp)
      | cons a l => exact .succ (ih _ _ (by simpa using hn))
  have e : (fun (xs : List D) (h1 : Ho) => ∃ x y z ρ1 ρ2 ρ3, xs = [x, y, z] ∧ SetAt n ρ x ρ1 ∧ SetAt m ρ1 y ρ2 ∧ SetAt l ρ2 z ρ3 ∧ nx ρ3 h1) = (fun xs h1 => match xs with
      | [x, y, z] => nx (((ρ.set n (some x)).set m (some y)).set l (some z)) h1
      | _ => False) := by
    funext xs h1
    apply propext
    constructor
    · rintro ⟨x, y, z, ρ1, ρ2, ρ3, rfl, s1, s2, s3, hq⟩
      simp only
      rw [s1.eq, s2.eq, s3.eq]
      exact hq
    · split
      · intro hq
        exact ⟨_, _, _, _, _, _, rfl, st _ _ _ hn, st _ _ _ (by simpa using hm), st _ _ _ (by simpa using hl), hq⟩
      · exact False.elim
  rw [e] at k
  exact k
theorem i_trip {n m l : Nat} {P : En → Prop} (s1 : SetAt n ρ x ρ1) (s2 : SetAt m ρ1 y ρ2) (s3 : SetAt l ρ2 z ρ3) (k : P ρ3) : ∃ x' y' z' ρ1 ρ2 ρ3, [x, y, z] = [x', y', z'] ∧ SetAt n ρ x' ρ1 ∧ SetAt m ρ1 y' ρ2 ∧ SetAt l ρ2 z' ρ3 ∧ P ρ3 := ⟨x, y, z, ρ1, ρ2, ρ3, rfl, s1, s2, s3, k⟩
theorem i_raise {cn fld : Str} (k : ga ρ h (fun xs h1 => ∃ y, xs = [y] ∧ ex ⟨cn, some (fld, y)⟩ ρ h1) (fun x h => ex x ρ h)) : sRaise cn fld ga ρ h ⟨nx, rt, bk, ct, ex⟩ := by
  have e : (fun (xs : List D) (h1 : Ho) => ∃ y, xs = [y] ∧ ex ⟨cn, some (fld, y)⟩ ρ h1) = (fun xs h1 => match xs with
      | [y] => ex ⟨cn, some (fld, y)⟩ ρ h1
      | _ => False) := by
    funext xs h1
    apply propext
    constructor
    · rintro ⟨j, rfl, hq⟩; exact hq
    · split
      · exact fun hq => ⟨_, rfl, hq⟩
      · exact False.elim
  rw [e] at k
  exact k
theorem i_one {P : D → Prop} (k : P x) : ∃ y, [x] = [y] ∧ P y := ⟨x, rfl, k⟩
/-- for -/
theorem for_ind {st : Ho → Prop} {wg : WG} {xs : List D} (I : Nat → En → Ho → Prop)
    (hs : ∀ k x ρ h (G : En → Ho → Prop), xs[k]? = some x → I k ρ h → (∀ ρ2 h2, I (k + 1) ρ2 h2 → G ρ2 h2) → ∃ ρ1, wg x h ρ = some ρ1 ∧ f ρ1 h ⟨fun ρ2 h2 => st h2 ∧ G ρ2 h2, rt, nx, fun ρ2 h2 => st h2 ∧ G ρ2 h2, ex⟩)
    (he : ∀ ρ h, I xs.length ρ h → nx ρ h) (h0 : I 0 ρ h) : forGo wg f ⟨nx, rt, bk, ct, ex⟩ st xs ρ h := by
  have aux : ∀ (ys : List D) (k : Nat), (∀ j, ys[j]? = xs[k + j]?) → k + ys.length = xs.length → ∀ ρ h, I k ρ h → forGo wg f ⟨nx, rt, bk, ct, ex⟩ st ys ρ h := by
    intro ys
    induction ys with
    | nil => intro k _ hl ρ h hi; exact he ρ h (by rw [← hl]; simpa using hi)
    | cons y ys ih =>
      intro k hj hl ρ h hi
      obtain ⟨ρ1, e1, e2⟩ := hs k y ρ h (fun ρ2 h2 => forGo wg f ⟨nx, rt, bk, ct, ex⟩ st ys ρ2 h2) (by rw [← Nat.add_zero k, ← hj 0]; rfl) hi (fun ρ2 h2 i2 => ih (k + 1) (fun j => by rw [Nat.add_assoc, Nat.add_comm 1 j, ← hj (j + 1)]; rfl) (by rw [← hl, List.length_cons]; omega) ρ2 h2 i2)
      unfold forGo
      rw [e1]
      exact e2
  exact aux xs 0 (fun j => by rw [Nat.zero_add]) (by simp) ρ h h0
theorem i_for {wi : WI} {wg : WG} (k : wi ρ h (fun xs st h1 => forGo wg f ⟨nx, rt, bk, ct, ex⟩ st xs ρ h1) (fun x h => ex x ρ h)) : sFor wi wg f ρ h ⟨nx, rt, bk, ct, ex⟩ := k
theorem i_range1 {QI : List D → (Ho → Prop) → Ho → Prop} (k : ga ρ h (fun ys h1 => ∃ j, ys = [.d (.int j)] ∧ -(2 ^ 62) ≤ j ∧ j < 2 ^ 62 ∧ QI (rangeD 0 j.toNat) (fun _ => True) h1) E) : iRange1 ga ρ h QI E := by
  have e : (fun (ys : List D) (h1 : Ho) => ∃ j, ys = [.d (.int j)] ∧ -(2 ^ 62) ≤ j ∧ j < 2 ^ 62 ∧ QI (rangeD 0 j.toNat) (fun _ => True) h1) = (fun ys h1 => match ys with
      | [.d (.int j)] => -(2 ^ 62) ≤ j ∧ j < 2 ^ 62 ∧ QI (rangeD 0 j.toNat) (fun _ => True) h1
      | _ => False) := by
    funext ys h1
    apply propext
    constructor
    · rintro ⟨j, rfl, hq⟩; exact hq
    · split
      · exact fun hq => ⟨_, rfl, hq⟩
      · exact False.elim
  rw [e] at k
  exact k
theorem i_iseq {QI : List D → (Ho → Prop) → Ho → Prop} {xs : List D} {n : Nat} (e : GetAt n ρ x) (ei : items h x = some xs) (k : QI xs (stay x xs) h) : iSeq (fVar n) ρ h QI E := by
  refine i_var e ?_
  simp only [ei]
  exact k
/-- comprehensions whose list is data: test and item leave the store alone -/
theorem lc_ind {st : Ho → Prop} {wg : WG} {tt : WT} {te : WE} {hb : Ho} {QH : Ho → Prop} {xs : List D} (I : Nat → List D → Prop) (hst : ∀ h, st h)
    (hs : ∀ k x acc, xs[k]? = some x → I k acc → ∃ ρ1 b, wg x (hb ++ [.lst acc]) ρ = some ρ1 ∧ (∀ P : Bool → Ho → Prop, P b (hb ++ [.lst acc]) → tt ρ1 (hb ++ [.lst acc]) P noX) ∧
      (b = true → ∃ y, (∀ P : KD, P y (hb ++ [.lst acc]) → te ρ1 (hb ++ [.lst acc]) P noX) ∧ acc.length < sizeLine ∧ I (k + 1) (acc ++ [y])) ∧ (b = false → I (k + 1) acc))
    (he : ∀ acc, I xs.length acc → QH (hb ++ [.lst acc])) (h0 : I 0 []) : lcGo wg tt te st hb.length ρ QH xs (hb ++ [.lst []]) := by
  have aux : ∀ (ys : List D) (k : Nat), (∀ j, ys[j]? = xs[k + j]?) → k + ys.length = xs.length → ∀ acc, I k acc → lcGo wg tt te st hb.length ρ QH ys (hb ++ [.lst acc]) := by
    intro ys
    induction ys with
    | nil => intro k _ hl acc hi; exact he acc (by rw [← hl]; simpa using hi)
    | cons y ys ih =>
      intro k hj hl acc hi
      obtain ⟨ρ1, b, e1, e2, e3, e4⟩ := hs k y acc (by rw [← Nat.add_zero k, ← hj 0]; rfl) hi
      have ihk := ih (k + 1) (fun j => by rw [Nat.add_assoc, Nat.add_comm 1 j, ← hj (j + 1)]; rfl) (by rw [← hl, List.length_cons]; omega)
      unfold lcGo
      rw [e1]
      refine e2 _ ?_
      cases b with
      | true =>
        rw [if_pos rfl]
        obtain ⟨z, f1, f2, f3⟩ := e3 rfl
        refine f1 _ ?_
        have g1 : (hb ++ [O.lst acc])[hb.length]? = some (.lst acc) := by simp
        have g2 : (hb ++ [O.lst acc]).set hb.length (.lst (acc ++ [z])) = hb ++ [.lst (acc ++ [z])] := by simp
        simp only [g1, g2]
        exact ⟨f2, hst _, ihk _ f3⟩
      | false =>
        rw [if_neg (by decide)]
        exact ⟨hst _, ihk _ (e4 rfl)⟩
  exact aux xs 0 (fun j => by rw [Nat.zero_add]) (by simp) [] h0
end
end V2
set_option Elab.async false
set_option linter.all false
set_option maxRecDepth 100000
set_option maxHeartbeats 4000000
/-! ## Fractions as data -/
namespace V2
open PySem PySem.Spec PyProof.Rows L2
abbrev fr (q : Rat) : PyData := .tuple [.int q.num, .int q.den]
theorem fr_shaped (q : Rat) : SeqAt.shaped (fr q) = true := rfl
theorem fr_noint (q : Rat) : ∀ i, fr q ≠ .int i := fun i e => by cases e
theorem fr_inj {a b : Rat} (h1 : a.num = b.num) (h2 : (a.den : Int) = b.den) : a = b := Rat.ext h1 (by exact_mod_cast h2)
theorem fr_eqv (a b : Rat) : PyData.eqv (fr a) (fr b) = decide (a = b) := by
  by_cases e : a = b
  · subst e
    simp [fr, PyData.eqv, PyData.eqvAll]
  · rw [decide_eq_false e]
    have : ¬ (a.num = b.num ∧ (a.den : Int) = b.den) := fun z => e (fr_inj z.1 z.2)
    simp only [fr, PyData.eqv, PyData.eqvAll, Bool.and_true, Bool.and_eq_false_iff, beq_eq_false_iff_ne, ne_eq]
    by_cases h1 : a.num = b.num
    · exact .inr fun z => this ⟨h1, z⟩
    · exact .inl h1
/-- no greater than n binary figures -/
def Sz (n : Nat) (q : Rat) : Prop := q.num.natAbs < 2 ^ n ∧ q.den < 2 ^ n
theorem log2_lt {k n : Nat} (hk : 0 < n) (h : k < 2 ^ n) : k.log2 < n := by
  by_cases z : k = 0
  · subst z; have e : Nat.log2 0 = 0 := by decide
    rw [e]; exact hk
  · exact (Nat.log2_lt z).mpr h
theorem Sz.mono {n m : Nat} {q : Rat} (s : Sz n q) (h : n ≤ m) : Sz m q :=
  ⟨Nat.lt_of_lt_of_le s.1 (Nat.pow_le_pow_right (by decide) h), Nat.lt_of_lt_of_le s.2 (Nat.pow_le_pow_right (by decide) h)⟩
theorem Sz.neg {n : Nat} {q : Rat} (s : Sz n q) : Sz n (-q) := ⟨by rw [Rat.neg_num, Int.natAbs_neg]; exact s.1, by rw [Rat.neg_den]; exact s.2⟩
theorem mul_lt_pow {a b n m : Nat} (h1 : a < 2 ^ n) (h2 : b < 2 ^ m) : a * b < 2 ^ (n + m) := by
  rw [Nat.pow_add]
  exact Nat.mul_lt_mul'' h1 h2
theorem Sz.mk' {n : Nat} {p : Int} {q : Nat} (z : q ≠ 0) (h1 : p.natAbs < 2 ^ n) (h2 : q < 2 ^ n) : Sz n (mkRat p q) := by
  unfold Sz
  rw [Rat.num_mkRat, Rat.den_mkRat, if_neg z, if_neg z]
  refine ⟨?_, Nat.lt_of_le_of_lt (Nat.div_le_self _ _) h2⟩
  rw [Int.natAbs_ediv_of_dvd (Int.ofNat_dvd_left.2 (Nat.gcd_dvd_right _ _)), Int.natAbs_natCast]
  exact Nat.lt_of_le_of_lt (Nat.div_le_self _ _) h1
theorem den_mul_ne (a b : Rat) : a.den * b.den ≠ 0 := Nat.mul_ne_zero a.den_nz b.den_nz
theorem add_mk (a b : Rat) : a + b = mkRat (a.num * b.den + b.num * a.den) (a.den * b.den) := by
  conv => lhs; rw [← Rat.mkRat_self a, ← Rat.mkRat_self b, Rat.mkRat_add_mkRat _ _ a.den_nz b.den_nz]
theorem mul_mk (a b : Rat) : a * b = mkRat (a.num * b.num) (a.den * b.den) := by
  conv => lhs; rw [← Rat.mkRat_self a, ← Rat.mkRat_self b, Rat.mkRat_mul_mkRat]
theorem Sz.mul {n m : Nat} {a b : Rat} (s : Sz n a) (t : Sz m b) : Sz (n + m) (a * b) := by
  rw [mul_mk]
  exact .mk' (den_mul_ne a b) (by rw [Int.natAbs_mul]; exact mul_lt_pow s.1 t.1) (mul_lt_pow s.2 t.2)
theorem Sz.add {n m : Nat} {a b : Rat} (s : Sz n a) (t : Sz m b) : Sz (n + m + 1) (a + b) := by
  rw [add_mk]
  have h1 : (a.num * b.den).natAbs < 2 ^ (n + m) := by rw [Int.natAbs_mul]; exact mul_lt_pow s.1 t.2
  have h2 : (b.num * a.den).natAbs < 2 ^ (n + m) := by rw [Int.natAbs_mul, Nat.mul_comm]; exact mul_lt_pow s.2 t.1
  have h3 := Int.natAbs_add_le (a.num * b.den) (b.num * a.den)
  have h4 := mul_lt_pow s.2 t.2
  exact .mk' (den_mul_ne a b) (by rw [Nat.pow_succ]; omega) (by rw [Nat.pow_succ]; omega)
theorem Sz.sub {n m : Nat} {a b : Rat} (s : Sz n a) (t : Sz m b) : Sz (n + m + 1) (a - b) := by
  rw [Rat.sub_eq_add_neg]
  exact s.add t.neg
/-! ### the text of data made of ints -/
theorem shown_int_len {i : Int} {n : Nat} (h0 : 0 < n) (h : i.natAbs < 2 ^ n) : (PyData.int i).shown.length ≤ n + 1 := by
  have e := int_text_length_le10 (k := n) h0 (Nat.lt_of_lt_of_le h (Nat.pow_le_pow_left (by decide) n))
  show (Str.ofString (toString i)).length ≤ n + 1
  rw [PySem.ofString_length]; exact e
theorem fr_leaves {q : Rat} {n : Nat} (h0 : 0 < n) (s : Sz n q) : PyData.leavesShort (n + 1) (fr q) = true := by
  simp only [fr, PyData.leavesShort, PyData.leavesShortAll, Bool.and_true, Bool.and_eq_true, decide_eq_true_eq]
  exact ⟨shown_int_len h0 s.1, shown_int_len h0 (by simpa using s.2)⟩
theorem fr_showable {q : Rat} {n : Nat} (h0 : 0 < n) (hn : n ≤ 1920) (s : Sz n q) : (fr q).showable = true := by
  have h1 := log2_lt h0 s.1
  have h2 := log2_lt h0 s.2
  simp only [fr, PyData.showable, PyData.showableAll, Bool.and_true, Bool.and_eq_true, decide_eq_true_eq, Int.natAbs_natCast]
  omega
theorem fr_len {q : Rat} {n : Nat} (h0 : 8 ≤ n) (hn : n ≤ 1920) (s : Sz n q) : (fr q).shown.length ≤ sizeLine := by
  have h := PyData.shown_le_bulk (n + 1) (by omega) (fr q) (fr_leaves (by omega) s)
  have e : (fr q).bulk = 2 := rfl
  rw [e] at h
  have : sizeLine = 2 ^ 24 := rfl
  omega
/-! ### quotients -/
theorem fdiv_nat (i : Int) (k : Nat) : i.fdiv k = i / (k : Int) := Int.fdiv_eq_ediv_of_nonneg i (Int.natCast_nonneg k)
theorem natAbs_div_le (i : Int) {k : Nat} (h : (k : Int) ∣ i) : (i / (k : Int)).natAbs ≤ i.natAbs := by
  rw [Int.natAbs_ediv_of_dvd h, Int.natAbs_natCast]
  exact Nat.div_le_self _ _
theorem cdiv_nat {i : Int} {k n : Nat} (h0 : k ≠ 0) (hn : 0 < n) (h : k < 2 ^ n) (h2 : n ≤ 9000) : CDivA i (k : Int) := by
  refine ⟨by exact_mod_cast h0, ?_⟩
  rw [Int.natAbs_natCast]
  exact Nat.lt_of_lt_of_le (log2_lt hn h) h2
theorem cmul {i j : Int} {n : Nat} (hn : 0 < n) (h1 : i.natAbs < 2 ^ n) (h2 : j.natAbs < 2 ^ n) (h : n ≤ 9000) : CMulW i j := by
  have a := log2_lt hn h1
  have b := log2_lt hn h2
  unfold CMulW
  omega
/-- what is told as top and bottom, in lowest terms -/
theorem low_eq {p : Int} {q : Nat} (h : q ≠ 0) : fr (mkRat p q) = .tuple [.int (p.fdiv (Nat.gcd p.natAbs q : Nat)), .int ((q : Int).fdiv (Nat.gcd p.natAbs q : Nat))] := by
  unfold fr
  rw [Rat.num_mkRat, Rat.den_mkRat, if_neg h, if_neg h, fdiv_nat, fdiv_nat, Nat.gcd_comm q p.natAbs, Int.natCast_ediv]
end V2
set_option Elab.async false
set_option linter.all false
set_option maxRecDepth 100000
set_option maxHeartbeats 4000000
namespace V2
def big : Nat := 4000
open PySem PySem.Spec PyProof.Rows L2
theorem plus_eq (a b : Rat) {g g2 : Nat} {t s' top : Int} (hg : g = Nat.gcd a.den b.den) (ht : t = (a.den : Int).fdiv (g : Nat)) (hs : s' = (b.den : Int).fdiv (g : Nat)) (htop : top = a.num * s' + b.num * t) (hg2 : g2 = Nat.gcd top.natAbs g) :
    fr (a + b) = .tuple [.int (top.fdiv (g2 : Nat)), .int (t * (b.den : Int).fdiv (g2 : Nat))] := by
  have hq := Nat.pos_of_ne_zero a.den_nz
  have hb := Nat.pos_of_ne_zero b.den_nz
  have gp : 0 < g := by rw [hg]; exact Nat.gcd_pos_of_pos_left _ hq
  obtain ⟨q', eq⟩ : g ∣ a.den := by rw [hg]; exact Nat.gcd_dvd_left _ _
  obtain ⟨r', er⟩ : g ∣ b.den := by rw [hg]; exact Nat.gcd_dvd_right _ _
  have e1 : a.den / g = q' := by rw [eq, Nat.mul_div_cancel_left _ gp]
  have e2 : b.den / g = r' := by rw [er, Nat.mul_div_cancel_left _ gp]
  have t1 : t = (q' : Int) := by rw [ht, fdiv_nat, ← Int.natCast_ediv, e1]
  have s1 : s' = (r' : Int) := by rw [hs, fdiv_nat, ← Int.natCast_ediv, e2]
  have aux := Rat.add.aux a b hg rfl rfl
  rw [e1, e2] at aux
  simp only at aux
  have htop' : top = a.num * (r' : Int) + b.num * (q' : Int) := by rw [htop, s1, t1]
  rw [← htop', ← hg2] at aux
  have q'p : 0 < q' := Nat.pos_of_ne_zero fun z => by subst z; simp at eq; omega
  have dn : q' * b.den ≠ 0 := Nat.mul_ne_zero (by omega) (by omega)
  have ev : a + b = mkRat top (q' * b.den) := by
    rw [add_mk, Rat.mkRat_eq_iff (den_mul_ne a b) dn, htop', eq, er]
    simp only [Int.natCast_mul]
    grind
  rw [ev, low_eq dn, ← aux, t1]
  congr 3
  have d2 : g2 ∣ b.den := by rw [hg2]; exact Nat.dvd_trans (Nat.gcd_dvd_right _ _) ⟨r', er⟩
  rw [fdiv_nat, fdiv_nat, ← Int.natCast_ediv, ← Int.natCast_ediv, Nat.mul_div_assoc _ d2, Int.natCast_mul]
theorem divExact_eq (i : Int) {k : Int} (h : k ∣ i) : i.divExact k h = i / k := by
  exact Int.divExact_eq_ediv h
theorem times_eq (a b : Rat) {g1 g2 : Nat} (h1 : g1 = Nat.gcd a.num.natAbs b.den) (h2 : g2 = Nat.gcd b.num.natAbs a.den) :
    fr (a * b) = .tuple [.int ((a.num.fdiv (g1 : Nat)) * (b.num.fdiv (g2 : Nat))), .int (((a.den : Int).fdiv (g2 : Nat)) * ((b.den : Int).fdiv (g1 : Nat)))] := by
  show fr (Rat.mul a b) = _
  rw [Rat.mul.eq_1]
  unfold fr
  simp only [Int.divExact_eq_ediv, Nat.divExact_eq_div, fdiv_nat, ← h1, ← h2, Int.natCast_mul, Int.natCast_ediv]
theorem neg_eq (a : Rat) : fr (-a) = .tuple [.int (-a.num), .int a.den] := by
  unfold fr
  rw [Rat.neg_num, Rat.neg_den]
theorem inv_pos (b : Rat) (h : 0 < b.num) : fr b⁻¹ = .tuple [.int b.den, .int b.num] := by
  show fr (Rat.inv b) = _
  rw [Rat.inv.eq_1, dif_neg (by omega), dif_pos h]
  unfold fr
  simp only [Int.natAbs_of_nonneg (Int.le_of_lt h)]
theorem inv_neg (b : Rat) (h : b.num < 0) : fr b⁻¹ = .tuple [.int (-b.den), .int (-b.num)] := by
  show fr (Rat.inv b) = _
  rw [Rat.inv.eq_1, dif_pos h]
  unfold fr
  simp only [Int.ofNat_natAbs_of_nonpos (Int.le_of_lt h)]
theorem Sz.inv {n : Nat} {b : Rat} (s : Sz n b) (h : b ≠ 0) : Sz n b⁻¹ := by
  have hz : b.num ≠ 0 := fun z => h (Rat.num_eq_zero.1 z)
  show Sz n (Rat.inv b)
  rw [Rat.inv.eq_1]
  by_cases c : b.num < 0
  · rw [dif_pos c]
    exact ⟨by show (-(b.den : Int)).natAbs < _; rw [Int.natAbs_neg, Int.natAbs_natCast]; exact s.2, s.1⟩
  · rw [dif_neg c, dif_pos (by omega)]
    exact ⟨by show ((b.den : Int)).natAbs < _; rw [Int.natAbs_natCast]; exact s.2, s.1⟩
theorem Sz.div {n m : Nat} {a b : Rat} (s : Sz n a) (t : Sz m b) (h : b ≠ 0) : Sz (n + m) (a / b) := by
  rw [Rat.div_def]
  exact s.mul (t.inv h)
theorem num_zero {b : Rat} : b.num = 0 ↔ b = 0 := Rat.num_eq_zero
theorem v_fdiv_le (i : Int) (k : Nat) : (i.fdiv (k : Int)).natAbs ≤ i.natAbs := by
  rw [fdiv_nat]
  exact Int.natAbs_ediv_le_natAbs i k
theorem cmulw {i j : Int} {n : Nat} (hn : 0 < n) (h1 : i.natAbs < 2 ^ n) (h2 : j.natAbs < 2 ^ n) (h : n ≤ 9000) : CMulW i j := by
  have a := log2_lt hn h1
  have b := log2_lt hn h2
  unfold CMulW
  omega
theorem cdiv_gr {i : Int} {m k n : Nat} (h0 : k ≠ 0) (hn : 0 < n) (h : k < 2 ^ n) (h2 : n ≤ 9000) : CDivA i ((Nat.gcd m k : Nat) : Int) :=
  cdiv_nat (fun z => h0 (Nat.eq_zero_of_gcd_eq_zero_right z)) hn (Nat.lt_of_le_of_lt (Nat.gcd_le_right m (Nat.pos_of_ne_zero h0)) h) h2
theorem gcd_ne {m k : Nat} (h0 : k ≠ 0) : Nat.gcd m k ≠ 0 := fun z => h0 (Nat.eq_zero_of_gcd_eq_zero_right z)
theorem gcd_lt {m k n : Nat} (h0 : k ≠ 0) (h : k < 2 ^ n) : Nat.gcd m k < 2 ^ n := Nat.lt_of_le_of_lt (Nat.gcd_le_right m (Nat.pos_of_ne_zero h0)) h
theorem nab (k : Nat) : (k : Int).natAbs = k := Int.natAbs_natCast k
end V2
set_option Elab.async false
set_option linter.all false
set_option maxRecDepth 100000
set_option maxHeartbeats 4000000
/-! ## The drawn numbers -/
namespace V2
open PySem PySem.Spec PyProof.Rows L2
abbrev cell (i : Int) : D := .d (.int i)
/-- the store behind the start of a law: the drawn numbers, and the number that is mixed -/
structure Deal (rest : Ho) (h : Ho) : Prop where
  is : ∃ (cs : List Int) (mix : Int), h = .lst (cs.map cell) :: .lst [.loc 0, cell mix] :: rest ∧ cs.length ≤ 63 ∧ (∀ c ∈ cs, 0 ≤ c) ∧ 0 ≤ mix ∧ mix < 2 ^ 31
theorem shaped_ints (cs : List Int) : SeqAt.shaped (.list (cs.map PyData.int)) = true := by
  have h1 : ∀ cs : List Int, PyData.canLayAll0 (cs.map PyData.int) = true := by
    intro cs
    induction cs with
    | nil => rfl
    | cons c cs ih => simp only [List.map_cons, PyData.canLayAll0, PyData.canLay0, ih, Bool.and_self]
  have h2 : ∀ cs : List Int, PyData.depthAll (cs.map PyData.int) ≤ 63 := by
    intro cs
    induction cs with
    | nil => exact Nat.zero_le _
    | cons c cs ih => simp only [List.map_cons, PyData.depthAll, PyData.depth]; omega
  unfold SeqAt.shaped
  simp only [PyData.canLay0, PyData.depth, Bool.and_eq_true]
  exact ⟨h1 cs, decide_eq_true (Nat.succ_le_succ (h2 cs))⟩
theorem datum_cells {cs : List Int} {rest : Ho} : datum (.lst (cs.map cell) :: rest) (.loc 0) = some (.list (cs.map PyData.int)) := by
  have e : cs.map cell = (cs.map PyData.int).map D.d := by rw [List.map_map]; rfl
  show (allD (cs.map cell)).map PyData.list = _
  rw [e, allD_map]
  rfl
theorem atI_last {α : Type} {xs : List α} {y : α} : L2.atI (xs ++ [y]) (-1) = some y := by
  unfold L2.atI ixN
  rw [if_neg (by decide), if_pos (by rw [List.length_append, List.length_singleton]; omega)]
  simp only [Option.bind_some]
  have : ((-1 : Int) + ((xs ++ [y]).length : Nat)).toNat = xs.length := by rw [List.length_append, List.length_singleton]; omega
  rw [this]
  simp
section
variable {ρ : En} {h hb : Ho} {Q : KD} {E : XD} {fa : WE} {wi : WI} {wg : WG} {tt : WT} {te : WE} {own : List Nat} {st : Ho → Prop} {xs : List D}
theorem i_sl0 {i : Nat} {j : Int} {ps : List PyData} (e : GetAt i ρ (.d (.list ps))) (k : Q (.d (.list (cut ps none (some j)))) h) : fSl (fVar i) oNone (oSome (fC (.int j))) ρ h Q E := i_var e k
theorem i_iseqG {QI : List D → (Ho → Prop) → Ho → Prop} (k : fa ρ h (fun x h1 => ∃ xs, items h1 x = some xs ∧ QI xs (stay x xs) h1) E) : iSeq fa ρ h QI E := by
  have e1 : (fun (x : D) (h1 : Ho) => ∃ xs, items h1 x = some xs ∧ QI xs (stay x xs) h1) = (fun x h1 => match items h1 x with
      | some xs => QI xs (stay x xs) h1
      | none => False) := by
    funext x h1
    apply propext
    constructor
    · rintro ⟨xs, e2, q⟩
      rw [e2]
      exact q
    · split
      · rename_i xs e3
        exact fun q => ⟨_, e3, q⟩
      · exact False.elim
  rw [e1] at k
  exact k
theorem i_lcv (k : wi ρ h (fun xs st h1 => st (h1 ++ [.lst []]) ∧ lcGo wg tt te st h1.length (wipeD ρ own) (fun h2 => ∃ hh acc ps, h2 = hh ++ [.lst acc] ∧ hh.length = h1.length ∧ (hh = h1 ∨ noRef h1.length hh = true) ∧ allD acc = some ps ∧ Q (.d (.list ps)) hh) xs (h1 ++ [.lst []])) E) : fLcV wi wg tt te own ρ h Q E := k
theorem lcv_ind {QL : List PyData → Ho → Prop} (I : Nat → List D → Prop) (hst : ∀ h, st h)
    (hs : ∀ k x acc, xs[k]? = some x → I k acc → ∃ ρ1 b, wg x (hb ++ [.lst acc]) ρ = some ρ1 ∧ (∀ P : Bool → Ho → Prop, P b (hb ++ [.lst acc]) → tt ρ1 (hb ++ [.lst acc]) P noX) ∧
      (b = true → ∃ y, (∀ P : KD, P y (hb ++ [.lst acc]) → te ρ1 (hb ++ [.lst acc]) P noX) ∧ acc.length < sizeLine ∧ I (k + 1) (acc ++ [y])) ∧ (b = false → I (k + 1) acc))
    (he : ∀ acc, I xs.length acc → ∃ ps, AllD acc ps ∧ QL ps hb) (h0 : I 0 []) :
    st (hb ++ [.lst []]) ∧ lcGo wg tt te st hb.length ρ (fun h2 => ∃ hh acc ps, h2 = hh ++ [.lst acc] ∧ hh.length = hb.length ∧ (hh = hb ∨ noRef hb.length hh = true) ∧ allD acc = some ps ∧ QL ps hh) xs (hb ++ [.lst []]) := by
  refine ⟨hst _, lc_ind I hst hs (fun acc hi => ?_) h0⟩
  obtain ⟨ps, a, q⟩ := he acc hi
  exact ⟨hb, acc, ps, rfl, rfl, .inl rfl, a.eq, q⟩
theorem stay_d {p : PyData} {xs : List D} (h : Ho) : stay (.d p) xs h := trivial
def revK (Q : KD) : KD := fun x h1 => match litems h1 x with
  | some xs => Q (.loc h1.length) (h1 ++ [.lst xs.reverse])
  | none => False
theorem i_revloc (k : fa ρ h (revK Q) E) : fRevLoc fa ρ h Q E := k
theorem revK_lst {ps : List PyData} (k : Q (.loc h.length) (h ++ [.lst (ps.map D.d).reverse])) : revK Q (.d (.list ps)) h := k
theorem allD_cells (cs : List Int) : AllD (cs.map cell) (cs.map PyData.int) := by
  induction cs with
  | nil => exact .nil
  | cons c cs ih => exact .cons ih
end
theorem i_asgG {ρ : En} {h : Ho} {fa : WE} {g : WG} {nx : En → Ho → Prop} {rt : KD} {bk ct : En → Ho → Prop} {ex : Ex → En → Ho → Prop} (k : fa ρ h (fun x h1 => ∃ ρ1, g x h1 ρ = some ρ1 ∧ nx ρ1 h1) (fun x h => ex x ρ h)) : sAsg fa g ρ h ⟨nx, rt, bk, ct, ex⟩ := by
  have e1 : (fun (x : D) (h1 : Ho) => ∃ ρ1, g x h1 ρ = some ρ1 ∧ nx ρ1 h1) = (fun x h1 => match g x h1 ρ with
      | some ρ1 => nx ρ1 h1
      | none => False) := by
    funext x h1
    apply propext
    constructor
    · rintro ⟨xs, e2, q⟩
      rw [e2]
      exact q
    · split
      · rename_i xs e3
        exact fun q => ⟨_, e3, q⟩
      · exact False.elim
  rw [e1] at k
  exact k
def tryK (i : Nat) (m : Str → Option Bool) (sf : Ex → WS) (D : Nx) : Ex → En → Ho → Prop := fun x ρ1 h1 => match m x.cls with
  | some true => i < ρ1.length ∧ sf x (ρ1.set i none) h1 (sufN i D)
  | some false => D.ex x ρ1 h1
  | none => False
theorem i_try {ρ : En} {h : Ho} {i : Nat} {m : Str → Option Bool} {f : WS} {sf : Ex → WS} {nx : En → Ho → Prop} {rt : KD} {bk ct : En → Ho → Prop} {ex : Ex → En → Ho → Prop} (k : f ρ h ⟨nx, rt, bk, ct, tryK i m sf ⟨nx, rt, bk, ct, ex⟩⟩) : sTry i m f sf ρ h ⟨nx, rt, bk, ct, ex⟩ := k
theorem nil_or_snoc {α : Type} (xs : List α) : xs = [] ∨ ∃ l c, xs = l ++ [c] := by
  rcases List.eq_nil_or_concat xs with h | ⟨l, c, h⟩
  · exact .inl h
  · exact .inr ⟨l, c, by rw [h, List.concat_eq_append]⟩
theorem mix_mul {mix : Int} (h0 : 0 ≤ mix) (h1 : mix < 2 ^ 31) : CMulW mix 48271 := cmulw (n := 31) (by decide) (by omega) (by decide) (by decide)
theorem ni_loc {n : Nat} : (∀ i, D.loc n ≠ .d (.int i)) ∧ ∀ i, D.loc n ≠ .d (.str i) := ⟨fun _ e => (by cases e), fun _ e => (by cases e)⟩
theorem ni_tup {xs : List PyData} : (∀ i, D.d (.tuple xs) ≠ .d (.int i)) ∧ ∀ i, D.d (.tuple xs) ≠ .d (.str i) := ⟨fun _ e => (by cases e), fun _ e => (by cases e)⟩
theorem ints_ne {cs : List Int} (h : cs ≠ []) : PyData.eqv (.list (cs.map PyData.int)) (.list []) = false := by
  cases cs with
  | nil => exact absurd rfl h
  | cons c cs => simp [PyData.eqv, PyData.eqvAll]
section
variable {ρ : En} {h h2 : Ho} {Q : KD} {E : XD} {fo fi fe : WE} {ga : WA} {nx : En → Ho → Prop} {rt : KD} {bk ct : En → Ho → Prop} {ex : Ex → En → Ho → Prop} {f : WS} {t : WT}
theorem i_while (I : Nat → En → Ho → Prop) {m0 : Nat} (h0 : I m0 ρ h) (he : ∀ m ρ h, I m ρ h → nx ρ h)
    (hs : (∀ m ρ h, I m ρ h → nx ρ h) → ∀ m ρ h, I m ρ h → t ρ h (fun b h1 => if b = true then f ρ h1 ⟨fun ρ' h' => ∃ m', m' < m ∧ I m' ρ' h', rt, nx, fun ρ' h' => ∃ m', m' < m ∧ I m' ρ' h', ex⟩ else nx ρ h1) (fun x h => ex x ρ h)) : sWhile t f ρ h ⟨nx, rt, bk, ct, ex⟩ :=
  ⟨I, ⟨m0, h0⟩, hs he⟩
def popK (Q : KD) : KD := fun x h1 => match x with
  | .loc n => match h1[n]? with
    | some (.lst xs) => match xs[xs.length - 1]? with
      | some y => Q y (h1.set n (.lst xs.dropLast))
      | none => False
    | none => False
  | _ => False
theorem i_pop (k : fo ρ h (popK Q) E) : fPop fo ρ h Q E := k
theorem popK_loc {n : Nat} {xs : List D} {y : D} (e : h[n]? = some (.lst (xs ++ [y]))) (es : h.set n (.lst xs) = h2) (k : Q y h2) : popK Q (.loc n) h := by
  have e1 : (xs ++ [y])[(xs ++ [y]).length - 1]? = some y := by simp
  simp only [popK, e, e1, List.dropLast_concat, es]
  exact k
def appK (ga : WA) (ρ : En) (Q : KD) (E : XD) : KD := fun x h1 => match x with
  | .loc n => match h1[n]? with
    | some (.lst _) => ga ρ h1 (fun ys h2 => match ys, h2[n]? with
      | [y], some (.lst xs) => xs.length < sizeLine ∧ Q (.d .none) (h2.set n (.lst (xs ++ [y])))
      | _, _ => False) E
    | none => False
  | _ => False
theorem i_append (k : fo ρ h (appK ga ρ Q E) E) : fAppend fo ga ρ h Q E := k
theorem appK_loc {n : Nat} {xs0 : List D} (e : h[n]? = some (.lst xs0)) (k : ga ρ h (fun ys h2 => ∃ y xs, ys = [y] ∧ h2[n]? = some (.lst xs) ∧ xs.length < sizeLine ∧ Q (.d .none) (h2.set n (.lst (xs ++ [y])))) E) : appK ga ρ Q E (.loc n) h := by
  have e1 : (fun (ys : List D) (h2 : Ho) => ∃ y xs, ys = [y] ∧ h2[n]? = some (.lst xs) ∧ xs.length < sizeLine ∧ Q (.d .none) (h2.set n (.lst (xs ++ [y])))) = (fun ys h2 => match ys, h2[n]? with
      | [y], some (.lst xs) => xs.length < sizeLine ∧ Q (.d .none) (h2.set n (.lst (xs ++ [y])))
      | _, _ => False) := by
    funext ys h2
    apply propext
    constructor
    · rintro ⟨y, xs, rfl, e2, q⟩
      simp only [e2]
      exact q
    · split
      · rename_i y xs e3
        exact fun q => ⟨_, _, rfl, e3, q⟩
      · exact False.elim
  rw [e1] at k
  simp only [appK, e]
  exact k
def subK (nx : En → Ho → Prop) (ρ : En) (y x z : D) (h3 : Ho) : Prop := match x, z with
  | .loc n, .d (.int k) => match h3[n]? with
    | some (.lst xs) => match ixN xs.length k with
      | some j => nx ρ (h3.set n (.lst (xs.set j y)))
      | none => False
    | none => False
  | _, _ => False
theorem i_sub (k : fe ρ h (fun y h1 => fo ρ h1 (fun x h2 => fi ρ h2 (fun z h3 => subK nx ρ y x z h3) (fun x h => ex x ρ h)) (fun x h => ex x ρ h)) (fun x h => ex x ρ h)) : sSub fe fo fi ρ h ⟨nx, rt, bk, ct, ex⟩ := k
theorem subK_loc {n j : Nat} {i : Int} {xs : List D} {y : D} (e : h[n]? = some (.lst xs)) (ej : ixN xs.length i = some j) (es : h.set n (.lst (xs.set j y)) = h2) (k : nx ρ h2) : subK nx ρ y (.loc n) (.d (.int i)) h := by
  simp only [subK, e, ej, es]
  exact k
end
theorem div_pos {a b : Rat} (hb : 0 < b.num) : a / b = mkRat (a.num * b.den) (a.den * b.num.natAbs) := by
  have hz : b ≠ 0 := fun z => by rw [z] at hb; exact absurd hb (by decide)
  have e : mkRat (a.num * b.den) (a.den * b.num.natAbs) * b = a := by
    conv => lhs; rhs; rw [← Rat.mkRat_self b]
    rw [Rat.mkRat_mul_mkRat]
    conv => rhs; rw [← Rat.mkRat_self a]
    rw [Rat.mkRat_eq_iff (Nat.mul_ne_zero (Nat.mul_ne_zero a.den_nz (by omega)) b.den_nz) a.den_nz]
    simp only [Int.natCast_mul, Int.natAbs_of_nonneg (Int.le_of_lt hb)]
    grind
  rw [← e]
  grind
theorem div_neg {a b : Rat} (hb : b.num < 0) : a / b = mkRat (0 - a.num * b.den) (a.den * b.num.natAbs) := by
  have hz : b ≠ 0 := fun z => by rw [z] at hb; exact absurd hb (by decide)
  have e : mkRat (0 - a.num * b.den) (a.den * b.num.natAbs) * b = a := by
    conv => lhs; rhs; rw [← Rat.mkRat_self b]
    rw [Rat.mkRat_mul_mkRat]
    conv => rhs; rw [← Rat.mkRat_self a]
    rw [Rat.mkRat_eq_iff (Nat.mul_ne_zero (Nat.mul_ne_zero a.den_nz (by omega)) b.den_nz) a.den_nz]
    simp only [Int.natCast_mul, Int.ofNat_natAbs_of_nonpos (Int.le_of_lt hb)]
    grind
  rw [← e]
  grind
theorem sub_mk (a b : Rat) : a - b = mkRat (a.num * b.den - b.num * a.den) (a.den * b.den) := by
  rw [Rat.sub_eq_add_neg, add_mk, Rat.neg_num, Rat.neg_den, Int.neg_mul, Int.sub_eq_add_neg]
theorem half_mk (a : Rat) : a / 2 = mkRat a.num (2 * a.den) := by
  rw [Rat.mkRat_eq_div, Rat.natCast_mul]
  conv => lhs; rw [← Rat.mkRat_self a, Rat.mkRat_eq_div]
  have := a.den_nz
  grind
theorem Sz.half {n : Nat} {a : Rat} (s : Sz n a) : Sz (n + 1) (a / 2) := by
  rw [half_mk]
  exact .mk' (Nat.mul_ne_zero (by decide) a.den_nz) (Nat.lt_trans s.1 (by rw [Nat.pow_succ]; have := Nat.two_pow_pos n; omega)) (by have := s.2; rw [Nat.pow_succ]; omega)
theorem three_show {a b c : Rat} (sa : Sz 1000 a) (sb : Sz 1000 b) (sc : Sz 1000 c) : (PyData.list [fr a, fr b, fr c]).showable = true ∧ (PyData.list [fr a, fr b, fr c]).depth < 60 ∧ (PyData.list [fr a, fr b, fr c]).shown.length ≤ sizeLine := by
  refine ⟨?_, by show 2 < 60; decide, ?_⟩
  · simp only [PyData.showable, PyData.showableAll, Bool.and_true, Bool.and_eq_true]
    have := fr_showable (by decide) (by decide) sa
    have := fr_showable (by decide) (by decide) sb
    have := fr_showable (by decide) (by decide) sc
    simp only [PyData.showable, PyData.showableAll, Bool.and_true, Bool.and_eq_true] at *
    exact ⟨‹_›, ‹_›, ‹_›⟩
  · have h1 := PyData.shown_le_bulk 1001 (by decide) (PyData.list [fr a, fr b, fr c]) (by
      have := fr_leaves (by decide) sa
      have := fr_leaves (by decide) sb
      have := fr_leaves (by decide) sc
      simp only [PyData.leavesShort, PyData.leavesShortAll, Bool.and_true, Bool.and_eq_true] at *
      exact ⟨‹_›, ‹_›, ‹_›⟩)
    have e : (PyData.list [fr a, fr b, fr c]).bulk = 9 := rfl
    rw [e] at h1
    have : sizeLine = 2 ^ 24 := rfl
    omega
theorem i_nefr {x y : Rat} {h : Ho} {Q : KD} (e : x = y) (k : Q (.d (.bool false)) h) : rNe2 (.d (fr x)) (.d (fr y)) h Q := by
  subst e
  refine i_ned rfl rfl rfl rfl ni_tup ?_
  rw [fr_eqv, decide_eq_true rfl]
  exact k
def halfR : Rat := ⟨1, 2, by decide, by decide⟩
theorem halfR_eq (a : Rat) : a / 2 = halfR * a := by
  have e : halfR = 1 / 2 := by
    unfold halfR
    rw [Rat.mk_eq_mkRat, Rat.mkRat_eq_div]
    simp
  rw [e]
  grind
theorem halved {i x y : Nat} (c : 0 < y) (hp : (i = 0 ∧ x * y < 2 ^ 8000) ∨ (0 < i ∧ y < x ∧ x * y < 2 ^ (8001 - i))) : y * (x % y) < 2 ^ (8001 - (i + 1)) := by
  have e : 8001 - (i + 1) = 8000 - i := by omega
  rw [e]
  have h1 : x % y < y := Nat.mod_lt _ c
  rcases hp with ⟨rfl, hp⟩ | ⟨_, hx, hp⟩
  · have h2 : x % y ≤ x := Nat.mod_le _ _
    have := Nat.mul_le_mul_left y h2
    rw [Nat.mul_comm x y] at hp
    exact Nat.lt_of_le_of_lt this hp
  · have h3 : x % y + y ≤ x := by
      have := Nat.mod_add_div x y
      have h4 : 1 ≤ x / y := (Nat.one_le_div_iff c).2 (by omega)
      have := Nat.mul_le_mul_left y h4
      omega
    have h5 : 2 * (y * (x % y)) ≤ x * y := by
      have : y * (2 * (x % y)) ≤ y * x := Nat.mul_le_mul_left y (by omega)
      rw [Nat.mul_comm x y]
      rw [Nat.mul_left_comm] at this
      exact this
    have h6 : 2 ≤ x * y := by
      have : 2 * 1 ≤ x * y := Nat.mul_le_mul (by omega) c
      omega
    by_cases z : 8001 - i = 0
    · rw [z] at hp
      omega
    · have e2 : 8001 - i = (8000 - i) + 1 := by omega
      rw [e2, Nat.pow_succ] at hp
      omega
end V2
set_option Elab.async false
set_option linter.all false
set_option maxRecDepth 100000
set_option maxHeartbeats 4000000
/-! ## More built-in functions and comparisons over data -/
namespace V2
open PySem PySem.Spec PyProof.Rows L2
open PySem.W (Frag)
section
variable {X : Cx} {W : WX} {a b c : Expr} {es : List Expr} {ga : WA} {fa fb fc : WE} {pos p : Pos}
/-! ### list(x), tuple(x): data -/
def rList1 : WR := fun xs h Q => match xs with
  | [x] => match items h x with
    | some ys => match allD ys with
      | some ps => Q (.d (.list ps)) h
      | none => False
    | none => False
  | _ => False
theorem cp_list1 : CpA X (fun xs H Q => ∃ p ys, xs = [.ref p] ∧ (SqL X.K H p ys ∨ SqT X.K H p ys) ∧ ∀ l, H l = none → Q (.ref l) (upd H l (.lst ys))) rList1 := by
  intro xs h Q vs as H QV rv hR hq k
  unfold rList1 at hq
  split at hq
  · split at hq
    · rename_i ys e
      split at hq
      · rename_i ps e2
        obtain ⟨v, rfl, r⟩ := relAll1 rv
        obtain ⟨a, us, rfl, s, ra⟩ := items_rel r hR e
        exact ⟨a, us, rfl, s, fun l hl => k.newLst hR hq (ra.ofAllD e2) hl⟩
      · exact hq.elim
    · exact hq.elim
  · exact hq.elim
def rTup1 : WR := fun xs h Q => match xs with
  | [.d (.tuple ps)] => Q (.d (.tuple ps)) h
  | [x] => match litems h x with
    | some ys => match allD ys with
      | some ps => Q (.d (.tuple ps)) h
      | none => False
    | none => False
  | _ => False
theorem cp_tup1 : CpA X (fun xs H Q => ∃ p ys, xs = [.ref p] ∧ ((SqL X.K H p ys ∧ ∀ l, H l = none → Q (.ref l) (upd H l (.tup ys))) ∨ (SqT X.K H p ys ∧ Q (.ref p) H))) rTup1 := by
  intro xs h Q vs as H QV rv hR hq k
  unfold rTup1 at hq
  split at hq
  · obtain ⟨v, rfl, r⟩ := relAll1 rv
    cases r with | d r =>
    cases r with | tup sx ax =>
    exact ⟨_, _, rfl, .inr ⟨sx.sq, k.qd hR hq (.tup sx ax)⟩⟩
  · split at hq
    · rename_i ys e
      split at hq
      · rename_i ps e2
        obtain ⟨v, rfl, r⟩ := relAll1 rv
        obtain ⟨a, us, rfl, s, ra⟩ := litems_rel r hR e
        exact ⟨a, us, rfl, .inl ⟨s, fun l hl => k.newTup hR hq (ra.ofAllD e2) hl⟩⟩
      · exact hq.elim
    · exact hq.elim
  · exact hq.elim
theorem SE.list1 (hg : Gl X "list") (hm : X.mg "list" = none) (ha : SA X W [a] ga) (he : starEach [a] X.env = (false, eval a X.env) :: starEach [] X.env := by rfl) : SE X W (.Call (.Name "list" p) [a] [] pos) (fCall rList1 ga) := .callTy call_list_of cp_list1 hg hm (by decide +kernel) ha (he := he) (hpl := rfl)
theorem SE.tup1 (hg : Gl X "tuple") (hm : X.mg "tuple" = none) (ha : SA X W [a] ga) (he : starEach [a] X.env = (false, eval a X.env) :: starEach [] X.env := by rfl) : SE X W (.Call (.Name "tuple" p) [a] [] pos) (fCall rTup1 ga) := .callTy call_tuple_of cp_tup1 hg hm (by decide +kernel) ha (he := he) (hpl := rfl)

/-! ### isinstance(x, T), T a built-in class, x data -/
def tyName : PyData → String
  | .none => "NoneType"
  | .bool _ => "bool"
  | .int _ => "int"
  | .str _ => "str"
  | .list _ => "list"
  | .tuple _ => "tuple"
  | .dict _ => "dict"
def fIsi (T : String) (fa : WE) : WE := fun ρ h Q E => fa ρ h (fun x h1 => match x with
  | .d p => ∃ b, kitB (tyName p) T = some b ∧ Q (.d (.bool b)) h1
  | .loc n => (∃ xs, h1[n]? = some (.lst xs)) ∧ ∃ b, kitB "list" T = some b ∧ Q (.d (.bool b)) h1) E
theorem tyx_lst {K : Frag} {as : List Addr} {H : Hp} {a : Addr} {xs : List V} (h : LstR K as H a xs) : TyX K H (.ref a) (.type "list") := by
  rcases h with ⟨h | ⟨o, h⟩, _⟩ | ⟨o, its, n, e, c, _⟩
  · exact .base (.lst h)
  · exact .base (.frz h)
  · exact .kList e c
theorem tyx_tup {K : Frag} {as : List Addr} {H : Hp} {a : Addr} {xs : List V} (h : TupR K as H a xs) : TyX K H (.ref a) (.type "tuple") := by
  rcases h with ⟨h | ⟨o, h⟩, _⟩ | ⟨o, its, n, e, c, _⟩
  · exact .base (.tup h)
  · exact .fTuple h
  · exact .kTuple e c
theorem tyx_d {K : Frag} {as : List Addr} {H : Hp} {v : V} {p : PyData} (r : Dv K as H v p) : TyX K H v (.type (tyName p)) := by
  cases r with
  | non => exact .base .non
  | bl b => exact .base (.bl b)
  | int i => exact .base (.int i)
  | str x => exact .base (.str x)
  | lst s _ => exact tyx_lst s
  | tup s _ => exact tyx_tup s
theorem SE.isi {T : String} {x : Str} {p1 p2 p3 : Pos} (hg : Gl X "isinstance") (hm : X.mg "isinstance" = none) (hgc : Gl X x) (hmc : X.mg x = none) (hv : bootBuiltins x = some (.type T)) (ha : SE X W a fa)
    (hn : x ≠ "__name__" := by decide) (hdc : (x == ("__debug__" : Str)) = false := by decide)
    (he : starEach [a, .Name x p3] X.env = (false, eval a X.env) :: starEach [.Name x p3] X.env := by rfl) (he2 : starEach [.Name x p3] X.env = (false, eval (.Name x p3) X.env) :: starEach [] X.env := by rfl) (hpl : (backTo pos (starEach [.Name x p3] X.env)).any (·.1) = false := by rfl) :
    SE X W (.Call (.Name "isinstance" p1) [a, .Name x p3] [] pos) (fIsi T fa) := by
  obtain ⟨_, pa, sa⟩ := ha
  refine ⟨_, pe_callB call_isi hg hm (by decide +kernel) (pa_cons pa (pa_cons (pe_bltn (v := .ty T) hgc hmc hv rfl hn hdc) pa_nil he2) he) (he := he) (hpl := hpl), fun σ H as ρ h Q E QV eR hR hq k kx => ?_⟩
  refine sa σ H as ρ h _ E _ eR hR hq (fun y h1 v as1 H1 hq1 l1 r1 rv => ?_) kx
  cases rv with
  | d rv =>
    obtain ⟨b, e, q⟩ := hq1
    exact ⟨v, .ty T, _, _, b, rfl, .ty T, tyx_d rv, kit_ty e, (k.later l1).qd r1 q (.bl b)⟩
  | loc ha =>
    obtain ⟨⟨xs, en⟩, b, e, q⟩ := hq1
    obtain ⟨a2, ha2, ob⟩ := r1.at en
    rw [ha] at ha2
    cases ha2
    obtain ⟨vs, e2, _⟩ := ob
    exact ⟨_, .ty T, _, _, b, rfl, .ty T, .base (.lst e2), kit_ty e, (k.later l1).qd r1 q (.bl b)⟩

/-! ### a op b op c -/
def fChain (r r' : WR2) (fa fb fc : WE) : WE := fun ρ h Q E => fa ρ h (fun x h1 => fb ρ h1 (fun y h2 => r x y h2 (fun z h3 => match z with
  | .d (.bool true) => fc ρ h3 (fun w h4 => r' y w h4 Q) E
  | .d (.bool false) => Q (.d (.bool false)) h3
  | _ => False)) E) E
theorem sp_chain {rV rV' : R2} {r r' : WR2} {ta tb tc : TE} (c1 : Cp2 X rV r) (c2 : Cp2 X rV' r') (ha : SpE X W ta fa) (hb : SpE X W tb fb) (hc : SpE X W tc fc) : SpE X W (tChain rV rV' ta tb tc) (fChain r r' fa fb fc) := by
  intro σ H as ρ h Q E QV eR hR hq k kx
  refine ha σ H as ρ h _ E _ eR hR hq (fun x h1 v as1 H1 hq1 l1 r1 rv => ?_) kx
  refine hb σ H1 as1 ρ h1 _ E _ (eR.later l1) r1 hq1 (fun y h2 w as2 H2 hq2 l2 r2 rw' => ?_) (kx.later l1)
  refine c1 x y h2 _ v w as2 H2 _ (rv.later l2) rw' r2 hq2 (fun z h3 u as3 H3 hq3 l3 r3 ru => ?_)
  split at hq3
  · cases ru with | d ru =>
    cases ru
    refine ⟨true, rfl, ?_⟩
    rw [if_pos rfl]
    refine hc σ H3 as3 ρ h3 _ E _ (((eR.later l1).later l2).later l3) r3 hq3 (fun w4 h4 v4 as4 H4 hq4 l4 r4 rv4 => ?_) (((kx.later l1).later l2).later l3)
    exact c2 y w4 h4 Q w v4 as4 H4 QV ((rw'.later l3).later l4) rv4 r4 hq4 (k.later (((l1.trans l2).trans l3).trans l4))
  · cases ru with | d ru =>
    cases ru
    refine ⟨false, rfl, ?_⟩
    rw [if_neg (by decide)]
    exact (k.later ((l1.trans l2).trans l3)).qd r3 hq3 (.bl false)
  · exact hq3.elim
/-- how a comparison reads: the model's rule and ours -/
def CmpR (X : Cx) (op : CmpOp) (r : WR2) : Prop := ∃ rV, OpR X (compareOp op) rV ∧ Cp2 X rV r
theorem CmpR.lt : CmpR X .Lt (rCmp2 fun i j => decide (i < j)) := ⟨_, op_lt, cp_ints0 fun _ _ _ _ _ => .bl _⟩
theorem CmpR.le : CmpR X .LtE (rCmp2 fun i j => decide (i ≤ j)) := ⟨_, op_le, cp_ints0 fun _ _ _ _ _ => .bl _⟩
theorem CmpR.gt : CmpR X .Gt (rCmp2 fun i j => decide (j < i)) := ⟨_, op_gt, cp_ints0 fun _ _ _ _ _ => .bl _⟩
theorem CmpR.ge : CmpR X .GtE (rCmp2 fun i j => decide (j ≤ i)) := ⟨_, op_ge, cp_ints0 fun _ _ _ _ _ => .bl _⟩
theorem CmpR.eq (hu : X.A.units + 64 < cLine) : CmpR X .Eq rEq2 := ⟨_, op_eq.or (op_eqD hu), cp_eq⟩
theorem CmpR.ne (hu : X.A.units + 64 < cLine) : CmpR X .NotEq rNe2 := ⟨_, op_ne.or (op_neD hu), cp_ne⟩
theorem SE.chain {op op' : CmpOp} {r r' : WR2} (c1 : CmpR X op r) (c2 : CmpR X op' r') (ha : SE X W a fa) (hb : SE X W b fb) (hc : SE X W c fc)
    (hm : lastMarks [op, op'] [b, c] = false := by with_unfolding_all rfl) : SE X W (.Compare a [op, op'] [b, c] pos) (fChain r r' fa fb fc) := by
  obtain ⟨_, pa, sa⟩ := ha
  obtain ⟨_, pb, sb⟩ := hb
  obtain ⟨_, pc, sc⟩ := hc
  obtain ⟨_, o1, c1⟩ := c1
  obtain ⟨_, o2, c2⟩ := c2
  exact ⟨_, pe_chain o1 o2 pa pb pc hm, sp_chain c1 c2 sa sb sc⟩
theorem ST.chain {op op' : CmpOp} {r r' : WR2} (c1 : CmpR X op r) (c2 : CmpR X op' r') (ha : SE X W a fa) (hb : SE X W b fb) (hc : SE X W c fc)
    (hm : lastMarks [op, op'] [b, c] = false := by with_unfolding_all rfl) : ST X W (.Compare a [op, op'] [b, c] pos) (tVal (fChain r r' fa fb fc)) := by
  obtain ⟨_, pa, sa⟩ := ha
  obtain ⟨_, pb, sb⟩ := hb
  obtain ⟨_, pc, sc⟩ := hc
  obtain ⟨_, o1, c1⟩ := c1
  obtain ⟨_, o2, c2⟩ := c2
  exact ⟨_, pt_chain o1 o2 pa pb pc hm, sp_test (sp_chain c1 c2 sa sb sc)⟩

/-! ### x in xs: flat items -/
def flatD : D → Bool
  | .d .none => true
  | .d (.bool _) => true
  | .d (.int _) => true
  | .d (.str _) => true
  | _ => false
def valD : D → V
  | .d (.bool b) => .bl b
  | .d (.int i) => .int i
  | .d (.str x) => .str x
  | _ => .non
theorem rel_flat {K : Frag} {as : List Addr} {H : Hp} {v : V} {x : D} (r : Rel K as H v x) (f : flatD x = true) : v = valD x ∧ flatV v = true := by
  cases r with
  | d r =>
    cases r with
    | non => exact ⟨rfl, rfl⟩
    | bl b => exact ⟨rfl, rfl⟩
    | int i => exact ⟨rfl, rfl⟩
    | str x => exact ⟨rfl, rfl⟩
    | lst _ _ => exact absurd (show false = true from f) Bool.false_ne_true
    | tup _ _ => exact absurd (show false = true from f) Bool.false_ne_true
  | loc _ => exact absurd (show false = true from f) Bool.false_ne_true
theorem relAll_flat {K : Frag} {as : List Addr} {H : Hp} : ∀ {vs : List V} {xs : List D}, RelAll K as H vs xs → xs.all flatD = true → vs = xs.map valD ∧ vs.all flatV = true
  | _, _, .nil, _ => ⟨rfl, rfl⟩
  | _, _, .cons r t, f => by
    rw [List.all_cons, Bool.and_eq_true] at f
    obtain ⟨e1, f1⟩ := rel_flat r f.1
    obtain ⟨e2, f2⟩ := relAll_flat t f.2
    refine ⟨by rw [List.map_cons, ← e1, ← e2], ?_⟩
    rw [List.all_cons, f1, f2]
    rfl
def rInD (neg : Bool) : WR2 := fun x y h Q => match items h y with
  | some ys => flatD x = true ∧ ys.all flatD = true ∧ Q (.d (.bool (if neg then !inV (valD x) (ys.map valD) else inV (valD x) (ys.map valD)))) h
  | none => False
theorem cp_in (neg : Bool) : Cp2 X (rIn X.K neg) (rInD neg) := by
  intro x y h Q v w as H QV rx ry hR hq k
  unfold rInD at hq
  split at hq
  · rename_i ys e
    obtain ⟨a, us, rfl, s, ra⟩ := items_rel ry hR e
    obtain ⟨e1, f1⟩ := rel_flat rx hq.1
    obtain ⟨e2, f2⟩ := relAll_flat ra hq.2.1
    refine ⟨a, us, rfl, s, f1, f2, ?_⟩
    rw [e1, e2]
    exact k.qd hR hq.2.2 (.bl _)
  · exact hq.elim
theorem SE.inD (ha : SE X W a fa) (hb : SE X W b fb) (hm : behindInMarks .In b = false := by rfl) : SE X W (.Compare a [.In] [b] pos) (fBin (rInD false) fa fb) := .cmp op_in_seq (cp_in false) ha hb hm
theorem SE.notInD (ha : SE X W a fa) (hb : SE X W b fb) (hm : behindInMarks .NotIn b = false := by rfl) : SE X W (.Compare a [.NotIn] [b] pos) (fBin (rInD true) fa fb) := .cmp op_notIn_seq (cp_in true) ha hb hm
theorem ST.inD (ha : SE X W a fa) (hb : SE X W b fb) (hm : behindInMarks .In b = false := by rfl) : ST X W (.Compare a [.In] [b] pos) (tVal (fBin (rInD false) fa fb)) := .cmp op_in_seq (cp_in false) ha hb hm
theorem ST.notInD (ha : SE X W a fa) (hb : SE X W b fb) (hm : behindInMarks .NotIn b = false := by rfl) : ST X W (.Compare a [.NotIn] [b] pos) (tVal (fBin (rInD true) fa fb)) := .cmp op_notIn_seq (cp_in true) ha hb hm

/-! ### math.lcm of three -/
end
open PySem.Calls PySem.W in
theorem run_lcm3 (a : Int) (t : Tok) (b : Int) (u : Tok) (c : Int) (u2 : Tok) (hc0 : ¬(max 1 a.natAbs).log2 / 30 + 1 > 450) (hc1 : ¬(max a.natAbs b.natAbs).log2 / 30 + 1 > 450) (hc2 : ¬(max ((Nat.lcm 1 a.natAbs).lcm b.natAbs) c.natAbs).log2 / 30 + 1 > 450)
    (hsz : (((((Nat.lcm 1 a.natAbs).lcm b.natAbs).lcm c.natAbs : Nat) : Int)).natAbs.log2 < bitsLine) :
    Gives (Builtin.«math.lcm» ⟨[.int a t, .int b u, .int c u2], []⟩) (.int (((((Nat.lcm 1 a.natAbs).lcm b.natAbs).lcm c.natAbs : Nat) : Int))) :=
  .of_wp fun M A E s Q h => by
    obtain ⟨hp, g, d, tk, os⟩ := s
    have e1 : Nat.lcm 1 a.natAbs = a.natAbs := by simp [Nat.lcm]
    wp_walk
    rw [if_neg hc2]
    wp_walk
    (try (refine wpAny_ite_false (decide_eq_false (Nat.not_le.mpr hsz)) ?_; wp_walk))
    exact ⟨_, rfl, h⟩
open PySem.Calls PySem.W in
theorem args_lcm3 (a b c : Value) : argsOk "math.lcm" ⟨[a, b, c], []⟩ := by unfold argsOk; kernel_rfl
theorem lcm_lt {a b n m : Nat} (ha : a < 2 ^ n) (hb : b < 2 ^ m) : Nat.lcm a b < 2 ^ (n + m) :=
  Nat.lt_of_le_of_lt (PySem.W.mc_lcm_le a b) (mul_lt_pow ha hb)
theorem roomy {k n : Nat} (hn : 0 < n) (h : k < 2 ^ n) (h2 : n ≤ 13000) : ¬ k.log2 / 30 + 1 > 450 := by
  have := log2_lt hn h
  omega
def rLcm3V : List V → Hp → VK → Prop := fun vs H Q => ∃ a b c : Int, vs = [.int a, .int b, .int c] ∧ (a.natAbs < 2 ^ big ∧ b.natAbs < 2 ^ big ∧ c.natAbs < 2 ^ big) ∧ Q (.int ((Nat.lcm (Nat.lcm a.natAbs b.natAbs) c.natAbs : Nat) : Int)) H
open PySem.Calls PySem.W in
theorem cr_lcm3 {X : Cx} : CallR X (.builtin "math.lcm") rLcm3V := by
  intro pins s σ H vs us Q I r h
  obtain ⟨a, b, c, rfl, ⟨ha, hb, hc⟩, q⟩ := h
  cases r with | cons r1 r =>
  cases r with | cons r2 r =>
  cases r with | cons r3 r =>
  cases r
  rename_i u1 u2 u3
  obtain ⟨t1, rfl⟩ := (show ∃ t, u1 = Value.int a t from r1)
  obtain ⟨t2, rfl⟩ := (show ∃ t, u2 = Value.int b t from r2)
  obtain ⟨t3, rfl⟩ := (show ∃ t, u3 = Value.int c t from r3)
  have e1 : Nat.lcm 1 a.natAbs = a.natAbs := PySem.W.mc_lcm_one _
  have hb0 : 0 < big := by decide
  have l1 := lcm_lt ha hb
  have l2 := lcm_lt l1 hc
  have p1 : (1 : Nat) < 2 ^ big := Nat.one_lt_two_pow (by decide)
  have g := run_lcm3 a t1 b t2 c t3 (roomy hb0 (Nat.max_lt.2 ⟨p1, ha⟩) (by decide)) (roomy hb0 (Nat.max_lt.2 ⟨ha, hb⟩) (by decide))
    (roomy (n := big + big) (by decide) (Nat.max_lt.2 ⟨by rw [e1]; exact l1, Nat.lt_of_lt_of_le hc (Nat.pow_le_pow_right (by decide) (Nat.le_add_right _ _))⟩) (by decide))
    (by rw [e1, Int.natAbs_natCast]; exact Nat.lt_of_lt_of_le (log2_lt (by decide) l2) (by decide))
  rw [e1] at g
  exact call_function_meets PySem.W.MGF.kind_lcm PySem.W.MGF.plain_lcm PySem.W.MGF.entry_lcm (args_lcm3 _ _ _) g.meets ⟨.int _, H, I.tok _, ⟨_, rfl⟩, q⟩
def rLcm3 : WR := fun xs h Q => match xs with
  | [.d (.int a), .d (.int b), .d (.int c)] => (a.natAbs < 2 ^ big ∧ b.natAbs < 2 ^ big ∧ c.natAbs < 2 ^ big) ∧ Q (.d (.int ((Nat.lcm (Nat.lcm a.natAbs b.natAbs) c.natAbs : Nat) : Int))) h
  | _ => False
theorem cp_lcm3 {X : Cx} : CpA X rLcm3V rLcm3 := by
  intro xs h Q vs as H QV rv hR hq k
  unfold rLcm3 at hq
  split at hq
  · obtain ⟨u, v, w, rfl, r1, r2, r3⟩ := relAll3 rv
    rw [rel_int r1, rel_int r2, rel_int r3]
    exact ⟨_, _, _, rfl, hq.1, k.qd hR hq.2 (.int _)⟩
  · exact hq.elim
theorem SE.lcm3 {X : Cx} {W : WX} {a : Expr} {es : List Expr} {ga : WA} {pos p : Pos} (hg : Gl X "lcm") (hm : X.mg "lcm" = some (.builtin "math.lcm")) (ha : SA X W (a :: es) ga) (he : starEach (a :: es) X.env = (false, eval a X.env) :: starEach es X.env := by rfl) (hpl : (backTo pos (starEach es X.env)).any (·.1) = false := by rfl) : SE X W (.Call (.Name "lcm" p) (a :: es) [] pos) (fCall rLcm3 ga) := .callM cr_lcm3 cp_lcm3 hg hm ha (he := he) (hpl := hpl)
theorem i_lcm3 {a b c : Int} {h : Ho} {Q : KD} (hb : a.natAbs < 2 ^ big ∧ b.natAbs < 2 ^ big ∧ c.natAbs < 2 ^ big) (k : Q (.d (.int ((Nat.lcm (Nat.lcm a.natAbs b.natAbs) c.natAbs : Nat) : Int))) h) : rLcm3 [.d (.int a), .d (.int b), .d (.int c)] h Q := ⟨hb, k⟩
/-- no greater than n binary figures -/
def Bd (n : Nat) (i : Int) : Prop := i.natAbs < 2 ^ n
theorem Bd.mono {n m : Nat} {i : Int} (h : Bd n i) (k : n ≤ m) : Bd m i := Nat.lt_of_lt_of_le h (Nat.pow_le_pow_right (by decide) k)
theorem Bd.add {n m : Nat} {i j : Int} (a : Bd n i) (b : Bd m j) : Bd (max n m + 1) (i + j) := by
  have a' := a.mono (Nat.le_max_left n m)
  have b' := b.mono (Nat.le_max_right n m)
  unfold Bd at *
  rw [Nat.pow_succ]
  have := Int.natAbs_add_le i j
  omega
theorem Bd.neg {n : Nat} {i : Int} (a : Bd n i) : Bd n (-i) := by
  unfold Bd at *
  rw [Int.natAbs_neg]; exact a
theorem Bd.sub {n m : Nat} {i j : Int} (a : Bd n i) (b : Bd m j) : Bd (max n m + 1) (i - j) := by
  rw [Int.sub_eq_add_neg]
  exact a.add b.neg
theorem Bd.mul {n m : Nat} {i j : Int} (a : Bd n i) (b : Bd m j) : Bd (n + m) (i * j) := by
  unfold Bd at *
  rw [Int.natAbs_mul]
  exact mul_lt_pow a b
theorem Bd.div {n : Nat} {i : Int} {k : Nat} (a : Bd n i) : Bd n (i.fdiv (k : Int)) := Nat.lt_of_le_of_lt (v_fdiv_le i k) a
theorem cmB {n m : Nat} {i j : Int} (a : Bd n i) (b : Bd m j) (h : n + m < 900000) : CMulW i j := by
  have e1 := log2_lt (Nat.succ_pos n) (a.mono (Nat.le_succ n))
  have e2 := log2_lt (Nat.succ_pos m) (b.mono (Nat.le_succ m))
  unfold CMulW
  omega
end V2
set_option Elab.async false
set_option linter.all false
set_option maxRecDepth 100000
set_option maxHeartbeats 4000000
/-! ## Points as data, and their grid -/
namespace V2
open PySem PySem.Spec PyProof.Rows L2
abbrev Pt := Rat × Rat
abbrev ptD (p : Pt) : PyData := .tuple [fr p.1, fr p.2]
def Lc (pts : List Pt) : Nat := pts.foldl (fun L p => Nat.lcm (Nat.lcm L p.1.den) p.2.den) 1
theorem Lc_snoc (pts : List Pt) (p : Pt) : Lc (pts ++ [p]) = Nat.lcm (Nat.lcm (Lc pts) p.1.den) p.2.den := by
  unfold Lc
  rw [List.foldl_append]
  rfl
theorem Lc_take_succ {pts : List Pt} {k : Nat} {p : Pt} (h : pts[k]? = some p) : Lc (pts.take (k + 1)) = Nat.lcm (Nat.lcm (Lc (pts.take k)) p.1.den) p.2.den := by
  rw [List.take_succ, h]
  exact Lc_snoc _ _
theorem Lc_ne (pts : List Pt) : Lc pts ≠ 0 := by
  have aux : ∀ (n : Nat) (qs : List Pt), qs.length = n → Lc qs ≠ 0 := by
    intro n
    induction n with
    | zero => intro qs e; cases qs with
      | nil => decide
      | cons a l => cases e
    | succ n ih =>
      intro qs e
      rcases List.eq_nil_or_concat qs with rfl | ⟨l, c, rfl⟩
      · cases e
      · rw [List.concat_eq_append, Lc_snoc]
        have h1 := ih l (by simpa using e)
        exact Nat.lcm_ne_zero (Nat.lcm_ne_zero h1 c.1.den_nz) c.2.den_nz
  exact aux _ pts rfl
theorem Lc_step_dvd {pts : List Pt} {k : Nat} : Lc (pts.take k) ∣ Lc (pts.take (k + 1)) := by
  cases h : pts[k]? with
  | none => rw [List.take_succ, h]; simp
  | some p =>
    rw [Lc_take_succ h]
    exact Nat.dvd_trans (Nat.dvd_lcm_left _ _) (Nat.dvd_lcm_left _ _)
theorem Lc_take_dvd {pts : List Pt} {k : Nat} : ∀ j, Lc (pts.take k) ∣ Lc (pts.take (k + j))
  | 0 => Nat.dvd_refl _
  | j + 1 => Nat.dvd_trans (Lc_take_dvd j) Lc_step_dvd
theorem Lc_dvd_all {pts : List Pt} {k : Nat} : Lc (pts.take k) ∣ Lc pts := by
  by_cases h : k ≤ pts.length
  · have := Lc_take_dvd (pts := pts) (k := k) (pts.length - k)
    rw [Nat.add_sub_cancel' h, List.take_length] at this
    exact this
  · rw [List.take_of_length_le (by omega)]
    exact Nat.dvd_refl _
theorem Lc_den {pts : List Pt} {p : Pt} (h : p ∈ pts) : p.1.den ∣ Lc pts ∧ p.2.den ∣ Lc pts := by
  obtain ⟨k, hk, e⟩ := List.mem_iff_getElem.1 h
  have e : pts[k]? = some p := by rw [List.getElem?_eq_getElem hk, e]
  have d := Lc_dvd_all (pts := pts) (k := k + 1)
  rw [Lc_take_succ e] at d
  exact ⟨Nat.dvd_trans (Nat.dvd_trans (Nat.dvd_lcm_right _ _) (Nat.dvd_lcm_left _ _)) d, Nat.dvd_trans (Nat.dvd_lcm_right _ _) d⟩
theorem Lc_least {b : Nat} (pts : List Pt) (h : ∀ p ∈ pts, p.1.den ∣ b ∧ p.2.den ∣ b) : Lc pts ∣ b := by
  have aux : ∀ k, Lc (pts.take k) ∣ b := by
    intro k
    induction k with
    | zero => exact ⟨b, by show b = Lc [] * b; rw [show Lc [] = 1 from rfl, Nat.one_mul]⟩
    | succ k ih =>
      cases e : pts[k]? with
      | none => rw [List.take_succ, e]; simpa using ih
      | some p =>
        rw [Lc_take_succ e]
        have m : p ∈ pts := List.mem_of_getElem? e
        exact Nat.lcm_dvd (Nat.lcm_dvd ih (h p m).1) (h p m).2
  have := aux pts.length
  rwa [List.take_length] at this
/-- a fraction on the grid of bottom L -/
def gr (L : Nat) (q : Rat) : Int := q.num * ((L : Int).fdiv q.den)
theorem gr_mul {L : Nat} {q : Rat} (h : q.den ∣ L) {x : Int} {b : Nat} (hb : b ≠ 0) (e : q = mkRat x b) : gr L q * b = x * L := by
  obtain ⟨m, rfl⟩ := h
  have hq := Nat.pos_of_ne_zero q.den_nz
  have e1 : ((q.den * m : Nat) : Int).fdiv q.den = m := by
    rw [fdiv_nat, Int.natCast_mul, Int.mul_ediv_cancel_left _ (by omega)]
  unfold gr
  rw [e1]
  have e2 : mkRat q.num q.den = mkRat x b := by rw [Rat.mkRat_self]; exact e
  rw [Rat.mkRat_eq_iff q.den_nz hb] at e2
  rw [Int.natCast_mul]
  have : q.num * ↑m * ↑b = (q.num * b) * m := by rw [Int.mul_assoc, Int.mul_comm (m : Int), ← Int.mul_assoc]
  rw [this, e2, Int.mul_assoc]
abbrev grD (L : Nat) (p : Pt) : PyData := .tuple [.int (gr L p.1), .int (gr L p.2)]
end V2
set_option Elab.async false
set_option linter.all false
set_option maxRecDepth 100000
set_option maxHeartbeats 4000000
/-! ## Lists that are places beside the drawn numbers -/
namespace V2
open PySem PySem.Spec PyProof.Rows L2
section
variable {rest h : Ho}
theorem Deal.len (d : Deal rest h) : h.length = rest.length + 2 := by
  obtain ⟨cs, m, rfl, _⟩ := d.is
  rfl
theorem Deal.get (d : Deal rest h) (i : Nat) : h[i + 2]? = rest[i]? := by
  obtain ⟨cs, m, rfl, _⟩ := d.is
  rfl
theorem Deal.snoc (d : Deal rest h) (o : O) : Deal (rest ++ [o]) (h ++ [o]) := by
  obtain ⟨cs, m, rfl, q⟩ := d.is
  exact ⟨cs, m, rfl, q⟩
theorem Deal.put (d : Deal rest h) (i : Nat) (o : O) : Deal (rest.set i o) (h.set (i + 2) o) := by
  obtain ⟨cs, m, rfl, q⟩ := d.is
  exact ⟨cs, m, rfl, q⟩
theorem Deal.at' (d : Deal rest h) {i : Nat} {o : O} (e : rest[i]? = some o) : h[i + 2]? = some o := by rw [d.get, e]
theorem set_get {α : Type} {xs : List α} {i : Nat} {a b : α} (e : xs[i]? = some a) : (xs.set i b)[i]? = some b := by
  rw [List.getElem?_set_self (List.getElem?_eq_some_iff.1 e).1]
theorem Deal.items (d : Deal rest h) {i : Nat} {xs : List D} (e : rest[i]? = some (.lst xs)) : V2.items h (.loc (i + 2)) = some xs := by
  show (match h[i + 2]? with
    | some (.lst xs) => some xs
    | none => none) = some xs
  rw [d.get, e]
end
section
variable {ρ : En} {h h2 h3 : Ho} {wg : WG} {tt : WT} {te : WE} {st : Ho → Prop} {n : Nat} {QH : Ho → Prop} {xs : List D} {own : List Nat} {wi : WI} {Q : KD} {E : XD}
def accK (st : Ho → Prop) (n : Nat) (G : Ho → Prop) : KD := fun y h2 => match h2[n]? with
  | some (.lst acc) => acc.length < sizeLine ∧ st (h2.set n (.lst (acc ++ [y]))) ∧ G (h2.set n (.lst (acc ++ [y])))
  | none => False
theorem accK_of {G : Ho → Prop} {acc : List D} {y : D} (e : h2[n]? = some (.lst acc)) (l : acc.length < sizeLine) (hst : st (h2.set n (.lst (acc ++ [y])))) (g : G (h2.set n (.lst (acc ++ [y])))) : accK st n G y h2 := by
  simp only [accK, e]
  exact ⟨l, hst, g⟩
theorem lcg_ind (I : Nat → Ho → Prop)
    (hs : ∀ k x h (G : Ho → Prop), xs[k]? = some x → I k h → (∀ h', I (k + 1) h' → G h') → ∃ ρ1, wg x h ρ = some ρ1 ∧ tt ρ1 h (fun b h1 => if b = true then te ρ1 h1 (accK st n G) noX else st h1 ∧ G h1) noX)
    (he : ∀ h, I xs.length h → QH h) (h0 : I 0 h) : lcGo wg tt te st n ρ QH xs h := by
  have aux : ∀ (ys : List D) (k : Nat), (∀ j, ys[j]? = xs[k + j]?) → k + ys.length = xs.length → ∀ h, I k h → lcGo wg tt te st n ρ QH ys h := by
    intro ys
    induction ys with
    | nil => intro k _ hl h hi; exact he h (by rw [← hl]; simpa using hi)
    | cons y ys ih =>
      intro k hj hl h hi
      have ihk := ih (k + 1) (fun j => by rw [Nat.add_assoc, Nat.add_comm 1 j, ← hj (j + 1)]; rfl) (by rw [← hl, List.length_cons]; omega)
      obtain ⟨ρ1, e1, e2⟩ := hs k y h (fun h' => lcGo wg tt te st n ρ QH ys h') (by rw [← Nat.add_zero k, ← hj 0]; rfl) hi ihk
      unfold lcGo
      rw [e1]
      exact e2
  exact aux xs 0 (fun j => by rw [Nat.zero_add]) (by simp) h h0
theorem i_tTrue {P : Bool → Ho → Prop} (k : P true h) : tTrue ρ h P E := k
theorem i_lcl (k : wi ρ h (fun xs st h1 => st (h1 ++ [.lst []]) ∧ lcGo wg tt te st h1.length (wipeD ρ own) (fun h2 => Q (.loc h1.length) h2) xs (h1 ++ [.lst []])) E) : fLcL wi wg tt te own ρ h Q E := k
theorem i_cut {f : WS} {nx : En → Ho → Prop} {rt : KD} {bk ct : En → Ho → Prop} {ex : Ex → En → Ho → Prop} (S : En → Ho → Prop) (tail : ∀ ρ h, S ρ h → nx ρ h) (k : (∀ ρ h, S ρ h → nx ρ h) → f ρ h ⟨nx, rt, bk, ct, ex⟩) : f ρ h ⟨nx, rt, bk, ct, ex⟩ := k tail
end
theorem i_pk3 {x y z : D} {P : List D → Prop} (k : P [z, y, x]) : [x, y, z].length = 3 ∧ ∃ ys, V2.pick [2, 1, 0] [x, y, z] = ys ∧ P ys := ⟨rfl, _, rfl, k⟩
theorem i_pk4 {x y z w : D} {P : List D → Prop} (k : P [w, z, y, x]) : [x, y, z, w].length = 4 ∧ ∃ ys, V2.pick [3, 2, 1, 0] [x, y, z, w] = ys ∧ P ys := ⟨rfl, _, rfl, k⟩
/-- data that can be shown, of some length -/
def Sh (k : Nat) (p : PyData) : Prop := p.showable = true ∧ p.depth ≤ k ∧ PyData.leavesShort 1001 p = true ∧ p.bulk ≤ 4 ^ k
theorem Sh.len {k : Nat} {p : PyData} (s : Sh k p) (hk : k ≤ 5) : p.showable = true ∧ p.depth < 60 ∧ p.shown.length ≤ sizeLine := by
  refine ⟨s.1, by have := s.2.1; omega, ?_⟩
  have h1 := PyData.shown_le_bulk 1001 (by decide) p s.2.2.1
  have h2 := s.2.2.2
  have h3 : 4 ^ k ≤ 4 ^ 5 := Nat.pow_le_pow_right (by decide) hk
  have : sizeLine = 2 ^ 24 := rfl
  have h4 : (1001 + 2) * p.bulk ≤ (1001 + 2) * 4 ^ 5 := Nat.mul_le_mul_left _ (Nat.le_trans h2 h3)
  have : (4 : Nat) ^ 5 = 1024 := by decide
  omega
theorem pt_sh {x y : Rat} (sx : Sz 1000 x) (sy : Sz 1000 y) : Sh 2 (.tuple [fr x, fr y]) := by
  have a1 := fr_showable (by decide) (by decide) sx
  have a2 := fr_showable (by decide) (by decide) sy
  have b1 := fr_leaves (by decide) sx
  have b2 := fr_leaves (by decide) sy
  refine ⟨?_, by show 2 ≤ 2; decide, ?_, by show 6 ≤ 16; decide⟩
  · simp only [PyData.showable, PyData.showableAll, Bool.and_true, Bool.and_eq_true] at *
    exact ⟨‹_›, ‹_›⟩
  · simp only [PyData.leavesShort, PyData.leavesShortAll, Bool.and_true, Bool.and_eq_true] at *
    exact ⟨‹_›, ‹_›⟩
theorem four_sh {p q r s : PyData} (hp : Sh 2 p) (hq : Sh 2 q) (hr : Sh 2 r) (hs : Sh 2 s) : Sh 4 (.list [p, q, r, s]) := by
  refine ⟨?_, ?_, ?_, ?_⟩
  · simp only [PyData.showable, PyData.showableAll, Bool.and_true, hp.1, hq.1, hr.1, hs.1]
  · simp only [PyData.depth, PyData.depthAll]
    have := hp.2.1
    have := hq.2.1
    have := hr.2.1
    have := hs.2.1
    omega
  · simp only [PyData.leavesShort, PyData.leavesShortAll, Bool.and_true, hp.2.2.1, hq.2.2.1, hr.2.2.1, hs.2.2.1]
  · simp only [PyData.bulk, PyData.bulkAll]
    have := hp.2.2.2
    have := hq.2.2.2
    have := hr.2.2.2
    have := hs.2.2.2
    have : (4 : Nat) ^ 4 = 256 := by decide
    omega
theorem int_sh {i : Int} (h : i.natAbs < 2 ^ 1000) : Sh 1 (.int i) := by
  have h1 := log2_lt (by decide : 0 < 1000) h
  refine ⟨?_, by show 0 ≤ 1; decide, ?_, by show 0 ≤ 4; decide⟩
  · simp only [PyData.showable, decide_eq_true_eq]
    omega
  · simp only [PyData.leavesShort, decide_eq_true_eq]
    exact shown_int_len (by decide) h
theorem i_nept {x y x' y' : Rat} {h : Ho} {Q : KD} (e1 : x = x') (e2 : y = y') (k : Q (.d (.bool false)) h) : rNe2 (.d (.tuple [fr x, fr y])) (.d (.tuple [fr x', fr y'])) h Q := by
  subst e1
  subst e2
  refine i_ned rfl rfl rfl rfl ni_tup ?_
  have e : PyData.eqv (.tuple [fr x, fr y]) (.tuple [fr x, fr y]) = true := by simp [PyData.eqv, PyData.eqvAll]
  rw [e]
  exact k
end V2
set_option Elab.async false
set_option linter.all false
set_option maxRecDepth 100000
set_option maxHeartbeats 4000000
/-! ## More steps through a reading -/
namespace V2
open PySem PySem.Spec PyProof.Rows L2
section
variable {ρ : En} {h : Ho} {Q : KD} {E : XD} {fa fb fc : WE} {x : D} {i j : Int}
theorem i_chain {r r' : WR2} (k : fa ρ h (fun x h1 => fb ρ h1 (fun y h2 => r x y h2 (fun z h3 => ∃ b, z = .d (.bool b) ∧ if b = true then fc ρ h3 (fun w h4 => r' y w h4 Q) E else Q (.d (.bool false)) h3)) E) E) : fChain r r' fa fb fc ρ h Q E := by
  have e : ∀ y : D, (fun (z : D) (h3 : Ho) => ∃ b, z = .d (.bool b) ∧ if b = true then fc ρ h3 (fun w h4 => r' y w h4 Q) E else Q (.d (.bool false)) h3) = (fun z h3 => match z with
      | .d (.bool true) => fc ρ h3 (fun w h4 => r' y w h4 Q) E
      | .d (.bool false) => Q (.d (.bool false)) h3
      | _ => False) := by
    intro y
    funext z h3
    apply propext
    constructor
    · rintro ⟨b, rfl, q⟩
      cases b with
      | true => simpa using q
      | false => simpa using q
    · split
      · exact fun q => ⟨true, rfl, by simpa using q⟩
      · exact fun q => ⟨false, rfl, by simpa using q⟩
      · exact False.elim
  simp only [e] at k
  exact k
def mx (i j : Int) : Int := if j > i then j else i
def mn (i j : Int) : Int := if j < i then j else i
theorem i_max2 (k : Q (.d (.int (mx i j))) h) : rMax2 [.d (.int i), .d (.int j)] h Q := k
theorem i_min2 (k : Q (.d (.int (mn i j))) h) : rMin2 [.d (.int i), .d (.int j)] h Q := k
theorem i_isN (k : Q (.d (.bool (isNon x))) h) : rIsN2 x (.d .none) h Q := k
theorem i_notN (k : Q (.d (.bool (!isNon x))) h) : rNotN2 x (.d .none) h Q := k
theorem bd_mx {n m : Nat} {i j : Int} (a : Bd n i) (b : Bd m j) : Bd (max n m) (mx i j) := by
  unfold mx
  split
  · exact b.mono (Nat.le_max_right _ _)
  · exact a.mono (Nat.le_max_left _ _)
theorem bool_sh (b : Bool) : Sh 1 (.bool b) := by
  refine ⟨rfl, by show 0 ≤ 1; decide, ?_, by show 0 ≤ 4; decide⟩
  cases b <;> rfl
theorem i_neG {p q : PyData} (e : p = q) (hs : SeqAt.shaped p = true) (k : Q (.d (.bool false)) h) : rNe2 (.d p) (.d q) h Q := by
  subst e
  have hr : PyData.eqv p p = true := SeqAt.eqv_refl p (by unfold SeqAt.shaped at hs; exact (Bool.and_eq_true_iff.1 hs).1)
  unfold rNe2
  split
  · rename_i i j e1 e2
    cases e1; cases e2
    rw [decide_eq_true rfl]; exact k
  · rename_i i j e1 e2
    cases e1; cases e2
    rw [decide_eq_true rfl]; exact k
  · show (match datum h (.d p), datum h (.d p) with
      | some p, some q => SeqAt.shaped p = true ∧ SeqAt.shaped q = true ∧ Q (.d (.bool (!PyData.eqv p q))) h
      | _, _ => False)
    refine ⟨hs, hs, ?_⟩
    rw [hr]
    exact k
theorem i_eqG {p q : PyData} (e : p = q) (hs : SeqAt.shaped p = true) (k : Q (.d (.bool true)) h) : rEq2 (.d p) (.d q) h Q := by
  subst e
  have hr : PyData.eqv p p = true := SeqAt.eqv_refl p (by unfold SeqAt.shaped at hs; exact (Bool.and_eq_true_iff.1 hs).1)
  unfold rEq2
  split
  · rename_i i j e1 e2
    cases e1; cases e2
    rw [decide_eq_true rfl]; exact k
  · rename_i i j e1 e2
    cases e1; cases e2
    rw [decide_eq_true rfl]; exact k
  · show (match datum h (.d p), datum h (.d p) with
      | some p, some q => SeqAt.shaped p = true ∧ SeqAt.shaped q = true ∧ Q (.d (.bool (PyData.eqv p q))) h
      | _, _ => False)
    refine ⟨hs, hs, ?_⟩
    rw [hr]
    exact k
theorem none_sh : Sh 1 .none := ⟨rfl, by show 0 ≤ 1; decide, rfl, by show 0 ≤ 4; decide⟩
end
end V2
set_option Elab.async false
set_option linter.all false
set_option maxRecDepth 100000
set_option maxHeartbeats 4000000
/-! ## What comes behind a statement, by a name -/
namespace V2
open PySem PySem.Spec PyProof.Rows L2
def Go (nx : En → Ho → Prop) (g : WS) (D : Nx) : Prop := ∀ ρ h, g ρ h D → nx ρ h
section
variable {ρ : En} {h : Ho} {nx : En → Ho → Prop} {rt : KD} {bk ct : En → Ho → Prop} {ex : Ex → En → Ho → Prop} {f g : WS} {D : Nx}
theorem i_seqg (k : ∀ nx', Go nx' g ⟨nx, rt, bk, ct, ex⟩ → f ρ h ⟨nx', rt, bk, ct, ex⟩) : sSeq f g ρ h ⟨nx, rt, bk, ct, ex⟩ := k _ fun _ _ q => q
theorem i_go (a : Go nx g D) (k : g ρ h D) : nx ρ h := a _ _ k
theorem i_nesr {i : Str} {Q : KD} (k : Q (.d (.bool false)) h) : rNe2 (.d (.str i)) (.d (.str i)) h Q := by
  refine i_nes ?_
  rw [decide_eq_true rfl]
  exact k
end
end V2
set_option Elab.async false
set_option linter.all false
set_option maxRecDepth 100000
set_option maxHeartbeats 4000000
/-! ## reversed(x) -/
namespace V2
open PySem PySem.Spec PyProof.Rows L2
open PySem.W (Frag)
def iRevG (fa : WE) : WI := fun ρ h Q E => fa ρ h (fun x h1 => match litems h1 x with
  | some xs => Q xs.reverse (stay x xs) h1
  | none => False) E
theorem rev_at {α : Type} {xs : List α} {i : Nat} (h : i < xs.length) : xs.reverse[i]? = xs[xs.length - 1 - i]? := List.getElem?_reverse h
/-- a walk from the end, over the same list at each turn -/
theorem walks_back {K : Frag} {as1 : List Addr} {H1 : Hp} {xs : List D} {st : Ho → Prop} {b : Addr} {n : Nat} (hn : n = xs.length)
    (key : ∀ as2 H2 h2, Later as1 H1 as2 H2 → HeapR K as2 H2 h2 → st h2 → ∃ us, SqL K H2 b us ∧ RelAll K as2 H2 us xs) : Walks K as1 H1 xs.reverse st (Itv K b n) := by
  subst hn
  intro i as2 H2 h2 l r2 w
  obtain ⟨us, q1, q2⟩ := key as2 H2 h2 l r2 w
  have hl := q2.length
  refine ⟨fun hi => ?_, fun hi => by rw [List.length_reverse] at hi; exact Nat.le_of_eq hi.symm, fun v H3 y z ez => ?_⟩
  · rw [List.length_reverse] at hi
    exact ⟨hi, us, us[xs.length - 1 - i]'(by omega), q1, List.getElem?_eq_getElem _⟩
  · have hi : i < xs.length := by
      have := (List.getElem?_eq_some_iff.1 ez).1
      rwa [List.length_reverse] at this
    rw [rev_at hi] at ez
    obtain ⟨rfl, y⟩ := y
    obtain ⟨u, eu, ru⟩ := q2.get ez
    have := y us q1
    rw [eu] at this
    cases this
    exact ⟨Later.refl _ _, r2, ru⟩
section
variable {X : Cx} {W : WX} {tg a : Expr} {fa : WE} {pos p : Pos}
/-- reversed(a list) -/
theorem SI.rev (hg : Gl X "reversed") (hm : X.mg "reversed" = none) (ha : SE X W a fa) (hs : starEach [a] X.env = (false, eval a X.env) :: starEach [] X.env := by rfl) :
    SI X W tg (.Call (.Name "reversed" p) [a] [] pos) (iRevG fa) := by
  obtain ⟨_, pa, sa⟩ := ha
  refine ⟨_, RT.pi_revA hg hm pa hs, fun σ H as ρ h Q E R eR hR hq k kx => ?_⟩
  refine sa σ H as ρ h _ E _ eR hR hq (fun x h1 v as1 H1 hq1 l1 r1 rv => ?_) kx
  split at hq1
  · rename_i xs e
    have st : stay x xs h1 := by
      cases x with
      | d p => trivial
      | loc n =>
        simp only [litems] at e
        split at e
        · rename_i ys en
          cases e
          exact en
        · cases e
    obtain ⟨b, vs, rfl, s, ra⟩ := litems_rel rv r1 e
    have key : ∀ as2 H2 h2, Later as1 H1 as2 H2 → HeapR X.K as2 H2 h2 → stay x xs h2 → ∃ us, SqL X.K H2 b us ∧ RelAll X.K as2 H2 us xs := by
      intro as2 H2 h2 l r2 w
      cases rv with
      | d r =>
        cases r with
        | lst sx ax =>
          simp only [litems, Option.some.injEq] at e
          subst e
          exact ⟨_, (sx.later l).sq, (ax.later l).rel⟩
        | tup sx ax => simp [litems] at e
      | @loc _ n hb =>
        have st' : h2[n]? = some (O.lst xs) := w
        obtain ⟨c, hc, us, o1, o2⟩ := r2.at st'
        rw [l.at hb] at hc
        cases hc
        exact ⟨us, SqL.of o1, o2⟩
    obtain ⟨us, q1, q2⟩ := key as1 H1 h1 (Later.refl _ _) r1 st
    exact ⟨b, us, rfl, .inl ⟨q1, k _ _ h1 as1 H1 _ hq1 st l1 r1 (walks_back q2.length key)⟩⟩
  · exact hq1.elim
end
section
variable {ρ : En} {h : Ho} {x : D} {E : XD}
theorem i_irev {QI : List D → (Ho → Prop) → Ho → Prop} {xs : List D} {n : Nat} (e : GetAt n ρ x) (ei : litems h x = some xs) (k : QI xs.reverse (stay x xs) h) : iRevG (fVar n) ρ h QI E := by
  refine i_var e ?_
  simp only [ei]
  exact k
end
end V2
set_option Elab.async false
set_option linter.all false
set_option maxRecDepth 100000
set_option maxHeartbeats 4000000
/-! ## a tuple's slice with a step -/
namespace V2
open PySem PySem.Spec PyProof.Rows L2
open PySem.W (Frag)
/-- what xs[lo:hi:c] picks -/
def stepL {α : Type} (xs : List α) (lo hi : Option Int) (c : Int) : List α :=
  (List.range (Builtin.Slice.slicePlaces (Builtin.Slice.sliceAdjust lo hi c xs.length).1 (Builtin.Slice.sliceAdjust lo hi c xs.length).2 c)).filterMap fun (k : Nat) => xs[((Builtin.Slice.sliceAdjust lo hi c xs.length).1 + (k : Int) * c).toNat]?
section
variable {prog : Program} {w : World} {A : Around} {E : Value → Shared → Prop} {s0 : Shared}
theorem applied_step {q : Addr} {v1 v2 v3 : Value} {o1 o2 : Option Int} {c : Int} {n : Nat} {Z : Int × Int × Nat → Shared → Prop} (hq : s0.heap.IsSliceOf q v1 v2 v3) (p1 : IsPart v1 o1) (p2 : IsPart v2 o2) (p3 : IsPart v3 (some c)) (hc : c ≠ 0)
    (hz : Z ((Builtin.Slice.sliceAdjust o1 o2 c n).1, c, Builtin.Slice.slicePlaces (Builtin.Slice.sliceAdjust o1 o2 c n).1 (Builtin.Slice.sliceAdjust o1 o2 c n).2 c) s0) :
    wpAny (model prog w) A (Builtin.Slice.sliceApplied (.ref q) (pure (n : Int))) Z E s0 := by
  obtain ⟨ob, e1, e2, e3⟩ := id hq
  unfold Builtin.Slice.sliceApplied; unfold Builtin.Slice.sliceFields
  refine wpAny_bind (wpAny_bind (wpAny_field e1 e3 (x := v1) rfl (wpAny_bind (wpAny_field e1 e3 (x := v2) rfl (wpAny_bind (wpAny_field e1 e3 (x := v3) rfl (wpAny_pure ?_)))))))
  refine wpAny_bind (HT.slicePart_ p3 ?_)
  have n0 : ¬ ((c == 0) = true) := fun z => hc (eq_of_beq z)
  show wpAny _ _ (if (c == 0) = true then _ else _) _ _ s0
  rw [if_neg n0]
  exact wpAny_bind (HT.slicePart_ p1 (wpAny_bind (HT.slicePart_ p2 (wpAny_bind (wpAny_pure (wpAny_pure hz))))))
theorem getTup_step {t0 q : Addr} {zs : Array Value} {v1 v2 v3 : Value} {o1 o2 : Option Int} {c : Int} {Z : Value → Shared → Prop} (h0 : IsTup s0.heap t0 zs) (hq : s0.heap.IsSliceOf q v1 v2 v3) (p1 : IsPart v1 o1) (p2 : IsPart v2 o2) (p3 : IsPart v3 (some c)) (hc : c ≠ 0) (hc1 : c ≠ 1)
    (hl : (stepL zs.toList o1 o2 c).length ≤ sizeLine)
    (hz : Z (.ref s0.heap.objs.size) { s0 with heap := s0.heap.push { cls := .type "tuple", data := .seq (stepL zs.toList o1 o2 c).toArray } }) : wpAny (model prog w) A (getItem (.ref t0) (.ref q)) Z E s0 := by
  have tS : s0.TypeIs (.ref q) "slice" := by
    obtain ⟨ob, e1, e2, e3⟩ := id hq
    exact ⟨ob, e1, e2⟩
  have big : sizeOk (.seq (stepL zs.toList o1 o2 c).toArray) := by
    show (stepL zs.toList o1 o2 c).toArray.size ≤ sizeLine
    rw [List.size_toArray]
    exact hl
  unfold getItem; (try with_reducible refine wpAny_holding ?_); (first | refine wpAny_bind (wpAny_pure ?_) | skip)
  refine wpAny_bind (wpAny_sequenceKey h0.typeIs (by decide) ?_)
  refine wpAny_bind (wpAny_callSpecial?_slot (name := Str.ofString "__getitem__") h0.typeIs PyProof.Rows.slot_tuple_getitem (wpAny_call_entry PyProof.Rows.slot_tuple_getitem h0.typeIs entry_tuple_getitem ?_ (args_tuple_getitem _ _)))
  show wpAny _ _ (Builtin.Tuple.tupleItemsOf (.ref t0) >>= _) _ _ s0
  refine wpAny_bind (tupleItemsOf_ h0 (wpAny_bind (wpAny_typeOf tS ?_)))
  rw [if_pos (by decide)]
  refine wpAny_bind (applied_step hq p1 p2 p3 hc ?_)
  have n1 : (c == 1) = false := by
    rw [beq_eq_false_iff_ne]
    exact hc1
  have e : ((List.range (Builtin.Slice.slicePlaces (Builtin.Slice.sliceAdjust o1 o2 c (zs.size : Nat)).1 (Builtin.Slice.sliceAdjust o1 o2 c (zs.size : Nat)).2 c)).filterMap fun (k : Nat) => zs[((Builtin.Slice.sliceAdjust o1 o2 c (zs.size : Nat)).1 + (k : Int) * c).toNat]?).toArray = (stepL zs.toList o1 o2 c).toArray := by
    unfold stepL
    rw [Array.length_toList]
    congr 2
    funext k
    exact (Array.getElem?_toList ..).symm
  show wpAny _ _ (if (_ == 0 && c == 1 && _ == zs.size) = true then _ else _) _ _ s0
  rw [n1, Bool.and_false, Bool.false_and, if_neg Bool.false_ne_true, e]
  first
    | exact wpAny_bind (m := Builtin.Tuple.tupleExact _) (wpAny_newObj_type (wpAny_pure ⟨_, rfl, wpAny_pure hz⟩) big)
    | exact wpAny_bind (m := Builtin.Tuple.tupleExact _) (wpAny_newObj_type (wpAny_bind (wpAny_pure (wpAny_pure ⟨_, rfl, wpAny_pure hz⟩))) big)
    | exact wpAny_bind (wpAny_bind (m := Builtin.Tuple.tupleExact _) (wpAny_newObj_type (wpAny_pure (wpAny_pure ⟨_, rfl, wpAny_pure hz⟩)) big))
    | exact wpAny_bind (wpAny_bind (m := Builtin.Tuple.tupleExact _) (wpAny_newObj_type (wpAny_pure ⟨_, rfl, wpAny_pure hz⟩) big))
end
theorem vals_pickF {xs : List V} {us : List Value} (r : Vals xs us) (f : Nat → Nat) : ∀ ks : List Nat, Vals (ks.filterMap fun k => xs[f k]?) (ks.filterMap fun k => us[f k]?)
  | [] => .nil
  | k :: ks => by
    have ih := vals_pickF r f ks
    rw [List.filterMap_cons, List.filterMap_cons]
    by_cases hk : f k < xs.length
    · have e := List.getElem?_eq_getElem hk
      obtain ⟨u, e2, ru⟩ := r.get e
      rw [e, e2]
      exact .cons ru ih
    · have e : xs[f k]? = none := List.getElem?_eq_none (by omega)
      have e2 : us[f k]? = none := List.getElem?_eq_none (by rw [← r.length]; omega)
      rw [e, e2]
      exact ih
theorem dv_pickF {K : Frag} {as : List Addr} {H : Hp} {vs : List V} {ps : List PyData} (r : DvAll K as H vs ps) (f : Nat → Nat) : ∀ ks : List Nat, DvAll K as H (ks.filterMap fun k => vs[f k]?) (ks.filterMap fun k => ps[f k]?)
  | [] => .nil
  | k :: ks => by
    have ih := dv_pickF r f ks
    rw [List.filterMap_cons, List.filterMap_cons]
    by_cases hk : f k < ps.length
    · have e := List.getElem?_eq_getElem hk
      obtain ⟨u, e2, ru⟩ := r.get e
      rw [e, e2]
      exact .cons ru ih
    · have e : ps[f k]? = none := List.getElem?_eq_none (by omega)
      have e2 : vs[f k]? = none := List.getElem?_eq_none (by rw [r.length]; omega)
      rw [e, e2]
      exact ih
theorem vals_step {xs : List V} {us : List Value} (r : Vals xs us) (lo hi : Option Int) (c : Int) : Vals (stepL xs lo hi c) (stepL us lo hi c) := by
  unfold stepL
  rw [r.length]
  exact vals_pickF r _ _
theorem dv_step {K : Frag} {as : List Addr} {H : Hp} {vs : List V} {ps : List PyData} (r : DvAll K as H vs ps) (lo hi : Option Int) (c : Int) : DvAll K as H (stepL vs lo hi c) (stepL ps lo hi c) := by
  unfold stepL
  rw [r.length]
  exact dv_pickF r _ _
/-- a step that is told in the text -/
def StepC (X : Cx) (e : Expr) (c : Int) : Prop := ∃ t, PO X (some e) t ∧ ∀ σ H (Q : Option Int → Hp → Prop), Q (some c) H → t σ H Q
theorem stepc_int {X : Cx} {j : Int} {k : Nat} {p1 : Pos} : StepC X (.Constant (.int j) k p1) j := ⟨_, po_some pe_int, fun _ _ _ q => ⟨j, rfl, q⟩⟩
theorem stepc_neg {X : Cx} {j : Int} {k : Nat} {p1 p2 : Pos} : StepC X (.UnaryOp .USub (.Constant (.int j) k p1) p2) (-j) := ⟨_, po_some (pe_un un_neg pe_int), fun _ _ _ q => ⟨j, rfl, -j, rfl, q⟩⟩
def tSlS (K : Frag) (te : TE) (tl th : TO) (c : Int) : TE := fun σ H Q => te σ H fun x H1 => tl σ H1 fun l H2 => th σ H2 fun u H3 => ∃ a xs, x = .ref a ∧ SqT K H3 a xs ∧ (stepL xs l u c).length ≤ sizeLine ∧ ∀ p, H3 p = none → Q (.ref p) (upd H3 p (.tup (stepL xs l u c)))
theorem pe_slS {X : Cx} {e se : Expr} {te : TE} {lo hi : Option Expr} {tl th : TO} {pos p2 : Pos} {c : Int} (c0 : c ≠ 0) (c1 : c ≠ 1) (he : PE X e te) (hl : PO X lo tl) (hu : PO X hi th) (hs : StepC X se c) :
    PE X (.Subscript e (.Slice lo hi (some se) p2) pos) (tSlS X.K te tl th c) := by
  obtain ⟨ts, hs, hts⟩ := hs
  refine ⟨fun pn a0 sg G0 Q0 J0 w0 => ?_⟩
  refine Subscript_ (thn (he.run pn a0 sg G0 _ J0 w0) fun v a1 ⟨x, G1, J1, r1, w1⟩ => ?_)
  refine wpAny_Slice (thn (hl.run pn a1 sg G1 _ J1 w1) fun v1 a2 ⟨l, G2, J2, m1, w2⟩ => thn (hu.run pn a2 sg G2 _ J2 w2) fun v2 a3 ⟨u, G3, J3, m2, w3⟩ => ?_)
  refine thn (hs.run pn a3 sg G3 (fun o G4 => o = some c ∧ G4 = G3) J3 (hts sg G3 _ ⟨rfl, rfl⟩)) fun v3 a4 ⟨o, G4, J4, m3, eo, eG⟩ => ?_
  subst eo eG
  obtain ⟨b, xs, rfl, sx, hz, q⟩ := w3
  cases r1
  have J5 : Inv X pn sg G4 { a4 with heap := a4.heap.push { cls := .type "slice", data := .fields #[v1, v2, v3] } } := J4.kept (t' := a4.toks) fun _ _ z => Heap.get?_push_of_some _ z
  obtain ⟨its, rv, ht, hn⟩ := J5.tuple sx
  show wpAny (model X.prog X.w) X.A (subscriptTail e (.Slice lo hi (some se) p2) (.ref b) (.ref a4.heap.objs.size)) (EP X pn sg Q0) X.xe { a4 with heap := a4.heap.push { cls := .type "slice", data := .fields #[v1, v2, v3] } }
  refine tail_any (ops := [.ref b, .ref a4.heap.objs.size]) ht.typeIs PyProof.Rows.slot_tuple_getitem.lookup ?_ (by with_unfolding_all rfl)
  have vr := vals_step rv l u c
  refine getTup_step ht (Heap.IsSliceOf.new _ v1 v2 v3) m1 m2 m3 c0 c1 (by rw [← vr.length]; exact hz) ?_
  exact ⟨.ref _, _, J5.laid (t' := a4.toks) (o := .tup (stepL xs l u c)) (fun _ _ z => Heap.get?_push_of_some _ z) (Nat.le_refl _) ⟨hz, _, vr, IsTup.new _ _⟩, rfl, q _ (J5.hok.fresh (Nat.le_refl _))⟩
def fSlT (c : Int) (fa : WE) (lo hi : En → Ho → (Option Int → Ho → Prop) → XD → Prop) : WE := fun ρ h Q E => fa ρ h (fun x h1 => lo ρ h1 (fun l h2 => hi ρ h2 (fun u h3 => match x with
  | .d (.tuple ps) => (stepL ps l u c).length ≤ sizeLine ∧ Q (.d (.tuple (stepL ps l u c))) h3
  | _ => False) E) E) E
theorem SE.slT {X : Cx} {W : WX} {a se : Expr} {fa : WE} {lo hi : Option Expr} {fl fu} {p2 pos : Pos} {c : Int} (c0 : c ≠ 0) (c1 : c ≠ 1) (ha : SE X W a fa) (hl : SO X W lo fl) (hu : SO X W hi fu) (hs : StepC X se c) : SE X W (.Subscript a (.Slice lo hi (some se) p2) pos) (fSlT c fa fl fu) := by
  obtain ⟨_, pa, sa⟩ := ha
  obtain ⟨_, pl, sl⟩ := hl
  obtain ⟨_, pu, su⟩ := hu
  refine ⟨_, pe_slS c0 c1 pa pl pu hs, fun σ H as ρ h Q E QV eR hR hq k kx => ?_⟩
  refine sa σ H as ρ h _ E _ eR hR hq (fun x h1 v as1 H1 hq1 l1 r1 rv => ?_) kx
  refine sl σ H1 as1 ρ h1 _ E _ (eR.later l1) r1 hq1 (fun lo h2 as2 H2 hq2 l2 r2 => ?_) (kx.later l1)
  refine su σ H2 as2 ρ h2 _ E _ ((eR.later l1).later l2) r2 hq2 (fun hi h3 as3 H3 hq3 l3 r3 => ?_) ((kx.later l1).later l2)
  have k3 := ((k.later l1).later l2).later l3
  have rv3 := (rv.later l2).later l3
  split at hq3
  · cases rv3 with | d rv3 =>
    cases rv3 with | tup sx ax =>
    have d := dv_step ax lo hi c
    exact ⟨_, _, rfl, sx.sq, by rw [d.length]; exact hq3.1, fun p hp => k3.newTup r3 hq3.2 d hp⟩
  · exact hq3.elim
end V2
set_option Elab.async false
set_option linter.all false
set_option maxRecDepth 100000
set_option maxHeartbeats 4000000
/-! ## The simplest fraction of a range -/
namespace V2
open PySem PySem.Spec PyProof.Rows L2
theorem rle {a b : Rat} : a ≤ b ↔ a.num * b.den ≤ b.num * a.den := Rat.le_iff a b
theorem rlt {a b : Rat} : a < b ↔ a.num * b.den < b.num * a.den := Rat.lt_iff a b
theorem dpos (a : Rat) : (0 : Int) < a.den := by have := a.den_nz; omega
theorem int_num (p : Int) : (p : Rat).num = p := rfl
theorem int_den (p : Int) : (p : Rat).den = 1 := rfl
/-- an integer more -/
theorem padd (p : Int) (q : Rat) : ((p : Rat) + q).num = p * q.den + q.num ∧ ((p : Rat) + q).den = q.den := by
  have cop : Nat.Coprime (p * q.den + q.num).natAbs q.den := by
    have h1 := Nat.gcd_dvd_left (p * q.den + q.num).natAbs q.den
    have h2 := Nat.gcd_dvd_right (p * q.den + q.num).natAbs q.den
    have h3 : ((Nat.gcd (p * q.den + q.num).natAbs q.den : Nat) : Int) ∣ p * q.den + q.num := Int.ofNat_dvd_left.2 h1
    have h4 : ((Nat.gcd (p * q.den + q.num).natAbs q.den : Nat) : Int) ∣ (q.den : Int) := Int.natCast_dvd_natCast.2 h2
    have h5 : ((Nat.gcd (p * q.den + q.num).natAbs q.den : Nat) : Int) ∣ q.num := by
      have := Int.dvd_sub h3 (Int.dvd_trans h4 (Int.dvd_mul_left p _))
      have e : p * (q.den : Int) + q.num - p * q.den = q.num := by omega
      rwa [e] at this
    have h6 := Nat.dvd_gcd (Int.ofNat_dvd_left.1 h5) h2
    have h7 : Nat.gcd q.num.natAbs q.den = 1 := q.reduced
    rw [h7] at h6
    exact Nat.dvd_one.1 h6
  have e : (p : Rat) + q = ⟨p * q.den + q.num, q.den, q.den_nz, cop⟩ := by
    rw [Rat.mk_eq_mkRat, add_mk, int_num, int_den, Rat.mkRat_eq_iff (by have := q.den_nz; omega) q.den_nz]
    simp
  rw [e]
  exact ⟨rfl, rfl⟩
theorem psub (p : Int) (q : Rat) : (q - (p : Rat)).num = q.num - p * q.den ∧ (q - (p : Rat)).den = q.den := by
  have e : q - (p : Rat) = ((-p : Int) : Rat) + q := by rw [Rat.intCast_neg]; grind
  rw [e]
  have := padd (-p) q
  exact ⟨by rw [this.1, Int.neg_mul]; omega, this.2⟩
theorem inv_nd {t : Rat} (h : 0 < t.num) : (1 / t).num = t.den ∧ ((1 / t).den : Int) = t.num := by
  have e : 1 / t = t⁻¹ := by rw [Rat.div_def, Rat.one_mul]
  have := inv_pos t h
  rw [← e] at this
  simp only [fr, PyData.tuple.injEq, List.cons.injEq, PyData.int.injEq, and_true] at this
  exact this
/-! ### floors and ceilings -/
def flo (q : Rat) : Int := q.num.fdiv q.den
def cei (q : Rat) : Int := -((-q.num).fdiv q.den)
theorem flo_iff {p : Int} {q : Rat} : p ≤ flo q ↔ (p : Rat) ≤ q := by
  rw [rle, int_num, int_den]
  unfold flo
  rw [fdiv_nat, Int.le_ediv_iff_mul_le (dpos q)]
  simp
theorem cei_iff {p : Int} {q : Rat} : cei q ≤ p ↔ q ≤ (p : Rat) := by
  rw [rle, int_num, int_den]
  unfold cei
  rw [fdiv_nat]
  have h := Int.le_ediv_iff_mul_le (a := -p) (b := -q.num) (dpos q)
  have : -(-q.num / (q.den : Int)) ≤ p ↔ -p ≤ -q.num / (q.den : Int) := by omega
  rw [this, h, Int.neg_mul]
  simp only [Int.natCast_one, Int.mul_one]
  omega
theorem flo_le (q : Rat) : (flo q : Rat) ≤ q := flo_iff.1 (Int.le_refl _)
theorem le_cei (q : Rat) : q ≤ (cei q : Rat) := cei_iff.1 (Int.le_refl _)
theorem int_le {p r : Int} : (p : Rat) ≤ (r : Rat) ↔ p ≤ r := by rw [rle]; simp [int_num, int_den]
theorem flo_mono {a b : Rat} (h : a ≤ b) : flo a ≤ flo b := flo_iff.2 (Rat.le_trans (flo_le a) h)
/-! ### of all in a range: the least bottom, of these the least; where all are above 0 the least top, too -/
structure Best (lo hi r : Rat) : Prop where
  ge : lo ≤ r
  le : r ≤ hi
  den : ∀ x, lo ≤ x → x ≤ hi → r.den ≤ x.den
  low : ∀ x, lo ≤ x → x ≤ hi → x.den = r.den → r ≤ x
  num : 0 < lo.num → ∀ x, lo ≤ x → x ≤ hi → r.num ≤ x.num
theorem Best.unique {lo hi r s : Rat} (a : Best lo hi r) (b : Best lo hi s) : r = s := by
  have h1 := a.den s b.ge b.le
  have h2 := b.den r a.ge a.le
  exact Rat.le_antisymm (a.low s b.ge b.le (by omega)) (b.low r a.ge a.le (by omega))
theorem pos_of_le {a b : Rat} (h : a ≤ b) (ha : 0 < a.num) : 0 < b.num := by
  rw [rle] at h
  have h1 : 0 < a.num * b.den := Int.mul_pos ha (dpos b)
  exact Int.pos_of_mul_pos_left (Int.lt_of_lt_of_le h1 h) (dpos a)
theorem best_stop {lo hi : Rat} (h : cei lo ≤ flo hi) : Best lo hi (cei lo : Rat) where
  ge := le_cei lo
  le := flo_iff.1 h
  den := fun x _ _ => by rw [int_den]; have := x.den_nz; omega
  low := fun x h1 _ e => by
    rw [int_den] at e
    have ex : x = (x.num : Rat) := Rat.ext rfl (by rw [e]; rfl)
    rw [ex] at h1 ⊢
    exact int_le.2 (cei_iff.2 h1)
  num := fun hp x h1 _ => by
    rw [int_num]
    have hx := pos_of_le h1 hp
    refine cei_iff.2 (Rat.le_trans h1 ?_)
    rw [rle, int_num, int_den]
    have := dpos x
    have e : x.num * ((1 : Nat) : Int) = x.num * 1 := rfl
    rw [e]
    exact Int.mul_le_mul_of_nonneg_left (by omega) (by omega)
theorem inv_le {a b : Rat} (ha : 0 < a.num) (h : a ≤ b) : 1 / b ≤ 1 / a := by
  have hb := pos_of_le h ha
  rw [rle] at h ⊢
  rw [(inv_nd ha).1, (inv_nd ha).2, (inv_nd hb).1, (inv_nd hb).2]
  rw [Int.mul_comm, Int.mul_comm (a.den : Int)]
  exact h
theorem inv_inv' {a : Rat} (ha : 0 < a.num) : 1 / (1 / a) = a := by
  have h1 := inv_nd ha
  have h2 := inv_nd (t := 1 / a) (by rw [h1.1]; exact dpos a)
  refine Rat.ext ?_ ?_
  · rw [h2.1, h1.2]
  · have := h2.2
    rw [h1.1] at this
    exact_mod_cast this
/-- the range of one turn further -/
structure Turned (lo hi : Rat) (p : Int) : Prop where
  p_eq : p = flo lo
  le : lo ≤ hi
  no : ¬ cei lo ≤ flo hi
section
variable {lo hi : Rat} {p : Int} (t : Turned lo hi p)
include t
theorem Turned.lo_pos : 0 < (lo - (p : Rat)).num := by
  have h1 : ¬ lo ≤ (p : Rat) := fun z => t.no (Int.le_trans (cei_iff.2 z) (by rw [t.p_eq]; exact flo_mono t.le))
  rw [rle, int_num, int_den] at h1
  rw [(psub p lo).1]
  simp only [Int.natCast_one, Int.mul_one] at h1
  omega
theorem Turned.sub_le : lo - (p : Rat) ≤ hi - (p : Rat) := by
  have h := t.le
  rw [rle] at h ⊢
  rw [(psub p lo).1, (psub p lo).2, (psub p hi).1, (psub p hi).2, Int.sub_mul, Int.sub_mul]
  have e : p * (lo.den : Int) * hi.den = p * hi.den * lo.den := by grind
  omega
theorem Turned.hi_pos : 0 < (hi - (p : Rat)).num := pos_of_le t.sub_le t.lo_pos
theorem Turned.hi_lt : (hi - (p : Rat)).num < hi.den := by
  have h1 : cei lo ≤ p + 1 := by
    refine cei_iff.2 ?_
    have : ¬ p + 1 ≤ flo lo := by have := t.p_eq; omega
    rw [flo_iff] at this
    exact Rat.le_of_lt (Rat.not_le.1 this)
  have h2 : ¬ p + 1 ≤ flo hi := fun z => t.no (Int.le_trans h1 z)
  rw [flo_iff, rle, int_num, int_den] at h2
  rw [(psub p hi).1]
  have e : (p + 1) * (hi.den : Int) = p * hi.den + hi.den := by rw [Int.add_mul, Int.one_mul]
  rw [e] at h2
  simp only [Int.natCast_one, Int.mul_one] at h2
  omega
theorem Turned.lo_lt : (lo - (p : Rat)).num < lo.den := by
  have : ¬ p + 1 ≤ flo lo := by have := t.p_eq; omega
  rw [flo_iff, rle, int_num, int_den] at this
  rw [(psub p lo).1]
  have e : (p + 1) * (lo.den : Int) = p * lo.den + lo.den := by rw [Int.add_mul, Int.one_mul]
  rw [e] at this
  simp only [Int.natCast_one, Int.mul_one] at this
  omega
theorem Turned.range : 1 / (hi - (p : Rat)) ≤ 1 / (lo - (p : Rat)) := inv_le t.lo_pos t.sub_le
theorem Turned.a_pos : 0 < (1 / (hi - (p : Rat))).num := by rw [(inv_nd t.hi_pos).1]; exact dpos _
theorem Turned.dens : (1 / (hi - (p : Rat))).den < hi.den ∧ (1 / (lo - (p : Rat))).den < lo.den := by
  have h1 := (inv_nd t.hi_pos).2
  have h2 := (inv_nd t.lo_pos).2
  have h3 := t.hi_lt
  have h4 := t.lo_lt
  omega
theorem Turned.sz {n : Nat} (s1 : Sz n lo) (s2 : Sz n hi) : Sz n (1 / (hi - (p : Rat))) ∧ Sz n (1 / (lo - (p : Rat))) := by
  have h1 := inv_nd t.hi_pos
  have h2 := inv_nd t.lo_pos
  have d := t.dens
  refine ⟨⟨?_, Nat.lt_trans d.1 s2.2⟩, ⟨?_, Nat.lt_trans d.2 s1.2⟩⟩
  · rw [h1.1, (psub p hi).2, nab]; exact s2.2
  · rw [h2.1, (psub p lo).2, nab]; exact s1.2
theorem best_step {r : Rat} (b : Best (1 / (hi - (p : Rat))) (1 / (lo - (p : Rat))) r) : Best lo hi ((p : Rat) + 1 / r) := by
  have hr : 0 < r.num := pos_of_le b.ge t.a_pos
  have ir := inv_nd hr
  have pr := padd p (1 / r)
  -- x, and what it is a turn further
  have key : ∀ x, lo ≤ x → x ≤ hi → ∃ y, 1 / (hi - (p : Rat)) ≤ y ∧ y ≤ 1 / (lo - (p : Rat)) ∧ (x.den : Int) = y.num ∧ x.num = p * y.num + y.den := by
    intro x h1 h2
    have hx : 0 < (x - (p : Rat)).num := by
      refine pos_of_le ?_ t.lo_pos
      rw [rle] at h1 ⊢
      rw [(psub p lo).1, (psub p lo).2, (psub p x).1, (psub p x).2, Int.sub_mul, Int.sub_mul]
      have e : p * (lo.den : Int) * x.den = p * x.den * lo.den := by grind
      omega
    have l1 : lo - (p : Rat) ≤ x - (p : Rat) := by
      rw [rle] at h1 ⊢
      rw [(psub p lo).1, (psub p lo).2, (psub p x).1, (psub p x).2, Int.sub_mul, Int.sub_mul]
      have e : p * (lo.den : Int) * x.den = p * x.den * lo.den := by grind
      omega
    have l2 : x - (p : Rat) ≤ hi - (p : Rat) := by
      rw [rle] at h2 ⊢
      rw [(psub p hi).1, (psub p hi).2, (psub p x).1, (psub p x).2, Int.sub_mul, Int.sub_mul]
      have e : p * (hi.den : Int) * x.den = p * x.den * hi.den := by grind
      omega
    have ix := inv_nd hx
    refine ⟨1 / (x - (p : Rat)), inv_le hx l2, inv_le t.lo_pos l1, ?_, ?_⟩
    · rw [ix.1, (psub p x).2]
    · rw [ix.1, ix.2, (psub p x).1, (psub p x).2]; omega
  have cmp : ∀ x, ((p : Rat) + 1 / r ≤ x ↔ (p * r.num + r.den) * x.den ≤ x.num * r.num) ∧ (x ≤ (p : Rat) + 1 / r ↔ x.num * r.num ≤ (p * r.num + r.den) * x.den) := by
    intro x
    rw [rle, rle, pr.1, pr.2, ir.1, ir.2]
    exact ⟨Iff.rfl, Iff.rfl⟩
  refine ⟨?_, ?_, ?_, ?_, ?_⟩
  · have h := b.le
    rw [rle, (inv_nd t.lo_pos).1, (inv_nd t.lo_pos).2, (psub p lo).1, (psub p lo).2] at h
    rw [(cmp lo).2]
    have e1 : r.num * (lo.num - p * lo.den) = lo.num * r.num - p * r.num * lo.den := by grind
    have e2 : (p * r.num + (r.den : Int)) * lo.den = p * r.num * lo.den + lo.den * r.den := by grind
    omega
  · have h := b.ge
    rw [rle, (inv_nd t.hi_pos).1, (inv_nd t.hi_pos).2, (psub p hi).1, (psub p hi).2] at h
    rw [(cmp hi).1]
    have e1 : r.num * (hi.num - p * hi.den) = hi.num * r.num - p * r.num * hi.den := by grind
    have e2 : (p * r.num + (r.den : Int)) * hi.den = p * r.num * hi.den + hi.den * r.den := by grind
    omega
  · intro x h1 h2
    obtain ⟨y, g1, g2, e1, e2⟩ := key x h1 h2
    have := b.num t.a_pos y g1 g2
    rw [pr.2]
    have := ir.2
    omega
  · intro x h1 h2 e
    obtain ⟨y, g1, g2, e1, e2⟩ := key x h1 h2
    have hd := b.den y g1 g2
    rw [pr.2] at e
    have en : y.num = r.num := by have := ir.2; omega
    rw [(cmp x).1, e1, e2, en]
    exact Int.mul_le_mul_of_nonneg_right (by omega) (by omega)
  · intro hp x h1 h2
    obtain ⟨y, g1, g2, e1, e2⟩ := key x h1 h2
    have hd := b.den y g1 g2
    have hn := b.num t.a_pos y g1 g2
    rw [pr.1, ir.1, ir.2, e2]
    have p0 : 0 ≤ p := by
      rw [t.p_eq, flo_iff, rle]
      have : (0 : Int) ≤ lo.num := by omega
      simpa [int_num, int_den] using this
    have := Int.mul_le_mul_of_nonneg_left hn p0
    omega
end
theorem Best.sz {lo hi r : Rat} {n : Nat} (b : Best lo hi r) (s1 : Sz n lo) (s2 : Sz n hi) : Sz (n + n) r := by
  have hd := b.den lo (Rat.le_refl) (Rat.le_trans b.ge b.le)
  have hdn : r.den < 2 ^ n := Nat.lt_of_le_of_lt hd s1.2
  refine ⟨?_, Nat.lt_of_lt_of_le hdn (Nat.pow_le_pow_right (by decide) (by omega))⟩
  have h1 := rle.1 b.ge
  have h2 := rle.1 b.le
  rw [Nat.pow_add]
  have dl := dpos lo
  have dh := dpos hi
  have dr := dpos r
  by_cases c : 0 ≤ r.num
  · have k1 : r.num ≤ r.num * hi.den := by
      have := Int.mul_le_mul_of_nonneg_left (show (1 : Int) ≤ hi.den by omega) c
      omega
    have k2 : hi.num * r.den ≤ hi.num.natAbs * r.den := Int.mul_le_mul_of_nonneg_right (by omega) (by omega)
    have k3 : r.num.natAbs ≤ hi.num.natAbs * r.den := by
      have : (r.num.natAbs : Int) ≤ ((hi.num.natAbs * r.den : Nat) : Int) := by rw [Int.natCast_mul]; omega
      exact_mod_cast this
    exact Nat.lt_of_le_of_lt k3 (Nat.mul_lt_mul'' s2.1 hdn)
  · have k1 : -r.num ≤ (-r.num) * lo.den := by
      have := Int.mul_le_mul_of_nonneg_left (show (1 : Int) ≤ lo.den by omega) (show 0 ≤ -r.num by omega)
      omega
    have k2 : (-lo.num) * r.den ≤ lo.num.natAbs * r.den := Int.mul_le_mul_of_nonneg_right (by omega) (by omega)
    rw [Int.neg_mul] at k1 k2
    have k3 : r.num.natAbs ≤ lo.num.natAbs * r.den := by
      have : (r.num.natAbs : Int) ≤ ((lo.num.natAbs * r.den : Nat) : Int) := by rw [Int.natCast_mul]; omega
      exact_mod_cast this
    exact Nat.lt_of_le_of_lt k3 (Nat.mul_lt_mul'' s1.1 hdn)
/-- what was taken, the last one first -/
def Chain (n : Nat) (lo hi : Rat) : List Int → Rat → Rat → Prop
  | [], a, b => a = lo ∧ b = hi
  | p :: us, a, b => ∃ a' b', Chain n lo hi us a' b' ∧ Turned a' b' p ∧ a = 1 / (b' - (p : Rat)) ∧ b = 1 / (a' - (p : Rat)) ∧ Sz n a' ∧ Sz n b'
end V2
set_option Elab.async false
set_option linter.all false
set_option maxRecDepth 100000
set_option maxHeartbeats 4000000
namespace V2
open PySem PySem.Spec PyProof.Rows L2
section
variable {ρ : En} {h : Ho} {Q : KD} {E : XD} {nx : En → Ho → Prop} {rt : KD} {bk ct : En → Ho → Prop} {ex : Ex → En → Ho → Prop} {f : WS} {t : WT}
theorem i_eqsr {i : Str} (k : Q (.d (.bool true)) h) : rEq2 (.d (.str i)) (.d (.str i)) h Q := by
  refine i_eqs ?_
  rw [decide_eq_true rfl]
  exact k
theorem i_whileE (I : Nat → En → Ho → Prop) {m0 : Nat} (h0 : I m0 ρ h)
    (hs : ∀ m ρ h, I m ρ h → t ρ h (fun b h1 => if b = true then f ρ h1 ⟨fun ρ' h' => ∃ m', m' < m ∧ I m' ρ' h', rt, nx, fun ρ' h' => ∃ m', m' < m ∧ I m' ρ' h', ex⟩ else nx ρ h1) (fun x h => ex x ρ h)) : sWhile t f ρ h ⟨nx, rt, bk, ct, ex⟩ :=
  ⟨I, ⟨m0, h0⟩, hs⟩
theorem i_slT {c : Int} {n : Nat} {ps : List PyData} (e : GetAt n ρ (.d (.tuple ps))) (hl : (stepL ps none none c).length ≤ sizeLine) (k : Q (.d (.tuple (stepL ps none none c))) h) : fSlT c (fVar n) oNone oNone ρ h Q E := i_var e ⟨hl, k⟩
theorem i_range2 {ga : WA} {QI : List D → (Ho → Prop) → Ho → Prop} (k : ga ρ h (fun ys h1 => ∃ i j, ys = [.d (.int i), .d (.int j)] ∧ (-(2 ^ 62) ≤ i ∧ i < 2 ^ 62 ∧ -(2 ^ 62) ≤ j ∧ j < 2 ^ 62) ∧ QI (rangeD i (j - i).toNat) (fun _ => True) h1) E) : iRange2 ga ρ h QI E := by
  have e : (fun (ys : List D) (h1 : Ho) => ∃ i j, ys = [.d (.int i), .d (.int j)] ∧ (-(2 ^ 62) ≤ i ∧ i < 2 ^ 62 ∧ -(2 ^ 62) ≤ j ∧ j < 2 ^ 62) ∧ QI (rangeD i (j - i).toNat) (fun _ => True) h1) = (fun ys h1 => match ys with
      | [.d (.int i), .d (.int j)] => (-(2 ^ 62) ≤ i ∧ i < 2 ^ 62 ∧ -(2 ^ 62) ≤ j ∧ j < 2 ^ 62) ∧ QI (rangeD i (j - i).toNat) (fun _ => True) h1
      | _ => False) := by
    funext ys h1
    apply propext
    constructor
    · rintro ⟨i, j, rfl, hq⟩; exact hq
    · split
      · exact fun hq => ⟨_, _, rfl, hq⟩
      · exact False.elim
  rw [e] at k
  exact k
theorem i_isr2 {i j : Int} {P : Int → Int → Prop} (k : P i j) : ∃ i' j', [D.d (.int i), D.d (.int j)] = [.d (.int i'), .d (.int j')] ∧ P i' j' := ⟨i, j, rfl, k⟩
end
theorem rev2 (x y : PyData) : stepL [x, y] none none (-1) = [y, x] := by
  simp [stepL, Builtin.Slice.sliceAdjust, Builtin.Slice.slicePlaces, List.range, List.range.loop]
/-! ### quotients beside what is less -/
theorem mk_cross {c : Int} {d : Nat} (hd : d ≠ 0) : (mkRat c d).num * d = c * (mkRat c d).den := by
  have h : mkRat (mkRat c d).num (mkRat c d).den = mkRat c d := Rat.mkRat_self _
  exact (Rat.mkRat_eq_iff (mkRat c d).den_nz hd).1 h
theorem le_mk {a : Rat} {c : Int} {d : Nat} (hd : d ≠ 0) : a ≤ mkRat c d ↔ a.num * d ≤ c * a.den := by
  have e := mk_cross (c := c) hd
  rw [rle]
  have dr := dpos (mkRat c d)
  have dd : (0 : Int) < d := by omega
  generalize mkRat c d = r at *
  constructor
  · intro h
    have := Int.mul_le_mul_of_nonneg_right h (Int.le_of_lt dd)
    have e1 : r.num * (a.den : Int) * d = (c * a.den) * r.den := by rw [Int.mul_right_comm, e]; grind
    have e2 : a.num * (r.den : Int) * d = (a.num * d) * r.den := by grind
    rw [e1, e2] at this
    exact Int.le_of_mul_le_mul_right this dr
  · intro h
    have := Int.mul_le_mul_of_nonneg_right h (Int.le_of_lt dr)
    have e1 : r.num * (a.den : Int) * d = (c * a.den) * r.den := by rw [Int.mul_right_comm, e]; grind
    have e2 : a.num * (r.den : Int) * d = (a.num * d) * r.den := by grind
    rw [← e1, ← e2] at this
    exact Int.le_of_mul_le_mul_right this dd
theorem mk_le {a : Rat} {c : Int} {d : Nat} (hd : d ≠ 0) : mkRat c d ≤ a ↔ c * a.den ≤ a.num * d := by
  have e := mk_cross (c := c) hd
  rw [rle]
  have dr := dpos (mkRat c d)
  have dd : (0 : Int) < d := by omega
  generalize mkRat c d = r at *
  have e1 : r.num * (a.den : Int) * d = (c * a.den) * r.den := by rw [Int.mul_right_comm, e]; grind
  have e2 : a.num * (r.den : Int) * d = (a.num * d) * r.den := by grind
  constructor
  · intro h
    have := Int.mul_le_mul_of_nonneg_right h (Int.le_of_lt dd)
    rw [e1, e2] at this
    exact Int.le_of_mul_le_mul_right this dr
  · intro h
    have := Int.mul_le_mul_of_nonneg_right h (Int.le_of_lt dr)
    rw [← e1, ← e2] at this
    exact Int.le_of_mul_le_mul_right this dd
theorem mk_den_le {c : Int} {d : Nat} (hd : d ≠ 0) : (mkRat c d).den ≤ d := by
  rw [Rat.den_mkRat, if_neg hd]
  exact Nat.div_le_self _ _
theorem mk_num_le {c : Int} {d : Nat} (hd : d ≠ 0) (hc : 0 ≤ c) : (mkRat c d).num ≤ c := by
  rw [Rat.num_mkRat, if_neg hd]
  exact Int.ediv_le_self _ hc
/-- a fraction of two numbers of which a sum of multiples is 1 -/
theorem rat_of {n : Int} {d : Nat} (hd : d ≠ 0) {u v : Int} (e : u * n + v * d = 1) : ∃ r : Rat, r.num = n ∧ r.den = d := by
  have cop : Nat.Coprime n.natAbs d := by
    have h1 : ((Nat.gcd n.natAbs d : Nat) : Int) ∣ n := Int.ofNat_dvd_left.2 (Nat.gcd_dvd_left _ _)
    have h2 : ((Nat.gcd n.natAbs d : Nat) : Int) ∣ (d : Int) := Int.natCast_dvd_natCast.2 (Nat.gcd_dvd_right _ _)
    have h3 := Int.dvd_add (Int.dvd_trans h1 (Int.dvd_mul_left u _)) (Int.dvd_trans h2 (Int.dvd_mul_left v _))
    rw [e] at h3
    have := Int.ofNat_dvd_left.1 h3
    exact Nat.dvd_one.1 this
  exact ⟨⟨n, d, hd, cop⟩, rfl, rfl⟩
theorem fr_of {r : Rat} {n d : Int} (h1 : r.num = n) (h2 : (r.den : Int) = d) : fr r = .tuple [.int n, .int d] := by unfold fr; rw [h1, h2]
/-- the other way round, and over 1 -/
theorem Best.neg_den {lo hi r s : Rat} (a : Best lo hi r) (b : Best (-hi) (-lo) s) : s.den = r.den := by
  have h1 := b.den (-r) (Rat.neg_le_neg a.le) (Rat.neg_le_neg a.ge)
  have h2 := a.den (-s) (by have := b.le; have := Rat.neg_le_neg this; rwa [Rat.neg_neg] at this) (by have := b.ge; have := Rat.neg_le_neg this; rwa [Rat.neg_neg] at this)
  rw [Rat.neg_den] at h1 h2
  omega
theorem Best.inv {lo hi r s : Rat} (hp : 0 < lo.num) (a : Best lo hi r) (b : Best (1 / hi) (1 / lo) s) : s = 1 / r := by
  have hr := pos_of_le a.ge hp
  have hh := pos_of_le a.le hr
  have h0 : 0 < (1 / hi).num := by rw [(inv_nd hh).1]; exact dpos _
  have hs := pos_of_le b.ge h0
  have m1 : 1 / hi ≤ 1 / r := inv_le hr a.le
  have m2 : 1 / r ≤ 1 / lo := inv_le hp a.ge
  have g1 : lo ≤ 1 / s := by have := inv_le hs b.le; rwa [inv_inv' hp] at this
  have g2 : 1 / s ≤ hi := by have := inv_le h0 b.ge; rwa [inv_inv' hh] at this
  have ir := inv_nd hr
  have is := inv_nd hs
  have d1 := b.den _ m1 m2
  have n1 := b.num h0 _ m1 m2
  have d2 := a.den _ g1 g2
  have n2 := a.num hp _ g1 g2
  rw [ir.1] at n1
  rw [is.1] at n2
  have e1 : s.num = (1 / r).num := by rw [ir.1]; have := is.2; omega
  have e2 : s.den = (1 / r).den := by have := ir.2; omega
  exact Rat.ext e1 e2
theorem Best.sub {lo hi lo' hi' r s : Rat} (a : Best lo hi r) (b : Best lo' hi' s) (h1 : lo ≤ lo') (h2 : hi' ≤ hi) : r.den ≤ s.den := a.den s (Rat.le_trans h1 b.ge) (Rat.le_trans b.le h2)
/-- between neighbours -/
theorem best_middle {p q p' q' : Int} (hp : 0 ≤ p) (hp' : 0 ≤ p') (hq : 1 ≤ q) (hq' : 0 ≤ q') (det : p' * q - p * q' = 1) {lo hi md : Rat} (l1 : lo.num = 2 * p + p') (l2 : (lo.den : Int) = 2 * q + q') (g1 : hi.num = p + 2 * p') (g2 : (hi.den : Int) = q + 2 * q') (m1 : md.num = p + p') (m2 : (md.den : Int) = q + q') : Best lo hi md := by
  have key : ∀ x : Rat, lo ≤ x → x ≤ hi → ∃ i j : Int, 1 ≤ i ∧ 1 ≤ j ∧ (x.den : Int) = i * q + j * q' ∧ x.num = i * p + j * p' := by
    intro x h1 h2
    rw [rle, l1, l2] at h1
    rw [rle, g1, g2] at h2
    have dx := dpos x
    have ex : (x.den : Int) = (p' * x.den - q' * x.num) * q + (q * x.num - p * x.den) * q' := by
      have : (p' * x.den - q' * x.num) * q + (q * x.num - p * x.den) * q' = (p' * q - p * q') * x.den := by grind
      rw [this, det, Int.one_mul]
    have en : x.num = (p' * x.den - q' * x.num) * p + (q * x.num - p * x.den) * p' := by
      have : (p' * x.den - q' * x.num) * p + (q * x.num - p * x.den) * p' = (p' * q - p * q') * x.num := by grind
      rw [this, det, Int.one_mul]
    have k1 : 0 ≤ 2 * (q * x.num - p * x.den) - (p' * x.den - q' * x.num) := by
      have : 2 * (q * x.num - p * x.den) - (p' * x.den - q' * x.num) = x.num * (2 * q + q') - (2 * p + p') * x.den := by grind
      omega
    have k2 : 0 ≤ 2 * (p' * x.den - q' * x.num) - (q * x.num - p * x.den) := by
      have : 2 * (p' * x.den - q' * x.num) - (q * x.num - p * x.den) = (p + 2 * p') * x.den - x.num * (q + 2 * q') := by grind
      omega
    generalize p' * x.den - q' * x.num = i at *
    generalize q * x.num - p * x.den = j at *
    have i1 : 1 ≤ i := by
      by_cases c : 1 ≤ i
      · exact c
      · have : i = 0 := by omega
        have : j = 0 := by omega
        subst_vars
        rw [Int.zero_mul, Int.zero_mul] at ex
        omega
    exact ⟨i, j, i1, by omega, ex, en⟩
  refine ⟨?_, ?_, ?_, ?_, ?_⟩
  · rw [rle, l1, l2, m1, m2]
    have : (p + p') * (2 * q + q') - (2 * p + p') * (q + q') = p' * q - p * q' := by grind
    omega
  · rw [rle, g1, g2, m1, m2]
    have : (p + 2 * p') * (q + q') - (p + p') * (q + 2 * q') = p' * q - p * q' := by grind
    omega
  · intro x h1 h2
    obtain ⟨i, j, hi, hj, e1, e2⟩ := key x h1 h2
    have a1 := Int.mul_le_mul_of_nonneg_right hi (show 0 ≤ q by omega)
    have a2 := Int.mul_le_mul_of_nonneg_right hj hq'
    omega
  · intro x h1 h2 e
    obtain ⟨i, j, hi, hj, e1, e2⟩ := key x h1 h2
    have a1 := Int.mul_le_mul_of_nonneg_right hi hp
    have a2 := Int.mul_le_mul_of_nonneg_right hj hp'
    rw [rle, m1, m2]
    have e3 : (x.den : Int) = q + q' := by omega
    rw [e3]
    exact Int.mul_le_mul_of_nonneg_right (by omega) (by omega)
  · intro _ x h1 h2
    obtain ⟨i, j, hi, hj, e1, e2⟩ := key x h1 h2
    have a1 := Int.mul_le_mul_of_nonneg_right hi hp
    have a2 := Int.mul_le_mul_of_nonneg_right hj hp'
    omega
/-! ### what is walked through: its length -/
def Long (n : Nat) (us : List Int) (a b : Rat) : Prop := us = [] ∨ ((a.den : Int) < a.num ∧ (b.den : Int) < b.num ∧ us.length ≤ 2 * n ∧ a.num.natAbs * a.den < 2 ^ (2 * n + 1 - us.length) ∧ b.num.natAbs * b.den < 2 ^ (2 * n + 1 - us.length))
theorem half_step {x : Rat} {p : Int} {k : Nat} (hk : 1 ≤ k) (hp : 1 ≤ p) (h0 : 0 < (x - (p : Rat)).num) (h1 : (x - (p : Rat)).num < x.den) (hx : x.num.natAbs * x.den < 2 ^ k) : (1 / (x - (p : Rat))).num.natAbs * (1 / (x - (p : Rat))).den < 2 ^ (k - 1) := by
  have i := inv_nd h0
  have e := psub p x
  have e1 : (1 / (x - (p : Rat))).num.natAbs = x.den := by rw [i.1, e.2, nab]
  have e2 : ((1 / (x - (p : Rat))).den : Int) = x.num - p * x.den := by rw [i.2, e.1]
  rw [e1]
  rw [e.1] at h0 h1
  have dx := dpos x
  have p1 : (x.den : Int) ≤ p * x.den := by
    have := Int.mul_le_mul_of_nonneg_right hp (show (0 : Int) ≤ x.den by omega)
    omega
  have h2 : 2 * (1 / (x - (p : Rat))).den ≤ x.num.natAbs := by omega
  have h3 : x.den * (2 * (1 / (x - (p : Rat))).den) ≤ x.den * x.num.natAbs := Nat.mul_le_mul_left _ h2
  obtain ⟨j, rfl⟩ : ∃ j, k = j + 1 := ⟨k - 1, by omega⟩
  rw [Nat.add_sub_cancel]
  rw [Nat.pow_succ] at hx
  rw [Nat.mul_comm x.num.natAbs] at hx
  rw [Nat.mul_left_comm] at h3
  omega
theorem long_step {n : Nat} {us : List Int} {a b : Rat} {p : Int} (t : Turned a b p) (sa : Sz n a) (sb : Sz n b) (l : Long n us a b) (hn : 0 < n) : Long n (p :: us) (1 / (b - (p : Rat))) (1 / (a - (p : Rat))) := by
  have ia := inv_nd t.lo_pos
  have ib := inv_nd t.hi_pos
  have d := t.dens
  have ea := psub p a
  have eb := psub p b
  have c1 : ((1 / (b - (p : Rat))).den : Int) < (1 / (b - (p : Rat))).num := by rw [ib.1, eb.2]; omega
  have c2 : ((1 / (a - (p : Rat))).den : Int) < (1 / (a - (p : Rat))).num := by rw [ia.1, ea.2]; omega
  have pos1 : 0 < (1 / (a - (p : Rat))).num.natAbs * (1 / (a - (p : Rat))).den := Nat.mul_pos (by omega) (by have := (1 / (a - (p : Rat))).den_nz; omega)
  rcases l with rfl | ⟨l1, l2, l3, l4, l5⟩
  · have z := t.sz sa sb
    refine .inr ⟨c1, c2, by simp only [List.length_cons, List.length_nil]; omega, ?_, ?_⟩
    · have := mul_lt_pow z.1.1 z.1.2
      have e : 2 * n + 1 - [p].length = n + n := by simp only [List.length_cons, List.length_nil]; omega
      rw [e]; exact this
    · have := mul_lt_pow z.2.1 z.2.2
      have e : 2 * n + 1 - [p].length = n + n := by simp only [List.length_cons, List.length_nil]; omega
      rw [e]; exact this
  · have p1 : 1 ≤ p := by
      rw [t.p_eq, flo_iff, rle, int_num, int_den]
      omega
    have k1 : 1 ≤ 2 * n + 1 - us.length := by omega
    have q1 := half_step k1 p1 t.hi_pos t.hi_lt l5
    have q2 := half_step k1 p1 t.lo_pos t.lo_lt l4
    have e : 2 * n + 1 - (p :: us).length = 2 * n + 1 - us.length - 1 := by rw [List.length_cons]; omega
    refine .inr ⟨c1, c2, ?_, by rw [e]; exact q1, by rw [e]; exact q2⟩
    rw [List.length_cons]
    have : 2 * n + 1 - us.length - 1 ≠ 0 := fun z => by
      rw [z, Nat.pow_zero] at q2
      omega
    omega
theorem Long.len {n : Nat} {us : List Int} {a b : Rat} (l : Long n us a b) : us.length ≤ 2 * n := by
  rcases l with rfl | l
  · exact Nat.zero_le _
  · exact l.2.2.1
end V2
set_option Elab.async false
set_option linter.all false
set_option maxRecDepth 100000
set_option maxHeartbeats 4000000
/-! ## zip and enumerate over lists and tuples, whichever -/
namespace V2
open PySem PySem.Spec PyProof.Rows L2
open PySem.W (Frag)
/-- of a source: true for a list, false for a tuple -/
def HasS (k : Bool) (h : Heap) (a : Addr) (its : Array Value) : Prop := match k with
  | true => h.IsList a its
  | false => h.IsTuple a its
def ItS (k : Bool) (h : Heap) (it a : Addr) (i : Nat) : Prop := match k with
  | true => h.IsListIter it a i
  | false => h.IsTupleIter it a i
def SqS (k : Bool) (K : Frag) (H : Hp) (a : Addr) (xs : List V) : Prop := match k with
  | true => SqL K H a xs
  | false => SqT K H a xs
def newS (k : Bool) (a : Addr) : Obj := match k with
  | true => { cls := .type "list_iterator", data := .fields #[.ref a, .int 0 0] }
  | false => { cls := .type "tuple_iterator", data := .fields #[.ref a, .int 0 0] }
section
variable {k : Bool} {h h2 : Heap} {it a : Addr} {i : Nat} {its : Array Value}
theorem ItS.obj (q : ItS k h it a i) : ∃ o, h.get? it = some o ∧ ∀ v, o.data ≠ .cell v := by
  cases k
  · obtain ⟨o, e, _, d⟩ := q
    exact ⟨o, e, fun v z => by rw [d] at z; cases z⟩
  · obtain ⟨o, e, _, d⟩ := q
    exact ⟨o, e, fun v z => by rw [d] at z; cases z⟩
theorem ItS.at (q : ItS k h it a i) (e : ∀ o, h.get? it = some o → h2.get? it = some o) : ItS k h2 it a i := by
  cases k
  · exact Heap.IsTupleIter.at q e
  · exact Heap.IsListIter.at q e
theorem ItS.start (e : h.get? it = some (newS k a)) : ItS k h it a 0 := by
  cases k
  · exact ⟨_, e, rfl, rfl⟩
  · exact ⟨_, e, rfl, rfl⟩
theorem HasS.live (q : HasS k h a its) : ∃ o, h.get? a = some o := by
  cases k
  · obtain ⟨o, e, _⟩ := q
    exact ⟨o, e⟩
  · obtain ⟨o, e, _⟩ := q
    exact ⟨o, e⟩
theorem begins_s : Begins (.ref a) (newS k a) (fun h => HasS k h a its) := by
  cases k
  · exact begins_tuple a its
  · exact begins_list a its
theorem draws_s {prog : Program} {w : World} {A : Around} (hh : A.handled = none) (ne : a ≠ it) : Draws prog w A it [it, a] its.size (fun i v => its[i]? = some v) (fun i h => ItS k h it a i ∧ HasS k h a its) := by
  cases k
  · exact Draws.tuple hh it a ne its
  · exact Draws.list hh it a ne its
end
theorem inv_s {k : Bool} {X : Cx} {pins : List (Addr × Obj)} {σ : L2.St} {H : Hp} {s : Shared} (I : Inv X pins σ H s) {a : Addr} {xs : List V} (q : SqS k X.K H a xs) : ∃ its : List Value, Vals xs its ∧ HasS k s.heap a its.toArray := by
  cases k
  · obtain ⟨its, rv, pl, _⟩ := I.tuple q
    exact ⟨its, rv, pl⟩
  · obtain ⟨its, rv, pl, _⟩ := I.list q
    exact ⟨its, rv, pl.isList⟩
theorem inj_s {k : Bool} {X : Cx} {pins : List (Addr × Obj)} {σ : L2.St} {H : Hp} {s : Shared} (I : Inv X pins σ H s) {a : Addr} {xs ys : List V} (q : SqS k X.K H a xs) (r : SqS k X.K H a ys) : xs = ys := by
  cases k
  · exact I.tuple_inj q r
  · exact I.list_inj q r
/-! ### zip -/
/-- the sources as they stand at each turn, the items in new pairs -/
def ItZ (k l : Bool) (K : Frag) (a b : Addr) : It :=
  ⟨fun i H => ∃ (xs ys : List V) (x y : V), SqS k K H a xs ∧ SqS l K H b ys ∧ xs[i]? = some x ∧ ys[i]? = some y,
    fun i H v H2 => ∃ T x y, v = .ref T ∧ H T = none ∧ H2 = upd H T (.tup [x, y]) ∧ (∀ xs, SqS k K H a xs → xs[i]? = some x) ∧ ∀ ys, SqS l K H b ys → ys[i]? = some y,
    fun i H => ∃ xs ys : List V, SqS k K H a xs ∧ SqS l K H b ys ∧ i ≤ xs.length ∧ i ≤ ys.length ∧ (i = xs.length ∨ i = ys.length)⟩
theorem turn_zz {P : Program} {w : World} {K : Frag} {es : List Expr} {n1 : Nat} {tp : Pos} {k l : Bool} {a b z TI TO p q : Addr} (S : ZipSep2 z TI TO p q [p, a] [q, b]) (nea : a ≠ p) (neb : b ≠ q) :
    Turn P w K (.Tuple es n1 tp) (ItZ k l K a b) [z, TI, TO, p, q] z (fun i h => IsZip h z TI TO .none ∧ IsTupOf2 h TI (.ref p) (.ref q) ∧ (∃ x y, IsTupOf2 h TO x y) ∧ ItS k h p a i ∧ ItS l h q b i) where
  mem := by simp
  obj := fun i h st c hc => by
    obtain ⟨g1, g2, ⟨x, y, g3⟩, g4, g5⟩ := st
    simp only [List.mem_cons, List.not_mem_nil, or_false] at hc
    rcases hc with rfl | rfl | rfl | rfl | rfl
    · exact ⟨_, g1, fun v e => nomatch e⟩
    · exact ⟨_, g2, fun v e => nomatch e⟩
    · exact ⟨_, g3, fun v e => nomatch e⟩
    · exact g4.obj
    · exact g5.obj
  keep := fun i h h2 st kp => by
    obtain ⟨g1, g2, ⟨x, y, g3⟩, g4, g5⟩ := st
    exact ⟨kp z (by simp) _ g1, kp TI (by simp) _ g2, ⟨x, y, kp TO (by simp) _ g3⟩, g4.at fun o e => kp p (by simp) o e, g5.at fun o e => kp q (by simp) o e⟩
  item := by
    intro X eP ew eK cal i pins s σ H E I fo st gd
    subst eP ew eK
    obtain ⟨g1, g2, ⟨x0, y0, g3⟩, g4, g5⟩ := st
    obtain ⟨xs, ys, x, y, s1, s2, ex, ey⟩ := gd
    obtain ⟨us, r1, h1⟩ := inv_s I s1
    obtain ⟨ws, r2, h2⟩ := inv_s I s2
    have hd : X.A.in1.handled = none := I.ok.hd cal
    have D1 := draws_s (k := k) (prog := X.prog) (w := X.w) (its := us.toArray) hd nea
    have D2 := draws_s (k := l) (prog := X.prog) (w := X.w) (its := ws.toArray) hd neb
    obtain ⟨u, eu, ru⟩ := r1.get ex
    obtain ⟨v, ev, rv⟩ := r2.get ey
    have i1 : i < us.toArray.size := by rw [List.size_toArray]; exact (List.getElem?_eq_some_iff.1 eu).1
    have i2 : i < ws.toArray.size := by rw [List.size_toArray]; exact (List.getElem?_eq_some_iff.1 ev).1
    have zl : z < s.heap.objs.size := Heap.lt_size g1
    refine wpAny_pyNext_zipD2_item S D1 D2 g1 g2 g3 ⟨g4, h1⟩ ⟨g5, h2⟩ i1 i2 fun x1 x2 m tk y1 y2 z' t' st1 st2 hT _ kp => ?_
    have e1 : x1 = u := by
      have : us.toArray[i]? = some x1 := y1
      rw [List.getElem?_toArray, eu] at this
      exact (Option.some.inj this).symm
    have e2 : x2 = v := by
      have : ws.toArray[i]? = some x2 := y2
      rw [List.getElem?_toArray, ev] at this
      exact (Option.some.inj this).symm
    subst e1 e2
    refine ⟨_, rfl, wpAny_letOwnedTupleGo_zip (s := { s with heap := m, toks := tk }) z' fun m2 z2 sb => ?_⟩
    have T2 : m2.get? s.heap.objs.size = some { cls := .type "tuple", data := .seq #[x1, x2] } := (sb.2 _ (Nat.ne_of_gt zl)).trans hT
    have ob : ObjOk X.prog X.w (upd H s.heap.objs.size (.tup [x, y])) m2 s.heap.objs.size (.tup [x, y]) := ⟨by show 2 ≤ sizeLine; decide, [x1, x2], .cons ru (.cons rv .nil), ⟨_, T2, rfl, _, rfl⟩⟩
    have chg : ∀ c o, c ∉ [z, TI, TO, p, q] → s.heap.get? c = some o → m2.get? c = some o := fun c o nc e => by
      simp only [List.mem_cons, List.not_mem_nil, or_false, not_or] at nc
      exact (sb.2 c nc.1).trans (kp c o nc.1 nc.2.2.1 nc.2.2.2.1 nc.2.2.2.2 e)
    have J := I.turnedNew (t' := tk) chg fo (Nat.le_refl _) ob
    refine ⟨.ref s.heap.objs.size, _, J, rfl, ⟨_, x, y, rfl, I.hok.fresh (Nat.le_refl _), rfl, fun ls e => by rw [inj_s I e s1]; exact ex, fun ls e => by rw [inj_s I e s2]; exact ey⟩, ⟨z2, ?_, ⟨x1, x2, ?_⟩, ?_, ?_⟩, fun c hc => ?_⟩
    · exact (sb.2 _ S.TIz).trans (kp _ _ S.TIz S.TITO S.TIi1 S.TIi2 g2)
    · exact (sb.2 _ S.TOz).trans t'
    · exact st1.1.at fun o e => (sb.2 _ (Ne.symm S.zi1)).trans e
    · exact st2.1.at fun o e => (sb.2 _ (Ne.symm S.zi2)).trans e
    · have hl : c < s.heap.objs.size := by
        simp only [List.mem_cons, List.not_mem_nil, or_false] at hc
        rcases hc with rfl | rfl | rfl | rfl | rfl
        · exact zl
        · exact Heap.lt_size g2
        · exact Heap.lt_size g3
        · obtain ⟨o, e, _⟩ := g4.obj; exact Heap.lt_size e
        · obtain ⟨o, e, _⟩ := g5.obj; exact Heap.lt_size e
      rw [upd_ne (Nat.ne_of_lt hl)]
      exact (fo c hc).1
  done := by
    intro X eP ew eK cal i pins s σ H E I fo st gd
    subst eP ew eK
    obtain ⟨g1, g2, ⟨x0, y0, g3⟩, g4, g5⟩ := st
    obtain ⟨xs, ys, s1, s2, l1, l2, en⟩ := gd
    obtain ⟨us, r1, h1⟩ := inv_s I s1
    obtain ⟨ws, r2, h2⟩ := inv_s I s2
    have hd : X.A.in1.handled = none := I.ok.hd cal
    have D1 := draws_s (k := k) (prog := X.prog) (w := X.w) (its := us.toArray) hd nea
    have D2 := draws_s (k := l) (prog := X.prog) (w := X.w) (its := ws.toArray) hd neb
    have a1 := r1.length
    have a2 := r2.length
    refine wpAny_pyNext_zipD2_end S D1 D2 g1 g2 g3 ⟨g4, h1⟩ ⟨g5, h2⟩ (by rw [List.size_toArray]; omega) (by rw [List.size_toArray]; omega) (by rw [List.size_toArray, List.size_toArray]; omega) fun m tk kp => ⟨rfl, ?_⟩
    refine I.turnedL (t' := tk) (ch := [z, TI, TO, p, q]) (fun c o nc e => ?_) fo
    simp only [List.mem_cons, List.not_mem_nil, or_false, not_or] at nc
    exact kp c o nc.1 nc.2.2.1 nc.2.2.2.1 nc.2.2.2.2 e
  self := fun A i s Q E st hq => wpAny_pyIter_zip st.1 hq
def iZZ (K : Frag) (ta : TA) : TI := fun σ H R => ta σ H fun vs H1 => ∃ (k l : Bool) (a b : Addr) (xs ys : List V), vs = [.ref a, .ref b] ∧ SqS k K H1 a xs ∧ SqS l K H1 b ys ∧ R (ItZ k l K a b) H1
theorem pi_zz {X : Cx} {e e2 : Expr} {ta : TA} {p pos tp : Pos} {es : List Expr} {n1 : Nat} (hg : Gl X "zip") (hm : X.mg "zip" = none) (ha : PA X [e, e2] ta)
    (hs : starEach [e, e2] X.env = (false, eval e X.env) :: starEach [e2] X.env := by rfl) (hpl : (backTo pos (starEach [e2] X.env)).any (·.1) = false := by rfl) :
    PI X (.Tuple es n1 tp) (.Call (.Name "zip" p) [e, e2] [] pos) (iZZ X.K ta) := by
  refine ⟨fun pn s0 sg G0 R J0 w0 => ?_⟩
  refine Call_ (ld_blt J0 hg hm PyProof.Rows.boot_zip (PyProof.Rows.callWith_type1 (thn (ha.run pos pn s0 sg G0 _ J0 w0) fun us a1 ⟨vs, G1, J1, r1, w1⟩ => ?_) hs hpl))
  obtain ⟨k, l, a, b, xs, ys, rfl, s1, s2, q⟩ := w1
  cases r1 with
  | cons c1 r1 =>
  cases r1 with
  | cons c2 r1 =>
  cases r1
  cases c1
  cases c2
  obtain ⟨us, _, h1⟩ := inv_s J1 s1
  obtain ⟨ws, _, h2⟩ := inv_s J1 s2
  obtain ⟨oa, ea⟩ := h1.live
  obtain ⟨ob, eb⟩ := h2.live
  have la := Heap.lt_size ea
  have lb := Heap.lt_size eb
  refine zip_begins2 (begins_s (k := k) (a := a) (its := us.toArray)) (begins_s (k := l) (a := b) (its := ws.toArray)) h1 h2 fun m hz hT hO e1 e2 _ kp => wpAny_pyIter_zip hz ?_
  have J2 : Inv X pn sg G1 { a1 with heap := m } := J1.kept (t' := a1.toks) kp
  have S := zip_sep2 (N := a1.heap.objs.size) (fp1 := [a]) (fp2 := [b]) (by simpa using la) (by simpa using lb)
  refine ⟨a1.heap.objs.size + 4, [a1.heap.objs.size + 4, a1.heap.objs.size + 2, a1.heap.objs.size + 3, a1.heap.objs.size, a1.heap.objs.size + 1], _, _, G1, rfl, J2, turn_zz (k := k) (l := l) S (Nat.ne_of_lt la) (Nat.ne_of_lt (Nat.lt_succ_of_lt lb)), ⟨hz, hT, ⟨_, _, hO⟩, ItS.start e1, ItS.start e2⟩, fun c hc => ?_, q⟩
  have hle : a1.heap.objs.size ≤ c := by
    simp only [List.mem_cons, List.not_mem_nil, or_false] at hc
    rcases hc with rfl | rfl | rfl | rfl | rfl
    · exact Nat.le_add_right _ _
    · exact Nat.le_add_right _ _
    · exact Nat.le_add_right _ _
    · exact Nat.le_refl _
    · exact Nat.le_add_right _ _
  exact J1.fpOk hle (J1.hok.fresh hle)
end V2
set_option Elab.async false
set_option linter.all false
set_option maxRecDepth 100000
set_option maxHeartbeats 4000000
/-! ## enumerate; both over data -/
namespace V2
open PySem PySem.Spec PyProof.Rows L2
open PySem.W (Frag)
/-! ### enumerate(x) -/
theorem meets_enum1 {v : Value} {o : Obj} {Z : Heap → Prop} (B : Begins v o Z) :
    Meets (Builtin.«enumerate.__new__» ⟨[.type "enumerate", v], []⟩) (fun _ R s => Z s.heap ∧
      R (.ok (.ret (.ref (s.heap.push o).objs.size))) { s with heap := (s.heap.push o).push { cls := .type "enumerate", data := .fields #[.none, .bool false, .ref s.heap.objs.size, rawInt 0, .none, .none] } }) :=
  .of_wp fun pg wd Ar R s hh => by
    obtain ⟨m, g, d, tk, os⟩ := s; obtain ⟨z, hh⟩ := hh
    have sub := sub_enumerate
    have go : ∀ {A2 : Around} {E : Value → Shared → Prop} {Q : Value → Shared → Prop}, Q (.ref m.objs.size) ⟨m.push o, g, d, tk, os⟩ → wpAny (model pg wd) A2 (pyIter v) Q E ⟨m, g, d, tk, os⟩ := fun q => B.iter pg wd _ _ ⟨m, g, d, tk, os⟩ _ z q
    wp_walk using go
    refine wpAny_stack_any fun sk => wpAny_pure ?_
    split
    · rename_i cl _ _ _ _ _
      cases (cl == Value.type "enumerate")
      · wp_walk using go
        exact ⟨_, rfl, hh⟩
      · wp_walk using go
        exact ⟨_, rfl, hh⟩
    · wp_walk using go
      exact ⟨_, rfl, hh⟩
theorem enum_starts {prog : Program} {w : World} {A : Around} {E : Value → Shared → Prop} {s : Shared} {v : Value} {o : Obj} {Z : Heap → Prop} {Q : Value → Shared → Prop} (B : Begins v o Z) (z : Z s.heap)
    (hq : ∀ m, IsEnum m (s.heap.objs.size + 1) s.heap.objs.size 0 .none → m.get? s.heap.objs.size = some o → (∀ b ob, s.heap.get? b = some ob → m.get? b = some ob) → Q (.ref (s.heap.objs.size + 1)) { s with heap := m }) :
    wpAny (model prog w) A (call (.type "enumerate") [v]) Q E s := by
  refine callType_new F.called_enumerate (by decide) (F.typeCall_enumerate_1 _) (F.newCall_enumerate_1 _) (fun obj => F.args_object_init_2 obj _) F.entry_enumerate_new (meets_enum1 B) ⟨z, ?_⟩
  have sz : (s.heap.push o).objs.size = s.heap.objs.size + 1 := Heap.size_push ..
  have e1 : IsEnum ((s.heap.push o).push { cls := .type "enumerate", data := .fields #[.none, .bool false, .ref s.heap.objs.size, rawInt 0, .none, .none] }) (s.heap.objs.size + 1) s.heap.objs.size 0 .none := by
    have q := Heap.get?_push_size (s.heap.push o) (o := { cls := .type "enumerate", data := .fields #[.none, .bool false, .ref s.heap.objs.size, rawInt 0, .none, .none] }) rfl
    rw [sz] at q; exact q
  show _ ∧ _
  rw [sz]
  exact ⟨⟨_, e1, rfl⟩, hq _ e1 (Heap.get?_push_of_some _ (Heap.get?_push_size _ B.free)) fun b ob x => Heap.get?_push_of_some _ (Heap.get?_push_of_some _ x)⟩
/-- the source as it stands at each turn, each item in a new pair with its place -/
def ItE (k : Bool) (K : Frag) (a : Addr) : It :=
  ⟨fun i H => ∃ (xs : List V) (x : V), SqS k K H a xs ∧ xs[i]? = some x,
    fun i H v H2 => ∃ T x, v = .ref T ∧ H T = none ∧ H2 = upd H T (.tup [.int (i : Nat), x]) ∧ ∀ xs, SqS k K H a xs → xs[i]? = some x,
    fun i H => ∃ xs : List V, SqS k K H a xs ∧ i = xs.length⟩
theorem turn_ee {P : Program} {w : World} {K : Frag} {es : List Expr} {n1 : Nat} {tp : Pos} {k : Bool} {a e p : Addr} (nea : a ≠ p) (nep : e ≠ p) (nee : e ≠ a) :
    Turn P w K (.Tuple es n1 tp) (ItE k K a) [e, p] e (fun i h => (∃ old, IsEnum h e p ((i : Nat) : Int) old) ∧ ItS k h p a i) where
  mem := by simp
  obj := fun i h st c hc => by
    obtain ⟨⟨old, g1⟩, g2⟩ := st
    simp only [List.mem_cons, List.not_mem_nil, or_false] at hc
    rcases hc with rfl | rfl
    · exact ⟨_, g1, fun v q => nomatch q⟩
    · exact g2.obj
  keep := fun i h h2 st kp => by
    obtain ⟨⟨old, g1⟩, g2⟩ := st
    exact ⟨⟨old, kp e (by simp) _ g1⟩, g2.at fun o q => kp p (by simp) o q⟩
  item := by
    intro X eP ew eK cal i pins s σ H E I fo st gd
    subst eP ew eK
    obtain ⟨⟨old, g1⟩, g2⟩ := st
    obtain ⟨xs, x, s1, ex⟩ := gd
    obtain ⟨us, r1, h1⟩ := inv_s I s1
    have hd : X.A.in1.handled = none := I.ok.hd cal
    have D1 := draws_s (k := k) (prog := X.prog) (w := X.w) (its := us.toArray) hd nea
    obtain ⟨u, eu, ru⟩ := r1.get ex
    have i1 : i < us.toArray.size := by rw [List.size_toArray]; exact (List.getElem?_eq_some_iff.1 eu).1
    have el : e < s.heap.objs.size := Heap.lt_size g1
    refine wpAny_pyNext_enum_itemC D1 g1 ⟨g2, h1⟩ i1 nep (by simp [nep, nee]) fun x1 m tk y1 o1 st1 hT _ kp => ?_
    have e1 : x1 = u := by
      have : us.toArray[i]? = some x1 := y1
      rw [List.getElem?_toArray, eu] at this
      exact (Option.some.inj this).symm
    subst e1
    refine ⟨_, rfl, wpAny_letOwnedTupleGo_enum (s := { s with heap := m, toks := tk + 1 }) o1 fun m2 z2 sb => ?_⟩
    have T2 : m2.get? s.heap.objs.size = some { cls := .type "tuple", data := .seq #[.int i tk, x1] } := (sb.2 _ (Nat.ne_of_gt el)).trans hT
    have ob : ObjOk X.prog X.w (upd H s.heap.objs.size (.tup [.int (i : Nat), x])) m2 s.heap.objs.size (.tup [.int (i : Nat), x]) := ⟨by show 2 ≤ sizeLine; decide, [.int i tk, x1], .cons ⟨_, rfl⟩ (.cons ru .nil), ⟨_, T2, rfl, _, rfl⟩⟩
    have chg : ∀ c o, c ∉ [e, p] → s.heap.get? c = some o → m2.get? c = some o := fun c o nc q => by
      simp only [List.mem_cons, List.not_mem_nil, or_false, not_or] at nc
      exact (sb.2 c nc.1).trans (kp c o nc.1 nc.2 q)
    have J := I.turnedNew (t' := tk + 1) chg fo (Nat.le_refl _) ob
    refine ⟨.ref s.heap.objs.size, _, J, rfl, ⟨_, x, rfl, I.hok.fresh (Nat.le_refl _), rfl, fun ls q => by rw [inj_s I q s1]; exact ex⟩, ⟨⟨x1, ?_⟩, ?_⟩, fun c hc => ?_⟩
    · have en : ((i + 1 : Nat) : Int) = (i : Int) + 1 := by omega
      rw [en]; exact z2
    · exact st1.1.at fun o q => (sb.2 _ (Ne.symm nep)).trans q
    · have hl : c < s.heap.objs.size := by
        simp only [List.mem_cons, List.not_mem_nil, or_false] at hc
        rcases hc with rfl | rfl
        · exact el
        · obtain ⟨o, q, _⟩ := g2.obj; exact Heap.lt_size q
      rw [upd_ne (Nat.ne_of_lt hl)]
      exact (fo c hc).1
  done := by
    intro X eP ew eK cal i pins s σ H E I fo st gd
    subst eP ew eK
    obtain ⟨⟨old, g1⟩, g2⟩ := st
    obtain ⟨xs, s1, rfl⟩ := gd
    obtain ⟨us, r1, h1⟩ := inv_s I s1
    have hd : X.A.in1.handled = none := I.ok.hd cal
    have D1 := draws_s (k := k) (prog := X.prog) (w := X.w) (its := us.toArray) hd nea
    have en : xs.length = us.toArray.size := by rw [List.size_toArray]; exact r1.length
    rw [en] at g1 g2
    refine wpAny_pyNext_enum_endD D1 g1 ⟨g2, h1⟩ fun m kp => ⟨rfl, ?_⟩
    refine I.turnedL (t' := s.toks) (ch := [e, p]) (fun c o nc q => ?_) fo
    simp only [List.mem_cons, List.not_mem_nil, or_false, not_or] at nc
    exact kp c o nc.2 q
  self := fun A i s Q E st hq => let ⟨⟨_, g1⟩, _⟩ := st; wpAny_pyIter_enum g1 hq
def iEE (K : Frag) (ta : TA) : TI := fun σ H R => ta σ H fun vs H1 => ∃ (k : Bool) (a : Addr) (xs : List V), vs = [.ref a] ∧ SqS k K H1 a xs ∧ R (ItE k K a) H1
theorem pi_ee {X : Cx} {e : Expr} {ta : TA} {p pos tp : Pos} {es : List Expr} {n1 : Nat} (hg : Gl X "enumerate") (hm : X.mg "enumerate" = none) (ha : PA X [e] ta) (hs : starEach [e] X.env = [(false, eval e X.env)] := by rfl) :
    PI X (.Tuple es n1 tp) (.Call (.Name "enumerate" p) [e] [] pos) (iEE X.K ta) := by
  refine ⟨fun pn s0 sg G0 R J0 w0 => ?_⟩
  refine Call_ (ld_blt J0 hg hm boot_enumerate (PyProof.Rows.callWith_type1 (thn (ha.run pos pn s0 sg G0 _ J0 w0) fun us a1 ⟨vs, G1, J1, r1, w1⟩ => ?_) hs rfl))
  obtain ⟨k, a, xs, rfl, s1, q⟩ := w1
  cases r1 with
  | cons c1 r1 =>
  cases r1
  cases c1
  obtain ⟨us, _, h1⟩ := inv_s J1 s1
  obtain ⟨oa, ea⟩ := h1.live
  have la := Heap.lt_size ea
  refine enum_starts (begins_s (k := k) (a := a) (its := us.toArray)) h1 fun m z1 e1 kp => wpAny_pyIter_enum z1 ?_
  have J2 : Inv X pn sg G1 { a1 with heap := m } := J1.kept (t' := a1.toks) kp
  refine ⟨a1.heap.objs.size + 1, [a1.heap.objs.size + 1, a1.heap.objs.size], _, _, G1, rfl, J2, turn_ee (k := k) (Nat.ne_of_lt la) (Nat.succ_ne_self _) (Nat.ne_of_gt (Nat.lt_succ_of_lt la)), ⟨⟨.none, z1⟩, ItS.start e1⟩, fun c hc => ?_, q⟩
  have hle : a1.heap.objs.size ≤ c := by
    simp only [List.mem_cons, List.not_mem_nil, or_false] at hc
    rcases hc with rfl | rfl
    · exact Nat.le_add_right _ _
    · exact Nat.le_refl _
  exact J1.fpOk hle (J1.hok.fresh hle)
/-! ### both over data -/
theorem src_key {K : Frag} {as1 : List Addr} {H1 : Hp} {h1 : Ho} {x : D} {xs : List D} {a : Addr} (r : Rel K as1 H1 (.ref a) x) (e : items h1 x = some xs) :
    ∃ k : Bool, ∀ as2 H2 h2, Later as1 H1 as2 H2 → HeapR K as2 H2 h2 → stay x xs h2 → ∃ us, SqS k K H2 a us ∧ RelAll K as2 H2 us xs := by
  cases r with
  | d r =>
    cases r with
    | lst sx ax =>
      simp only [items, Option.some.injEq] at e
      subst e
      exact ⟨true, fun as2 H2 h2 l _ _ => ⟨_, (sx.later l).sq, (ax.later l).rel⟩⟩
    | tup sx ax =>
      simp only [items, Option.some.injEq] at e
      subst e
      exact ⟨false, fun as2 H2 h2 l _ _ => ⟨_, (sx.later l).sq, (ax.later l).rel⟩⟩
  | @loc _ n hb =>
    refine ⟨true, fun as2 H2 h2 l r2 st => ?_⟩
    have st' : h2[n]? = some (O.lst xs) := st
    obtain ⟨c, hc, us, o1, o2⟩ := r2.at st'
    rw [l.at hb] at hc
    cases hc
    exact ⟨us, SqL.of o1, o2⟩
theorem new_pair {K : Frag} {as2 : List Addr} {H2 : Hp} {h2 : Ho} {T : Addr} {vs : List V} {ps : List PyData} (r2 : HeapR K as2 H2 h2) (hT : H2 T = none) (al : DvAll K as2 H2 vs ps) :
    Later as2 H2 as2 (upd H2 T (.tup vs)) ∧ HeapR K as2 (upd H2 T (.tup vs)) h2 ∧ Rel K as2 (upd H2 T (.tup vs)) (.ref T) (.d (.tuple ps)) := by
  have l : Later as2 H2 as2 (upd H2 T (.tup vs)) := Later.new _ hT
  refine ⟨l, r2.new _ hT, .d (.tup (.inl ⟨.inl upd_same, fun z => ?_⟩) (al.later l))⟩
  obtain ⟨u, e⟩ := r2.there z
  rw [hT] at e
  cases e
def zipD (ps qs : List PyData) : List D := (ps.zip qs).map fun z => D.d (.tuple [z.1, z.2])
def enumD (ps : List PyData) : List D := ps.zipIdx.map fun z => D.d (.tuple [.int (z.2 : Nat), z.1])
theorem zipD_len (ps qs : List PyData) : (zipD ps qs).length = min ps.length qs.length := by simp [zipD]
theorem zipD_get {ps qs : List PyData} {i : Nat} {z : D} (e : (zipD ps qs)[i]? = some z) : ∃ p q, ps[i]? = some p ∧ qs[i]? = some q ∧ z = .d (.tuple [p, q]) := by
  unfold zipD at e
  rw [List.getElem?_map, Option.map_eq_some_iff] at e
  obtain ⟨⟨p, q⟩, e1, rfl⟩ := e
  rw [List.getElem?_zip_eq_some] at e1
  exact ⟨p, q, e1.1, e1.2, rfl⟩
theorem enumD_len (ps : List PyData) : (enumD ps).length = ps.length := by simp [enumD]
theorem enumD_get {ps : List PyData} {i : Nat} {z : D} (e : (enumD ps)[i]? = some z) : ∃ p, ps[i]? = some p ∧ z = .d (.tuple [.int (i : Nat), p]) := by
  unfold enumD at e
  rw [List.getElem?_map, Option.map_eq_some_iff] at e
  obtain ⟨⟨p, j⟩, e1, rfl⟩ := e
  rw [List.getElem?_zipIdx, Option.map_eq_some_iff] at e1
  obtain ⟨q, e2, e3⟩ := e1
  cases e3
  exact ⟨p, e2, by simp⟩
theorem rel_data {K : Frag} {as : List Addr} {H : Hp} {us : List V} {xs : List D} {ps : List PyData} (r : RelAll K as H us xs) (e : allD xs = some ps) {i : Nat} {u : V} {p : PyData} (eu : us[i]? = some u) (ep : ps[i]? = some p) : Dv K as H u p := by
  obtain ⟨v, e1, d⟩ := (r.ofAllD e).get ep
  rw [eu] at e1
  cases e1
  exact d
theorem allD_len {xs : List D} {ps : List PyData} (e : allD xs = some ps) : xs.length = ps.length := by rw [allD_some e, List.length_map]
section
variable {X : Cx} {W : WX} {a b : Expr} {fa fb : WE} {ga : WA} {pos p tp : Pos} {es : List Expr} {n1 : Nat}
def iZip2 (ga : WA) : WI := fun ρ h Q E => ga ρ h (fun vs h1 => ∃ x y xs ys ps qs, vs = [x, y] ∧ items h1 x = some xs ∧ items h1 y = some ys ∧ allD xs = some ps ∧ allD ys = some qs ∧ Q (zipD ps qs) (fun h => stay x xs h ∧ stay y ys h) h1) E
def iEnum1 (ga : WA) : WI := fun ρ h Q E => ga ρ h (fun vs h1 => ∃ x xs ps, vs = [x] ∧ items h1 x = some xs ∧ allD xs = some ps ∧ Q (enumD ps) (stay x xs) h1) E
theorem SI.zip (hg : Gl X "zip") (hm : X.mg "zip" = none) (ha : SA X W [a, b] ga) (hs : starEach [a, b] X.env = (false, eval a X.env) :: starEach [b] X.env := by rfl) (hpl : (backTo pos (starEach [b] X.env)).any (·.1) = false := by rfl) :
    SI X W (.Tuple es n1 tp) (.Call (.Name "zip" p) [a, b] [] pos) (iZip2 ga) := by
  obtain ⟨_, pa, sa⟩ := ha
  refine ⟨_, pi_zz hg hm pa hs hpl, fun σ H as ρ h Q E R eR hR hq k kx => ?_⟩
  refine sa σ H as ρ h _ E _ eR hR hq (fun ws h1 vs as1 H1 hq1 l1 r1 rv => ?_) kx
  obtain ⟨x, y, xs, ys, ps, qs, rfl, ex, ey, ep, eq, q⟩ := hq1
  obtain ⟨u, v, rfl, ru, ru2⟩ := relAll2 rv
  obtain ⟨a1, _, rfl, _⟩ := items_rel ru r1 ex
  obtain ⟨b1, _, rfl, _⟩ := items_rel ru2 r1 ey
  obtain ⟨k1, key1⟩ := src_key ru ex
  obtain ⟨k2, key2⟩ := src_key ru2 ey
  obtain ⟨us, s1, m1⟩ := key1 as1 H1 h1 (Later.refl _ _) r1 (stay_items ex)
  obtain ⟨ts, s2, m2⟩ := key2 as1 H1 h1 (Later.refl _ _) r1 (stay_items ey)
  refine ⟨k1, k2, a1, b1, us, ts, rfl, s1, s2, k _ _ h1 as1 H1 _ q ⟨stay_items ex, stay_items ey⟩ l1 r1 ?_⟩
  intro i as2 H2 h2 l2 r2 st
  obtain ⟨us, s1, m1⟩ := key1 as2 H2 h2 l2 r2 st.1
  obtain ⟨ts, s2, m2⟩ := key2 as2 H2 h2 l2 r2 st.2
  have n1 := m1.length.trans (allD_len ep)
  have n2 := m2.length.trans (allD_len eq)
  refine ⟨fun hi => ?_, fun hi => ?_, fun v H3 y z ez => ?_⟩
  · rw [zipD_len] at hi
    exact ⟨us, ts, us[i]'(by omega), ts[i]'(by omega), s1, s2, List.getElem?_eq_getElem _, List.getElem?_eq_getElem _⟩
  · rw [zipD_len] at hi
    exact ⟨us, ts, s1, s2, by omega, by omega, by omega⟩
  · obtain ⟨T, u1, u2, rfl, hT, rfl, f1, f2⟩ := y
    obtain ⟨p1, p2, e1, e2, rfl⟩ := zipD_get ez
    exact new_pair r2 hT (.cons (rel_data m1 ep (f1 us s1) e1) (.cons (rel_data m2 eq (f2 ts s2) e2) .nil))
theorem SI.enum (hg : Gl X "enumerate") (hm : X.mg "enumerate" = none) (ha : SA X W [a] ga) (hs : starEach [a] X.env = [(false, eval a X.env)] := by rfl) :
    SI X W (.Tuple es n1 tp) (.Call (.Name "enumerate" p) [a] [] pos) (iEnum1 ga) := by
  obtain ⟨_, pa, sa⟩ := ha
  refine ⟨_, pi_ee hg hm pa hs, fun σ H as ρ h Q E R eR hR hq k kx => ?_⟩
  refine sa σ H as ρ h _ E _ eR hR hq (fun ws h1 vs as1 H1 hq1 l1 r1 rv => ?_) kx
  obtain ⟨x, xs, ps, rfl, ex, ep, q⟩ := hq1
  obtain ⟨u, rfl, ru⟩ := relAll1 rv
  obtain ⟨a1, _, rfl, _⟩ := items_rel ru r1 ex
  obtain ⟨k1, key1⟩ := src_key ru ex
  obtain ⟨us, s1, m1⟩ := key1 as1 H1 h1 (Later.refl _ _) r1 (stay_items ex)
  refine ⟨k1, a1, us, rfl, s1, k _ _ h1 as1 H1 _ q (stay_items ex) l1 r1 ?_⟩
  intro i as2 H2 h2 l2 r2 st
  obtain ⟨us, s1, m1⟩ := key1 as2 H2 h2 l2 r2 st
  have n1 := m1.length.trans (allD_len ep)
  refine ⟨fun hi => ?_, fun hi => ?_, fun v H3 y z ez => ?_⟩
  · rw [enumD_len] at hi
    exact ⟨us, us[i]'(by omega), s1, List.getElem?_eq_getElem _⟩
  · rw [enumD_len] at hi
    exact ⟨us, s1, by omega⟩
  · obtain ⟨T, u1, rfl, hT, rfl, f1⟩ := y
    obtain ⟨p1, e1, rfl⟩ := enumD_get ez
    exact new_pair r2 hT (.cons (.int _) (.cons (rel_data m1 ep (f1 us s1) e1) .nil))
end
end V2
set_option Elab.async false
set_option linter.all false
set_option maxRecDepth 100000
set_option maxHeartbeats 4000000
/-! ## all, any over a list of truths; steps for walks of pairs -/
namespace V2
open PySem PySem.Spec PyProof.Rows L2
open PySem.W (Frag)
theorem RelAll.truths {K : Frag} {as : List Addr} {H : Hp} : ∀ {bs : List Bool} {vs : List V}, RelAll K as H vs (bs.map fun b => D.d (.bool b)) → vs = bs.map V.bl
  | [], _, h => by cases h; rfl
  | b :: bs, _, h => by
    cases h with
    | cons h1 h2 =>
      cases h1 with | d h1 =>
      cases h1
      rw [RelAll.truths h2]; rfl
def rAllB : WR := fun xs h Q => ∃ (x : D) (bs : List Bool), xs = [x] ∧ litems h x = some (bs.map fun b => D.d (.bool b)) ∧ Q (.d (.bool (bs.all id))) h
def rAnyB : WR := fun xs h Q => ∃ (x : D) (bs : List Bool), xs = [x] ∧ litems h x = some (bs.map fun b => D.d (.bool b)) ∧ Q (.d (.bool (bs.any id))) h
section
variable {X : Cx} {W : WX} {a : Expr} {ga : WA} {pos p : Pos}
theorem cp_allB : CpA X (L2.rAll X.K) rAllB := by
  rintro xs h Q vs as H QV rv hR ⟨x, bs, rfl, e, q⟩ k
  obtain ⟨v, rfl, r⟩ := relAll1 rv
  obtain ⟨a, us, rfl, s, ra⟩ := litems_rel r hR e
  rw [ra.truths] at s
  exact ⟨a, bs, rfl, s, k.qd hR q (.bl _)⟩
theorem cp_anyB : CpA X (L2.rAny X.K) rAnyB := by
  rintro xs h Q vs as H QV rv hR ⟨x, bs, rfl, e, q⟩ k
  obtain ⟨v, rfl, r⟩ := relAll1 rv
  obtain ⟨a, us, rfl, s, ra⟩ := litems_rel r hR e
  rw [ra.truths] at s
  exact ⟨a, bs, rfl, s, k.qd hR q (.bl _)⟩
theorem SE.all (hg : Gl X "all") (hm : X.mg "all" = none) (hc : X.calm = true) (ha : SA X W [a] ga) (he : starEach [a] X.env = (false, eval a X.env) :: starEach [] X.env := by rfl) : SE X W (.Call (.Name "all" p) [a] [] pos) (fCall rAllB ga) := .callB (cr_all hc) cp_allB hg hm (by decide +kernel) ha (he := he) (hpl := rfl)
theorem SE.any (hg : Gl X "any") (hm : X.mg "any" = none) (hc : X.calm = true) (ha : SA X W [a] ga) (he : starEach [a] X.env = (false, eval a X.env) :: starEach [] X.env := by rfl) : SE X W (.Call (.Name "any" p) [a] [] pos) (fCall rAnyB ga) := .callB (cr_any hc) cp_anyB hg hm (by decide +kernel) ha (he := he) (hpl := rfl)
end
section
variable {ρ : En} {h : Ho} {Q : KD} {E : XD} {x y : D}
theorem i_zip2 {ga : WA} {QI : List D → (Ho → Prop) → Ho → Prop} (k : ga ρ h (fun vs h1 => ∃ x y xs ys ps qs, vs = [x, y] ∧ items h1 x = some xs ∧ items h1 y = some ys ∧ allD xs = some ps ∧ allD ys = some qs ∧ QI (zipD ps qs) (fun h => stay x xs h ∧ stay y ys h) h1) E) : iZip2 ga ρ h QI E := k
theorem i_enum1 {ga : WA} {QI : List D → (Ho → Prop) → Ho → Prop} (k : ga ρ h (fun vs h1 => ∃ x xs ps, vs = [x] ∧ items h1 x = some xs ∧ allD xs = some ps ∧ QI (enumD ps) (stay x xs) h1) E) : iEnum1 ga ρ h QI E := k
theorem i_allB {bs : List Bool} (e : litems h x = some (bs.map fun b => D.d (.bool b))) (k : Q (.d (.bool (bs.all id))) h) : rAllB [x] h Q := ⟨x, bs, rfl, e, k⟩
end
/-! ### isinstance of data -/
theorem i_isiD {T : String} {n : Nat} {p : PyData} {b : Bool} {ρ : En} {h : Ho} {Q : KD} {E : XD} (e : GetAt n ρ (.d p)) (hb : kitB (tyName p) T = some b) (k : Q (.d (.bool b)) h) : fIsi T (fVar n) ρ h Q E := i_var e ⟨b, hb, k⟩
def isInt : PyData → Bool
  | .int _ => true
  | .bool _ => true
  | _ => false
def isBool : PyData → Bool
  | .bool _ => true
  | _ => false
def isTup : PyData → Bool
  | .tuple _ => true
  | _ => false
theorem kit_int (p : PyData) : kitB (tyName p) "int" = some (isInt p) := by cases p <;> simp only [tyName, isInt, isBool, isTup] <;> decide +kernel
theorem kit_bool (p : PyData) : kitB (tyName p) "bool" = some (isBool p) := by cases p <;> simp only [tyName, isInt, isBool, isTup] <;> decide +kernel
theorem kit_tup (p : PyData) : kitB (tyName p) "tuple" = some (isTup p) := by cases p <;> simp only [tyName, isInt, isBool, isTup] <;> decide +kernel
end V2
set_option Elab.async false
set_option linter.all false
set_option maxRecDepth 100000
set_option maxHeartbeats 4000000
/-! ## a list's slice with a step -/
namespace V2
open PySem PySem.Spec PyProof.Rows L2
open PySem.W (Frag)
/-- what xs[lo:hi:c] picks out of a list -/
def pickL {α : Type} (xs : List α) (lo hi : Option Int) (c : Int) : List α :=
  (sliceRange (sliceBounds lo hi (some c) xs.length).1 (sliceBounds lo hi (some c) xs.length).2.1 (sliceBounds lo hi (some c) xs.length).2.2).filterMap fun k => xs[k]?
theorem vals_pickS {xs : List V} {us : List Value} (r : Vals xs us) (lo hi : Option Int) (c : Int) : Vals (pickL xs lo hi c) (pickL us lo hi c) := by
  unfold pickL
  rw [r.length]
  exact vals_pickF r (fun k => k) _
theorem dv_pickS {K : Frag} {as : List Addr} {H : Hp} {vs : List V} {ps : List PyData} (r : DvAll K as H vs ps) (lo hi : Option Int) (c : Int) : DvAll K as H (pickL vs lo hi c) (pickL ps lo hi c) := by
  unfold pickL
  rw [r.length]
  exact dv_pickF r (fun k => k) _
theorem pick_arr (us : List Value) (lo hi : Option Int) (c : Int) : slicePick us.toArray lo hi (some c) = (pickL us lo hi c).toArray := by
  unfold slicePick pickL
  rw [List.size_toArray]
  congr 2
  funext k
  exact List.getElem?_toArray ..
def tSlL (K : Frag) (te : TE) (tl th : TO) (c : Int) : TE := fun σ H Q => te σ H fun x H1 => tl σ H1 fun l H2 => th σ H2 fun u H3 => ∃ a xs, x = .ref a ∧ SqL K H3 a xs ∧ (pickL xs l u c).length ≤ sizeLine ∧ ∀ p, H3 p = none → Q (.ref p) (upd H3 p (.lst (pickL xs l u c)))
theorem pe_slL {X : Cx} {e se : Expr} {te : TE} {lo hi : Option Expr} {tl th : TO} {pos p2 : Pos} {c : Int} (c0 : c ≠ 0) (he : PE X e te) (hl : PO X lo tl) (hu : PO X hi th) (hs : StepC X se c) :
    PE X (.Subscript e (.Slice lo hi (some se) p2) pos) (tSlL X.K te tl th c) := by
  obtain ⟨ts, hs, hts⟩ := hs
  refine ⟨fun pn a0 sg G0 Q0 J0 w0 => ?_⟩
  refine Subscript_ (thn (he.run pn a0 sg G0 _ J0 w0) fun v a1 ⟨x, G1, J1, r1, w1⟩ => ?_)
  refine wpAny_Slice (thn (hl.run pn a1 sg G1 _ J1 w1) fun v1 a2 ⟨l, G2, J2, m1, w2⟩ => thn (hu.run pn a2 sg G2 _ J2 w2) fun v2 a3 ⟨u, G3, J3, m2, w3⟩ => ?_)
  refine thn (hs.run pn a3 sg G3 (fun o G4 => o = some c ∧ G4 = G3) J3 (hts sg G3 _ ⟨rfl, rfl⟩)) fun v3 a4 ⟨o, G4, J4, m3, eo, eG⟩ => ?_
  subst eo eG
  obtain ⟨b, xs, rfl, sx, hz, q⟩ := w3
  cases r1
  have J5 : Inv X pn sg G4 { a4 with heap := a4.heap.push { cls := .type "slice", data := .fields #[v1, v2, v3] } } := J4.kept (t' := a4.toks) fun _ _ z => Heap.get?_push_of_some _ z
  obtain ⟨its, rv, ht, hn⟩ := J5.list sx
  show wpAny (model X.prog X.w) X.A (subscriptTail e (.Slice lo hi (some se) p2) (.ref b) (.ref a4.heap.objs.size)) (EP X pn sg Q0) X.xe { a4 with heap := a4.heap.push { cls := .type "slice", data := .fields #[v1, v2, v3] } }
  refine tail_any (ops := [.ref b, .ref a4.heap.objs.size]) ht.isList.typeIs PySem.slot_list_getitem.lookup ?_ (by with_unfolding_all rfl)
  have hlen := rv.length
  refine wpAny_getItem_list_slice ht.isList (Heap.IsSliceOf.new _ v1 v2 v3) m1 m2 m3 (by simpa using c0) ?_ (by rw [List.size_toArray]; omega)
  rw [pick_arr]
  refine ⟨.ref _, _, J5.laid (t' := a4.toks) (o := .lst (pickL xs l u c)) (fun _ _ z => Heap.get?_push_of_some _ z) (Nat.le_refl _) ?_, rfl, q _ (J5.hok.fresh (Nat.le_refl _))⟩
  exact ⟨hz, _, 0, vals_pickS rv l u c, Heap.get?_push_size _ rfl⟩
def fSlL (c : Int) (fa : WE) (lo hi : En → Ho → (Option Int → Ho → Prop) → XD → Prop) : WE := fun ρ h Q E => fa ρ h (fun x h1 => lo ρ h1 (fun l h2 => hi ρ h2 (fun u h3 => match x with
  | .d (.list ps) => (pickL ps l u c).length ≤ sizeLine ∧ Q (.d (.list (pickL ps l u c))) h3
  | _ => False) E) E) E
theorem SE.slL {X : Cx} {W : WX} {a se : Expr} {fa : WE} {lo hi : Option Expr} {fl fu} {p2 pos : Pos} {c : Int} (c0 : c ≠ 0) (ha : SE X W a fa) (hl : SO X W lo fl) (hu : SO X W hi fu) (hs : StepC X se c) : SE X W (.Subscript a (.Slice lo hi (some se) p2) pos) (fSlL c fa fl fu) := by
  obtain ⟨_, pa, sa⟩ := ha
  obtain ⟨_, pl, sl⟩ := hl
  obtain ⟨_, pu, su⟩ := hu
  refine ⟨_, pe_slL c0 pa pl pu hs, fun σ H as ρ h Q E QV eR hR hq k kx => ?_⟩
  refine sa σ H as ρ h _ E _ eR hR hq (fun x h1 v as1 H1 hq1 l1 r1 rv => ?_) kx
  refine sl σ H1 as1 ρ h1 _ E _ (eR.later l1) r1 hq1 (fun lo h2 as2 H2 hq2 l2 r2 => ?_) (kx.later l1)
  refine su σ H2 as2 ρ h2 _ E _ ((eR.later l1).later l2) r2 hq2 (fun hi h3 as3 H3 hq3 l3 r3 => ?_) ((kx.later l1).later l2)
  have k3 := ((k.later l1).later l2).later l3
  have rv3 := (rv.later l2).later l3
  split at hq3
  · cases rv3 with | d rv3 =>
    cases rv3 with | lst sx ax =>
    have d := dv_pickS ax lo hi c
    exact ⟨_, _, rfl, sx.sq, by rw [d.length]; exact hq3.1, fun p hp => k3.newLst r3 hq3.2 d hp⟩
  · exact hq3.elim
/-! ## the truth of data -/
def tTru (fa : WE) : WT := fun ρ h Q E => fa ρ h (fun x h1 => match x with
  | .d .none => Q false h1
  | .d (.bool b) => Q b h1
  | .d (.int i) => Q (i != 0) h1
  | x => match items h1 x with
    | some xs => Q (!xs.isEmpty) h1
    | none => False) E
theorem relAll_empty {K : Frag} {as : List Addr} {H : Hp} {vs : List V} {xs : List D} (r : RelAll K as H vs xs) : (!vs.isEmpty) = !xs.isEmpty := by
  cases r <;> rfl
theorem ST.tru {X : Cx} {W : WX} {a : Expr} {fa : WE} (ha : SE X W a fa) (he : ∀ whole, isTrue a X.env whole = (do let v ← whole; standAt a.pos; holding [v] (truthy v)) := by intro _; rfl) : ST X W a (tTru fa) := by
  obtain ⟨ta, pa, sa⟩ := ha
  refine ⟨_, pt_truth pa he, fun σ H as ρ h Q E QV eR hR hq k kx => ?_⟩
  refine sa σ H as ρ h _ E _ eR hR hq (fun x h1 v as1 H1 hq1 l1 r1 rv => ?_) kx
  split at hq1
  · cases rv with | d rv =>
    cases rv
    exact ⟨_, rfl, k _ _ _ _ hq1 l1 r1⟩
  · cases rv with | d rv =>
    cases rv
    exact ⟨_, rfl, k _ _ _ _ hq1 l1 r1⟩
  · cases rv with | d rv =>
    cases rv
    exact ⟨_, rfl, k _ _ _ _ hq1 l1 r1⟩
  · split at hq1
    · rename_i xs e
      obtain ⟨p, vs, rfl, s, ra⟩ := items_rel rv r1 e
      refine ⟨_, ?_, k _ _ _ _ hq1 l1 r1⟩
      rcases s with s | s
      · exact .inl ⟨vs, s, (relAll_empty ra).symm⟩
      · exact .inr (.inl ⟨vs, s, (relAll_empty ra).symm⟩)
    · exact hq1.elim
end V2
set_option Elab.async false
set_option linter.all false
set_option maxRecDepth 100000
set_option maxHeartbeats 4000000
/-! ## the least and the greatest of a list of ints; comprehensions over places, and with draws -/
namespace V2
open PySem PySem.Spec PyProof.Rows L2
open PySem.W (Frag)
def rMinL : WR := fun xs h Q => ∃ (x : D) (ns : List Int), xs = [x] ∧ litems h x = some (ns.map fun i => D.d (.int i)) ∧ 0 < ns.length ∧ ∀ m, m ∈ ns → (∀ y, y ∈ ns → m ≤ y) → Q (.d (.int m)) h
def rMaxL : WR := fun xs h Q => ∃ (x : D) (ns : List Int), xs = [x] ∧ litems h x = some (ns.map fun i => D.d (.int i)) ∧ 0 < ns.length ∧ ∀ m, m ∈ ns → (∀ y, y ∈ ns → y ≤ m) → Q (.d (.int m)) h
section
variable {X : Cx} {W : WX} {a : Expr} {ga : WA} {pos p : Pos}
theorem cp_minL : CpA X (L2.rMin X.K) rMinL := by
  rintro xs h Q vs as H QV rv hR ⟨x, ns, rfl, e, hn, q⟩ k
  obtain ⟨v, rfl, r⟩ := relAll1 rv
  obtain ⟨a, us, rfl, s, ra⟩ := litems_rel r hR e
  rw [ra.ints] at s
  exact ⟨a, ns, rfl, s, hn, fun m h1 h2 => k.qd hR (q m h1 h2) (.int _)⟩
theorem cp_maxL : CpA X (L2.rMax X.K) rMaxL := by
  rintro xs h Q vs as H QV rv hR ⟨x, ns, rfl, e, hn, q⟩ k
  obtain ⟨v, rfl, r⟩ := relAll1 rv
  obtain ⟨a, us, rfl, s, ra⟩ := litems_rel r hR e
  rw [ra.ints] at s
  exact ⟨a, ns, rfl, s, hn, fun m h1 h2 => k.qd hR (q m h1 h2) (.int _)⟩
theorem SE.minL (hg : Gl X "min") (hm : X.mg "min" = none) (hc : X.calm = true) (ha : SA X W [a] ga) (he : starEach [a] X.env = (false, eval a X.env) :: starEach [] X.env := by rfl) : SE X W (.Call (.Name "min" p) [a] [] pos) (fCall rMinL ga) := .callB (cr_min hc) cp_minL hg hm (by decide +kernel) ha (he := he) (hpl := rfl)
theorem SE.maxL (hg : Gl X "max") (hm : X.mg "max" = none) (hc : X.calm = true) (ha : SA X W [a] ga) (he : starEach [a] X.env = (false, eval a X.env) :: starEach [] X.env := by rfl) : SE X W (.Call (.Name "max" p) [a] [] pos) (fCall rMaxL ga) := .callB (cr_max hc) cp_maxL hg hm (by decide +kernel) ha (he := he) (hpl := rfl)
end
section
variable {ρ : En} {h h0 hb rest : Ho} {Q : KD} {E : XD} {st : Ho → Prop} {wg : WG} {tt : WT} {te : WE} {xs : List D}
theorem i_minL {x : D} {ns : List Int} (el : litems h x = some (ns.map cell)) (hn : 0 < ns.length) (k : ∀ m, m ∈ ns → (∀ y, y ∈ ns → m ≤ y) → Q (.d (.int m)) h) : rMinL [x] h Q := ⟨x, ns, rfl, el, hn, k⟩
/-- lists of draws -/
theorem lcd_ind (dh : Deal rest h0) (nr : noRef (rest.length + 2) rest = true) {QL : List PyData → Ho → Prop} (I : Nat → List PyData → Prop) (hst : ∀ h, st h)
    (hs : ∀ (k : Nat) (x : D) (acc : List PyData) (h : Ho) (G : KD), xs[k]? = some x → I k acc → Deal (rest ++ [.lst (acc.map D.d)]) h → (∀ p h2, I (k + 1) (acc ++ [p]) → Deal (rest ++ [.lst (acc.map D.d)]) h2 → G (.d p) h2) → ∃ ρ1, wg x h ρ = some ρ1 ∧ acc.length < sizeLine ∧ te ρ1 h G noX)
    (he : ∀ acc h, I xs.length acc → Deal rest h → QL acc h) (hI : I 0 []) :
    st (h0 ++ [.lst []]) ∧ lcGo wg tTrue te st h0.length ρ (fun h2 => ∃ hh acc ps, h2 = hh ++ [.lst acc] ∧ hh.length = h0.length ∧ (hh = h0 ∨ noRef h0.length hh = true) ∧ allD acc = some ps ∧ QL ps hh) xs (h0 ++ [.lst []]) := by
  refine ⟨hst _, ?_⟩
  have hl := dh.len
  rw [hl]
  have aux : ∀ (ys : List D) (k : Nat), (∀ j, ys[j]? = xs[k + j]?) → k + ys.length = xs.length → ∀ acc h, I k acc → Deal (rest ++ [.lst (acc.map D.d)]) h → lcGo wg tTrue te st (rest.length + 2) ρ (fun h2 => ∃ hh acc ps, h2 = hh ++ [.lst acc] ∧ hh.length = rest.length + 2 ∧ (hh = h0 ∨ noRef (rest.length + 2) hh = true) ∧ allD acc = some ps ∧ QL ps hh) ys h := by
    intro ys
    induction ys with
    | nil =>
      intro k _ hk acc h hi d
      obtain ⟨cs, mix, rfl, h1, h2, h3, h4⟩ := d.is
      refine ⟨.lst (cs.map cell) :: .lst [.loc 0, cell mix] :: rest, acc.map D.d, acc, rfl, rfl, .inr ?_, allD_map _, he acc _ (by rw [← hk]; simpa using hi) ⟨cs, mix, rfl, h1, h2, h3, h4⟩⟩
      unfold noRef at nr ⊢
      rw [List.all_cons, List.all_cons, nr, Bool.and_true, Bool.and_eq_true]
      refine ⟨?_, ?_⟩
      · rw [List.all_eq_true]
        intro x hx
        obtain ⟨c, _, rfl⟩ := List.mem_map.1 hx
        rfl
      · show ((0 != rest.length + 2) && true && true) = true
        simp
    | cons y ys ih =>
      intro k hj hk acc h hi d
      obtain ⟨ρ1, e1, e2, e3⟩ := hs k y acc h (fun y h2 => match h2[rest.length + 2]? with
        | some (.lst acc) => acc.length < sizeLine ∧ st (h2.set (rest.length + 2) (.lst (acc ++ [y]))) ∧ lcGo wg tTrue te st (rest.length + 2) ρ (fun h2 => ∃ hh acc ps, h2 = hh ++ [.lst acc] ∧ hh.length = rest.length + 2 ∧ (hh = h0 ∨ noRef (rest.length + 2) hh = true) ∧ allD acc = some ps ∧ QL ps hh) ys (h2.set (rest.length + 2) (.lst (acc ++ [y])))
        | none => False) (by rw [← Nat.add_zero k, ← hj 0]; rfl) hi d (fun p h2 hi2 d2 => by
          have g : h2[rest.length + 2]? = some (.lst (acc.map D.d)) := d2.at' (by simp)
          simp only [g]
          refine ⟨?_, hst _, ih (k + 1) (fun j => by rw [Nat.add_assoc, Nat.add_comm 1 j, ← hj (j + 1)]; rfl) (by rw [← hk, List.length_cons]; omega) (acc ++ [p]) _ hi2 ?_⟩
          · obtain ⟨ρ1, _, e2, _⟩ := hs k y acc h (fun _ _ => True) (by rw [← Nat.add_zero k, ← hj 0]; rfl) hi d (fun _ _ _ _ => trivial)
            rw [List.length_map]
            exact e2
          · have := d2.put rest.length (.lst (acc.map D.d ++ [D.d p]))
            rw [List.set_append_right _ _ (Nat.le_refl _), Nat.sub_self, List.set_cons_zero] at this
            rw [List.map_append]
            exact this)
      unfold lcGo
      rw [e1]
      unfold tTrue
      dsimp only
      rw [if_pos rfl]
      exact e3
  exact aux xs 0 (fun j => by rw [Nat.zero_add]) (by simp) [] _ hI (dh.snoc _)
/-- the list of draws is a place -/
theorem lcl_ind (dh : Deal rest h0) {QL : Ho → Prop} (I : Nat → List PyData → Prop) (hst : ∀ h, st h)
    (hs : ∀ (k : Nat) (x : D) (acc : List PyData) (h : Ho) (G : KD), xs[k]? = some x → I k acc → Deal (rest ++ [.lst (acc.map D.d)]) h → (∀ p h2, I (k + 1) (acc ++ [p]) → Deal (rest ++ [.lst (acc.map D.d)]) h2 → G (.d p) h2) → ∃ ρ1, wg x h ρ = some ρ1 ∧ acc.length < sizeLine ∧ te ρ1 h G noX)
    (he : ∀ acc h, I xs.length acc → Deal (rest ++ [.lst (acc.map D.d)]) h → QL h) (hI : I 0 []) :
    st (h0 ++ [.lst []]) ∧ lcGo wg tTrue te st h0.length ρ QL xs (h0 ++ [.lst []]) := by
  refine ⟨hst _, ?_⟩
  have hl := dh.len
  rw [hl]
  have aux : ∀ (ys : List D) (k : Nat), (∀ j, ys[j]? = xs[k + j]?) → k + ys.length = xs.length → ∀ acc h, I k acc → Deal (rest ++ [.lst (acc.map D.d)]) h → lcGo wg tTrue te st (rest.length + 2) ρ QL ys h := by
    intro ys
    induction ys with
    | nil =>
      intro k _ hk acc h hi d
      exact he acc h (by rw [← hk]; simpa using hi) d
    | cons y ys ih =>
      intro k hj hk acc h hi d
      obtain ⟨ρ1, e1, e2, e3⟩ := hs k y acc h (fun y h2 => match h2[rest.length + 2]? with
        | some (.lst acc) => acc.length < sizeLine ∧ st (h2.set (rest.length + 2) (.lst (acc ++ [y]))) ∧ lcGo wg tTrue te st (rest.length + 2) ρ QL ys (h2.set (rest.length + 2) (.lst (acc ++ [y])))
        | none => False) (by rw [← Nat.add_zero k, ← hj 0]; rfl) hi d (fun p h2 hi2 d2 => by
          have g : h2[rest.length + 2]? = some (.lst (acc.map D.d)) := d2.at' (by simp)
          simp only [g]
          refine ⟨?_, hst _, ih (k + 1) (fun j => by rw [Nat.add_assoc, Nat.add_comm 1 j, ← hj (j + 1)]; rfl) (by rw [← hk, List.length_cons]; omega) (acc ++ [p]) _ hi2 ?_⟩
          · obtain ⟨ρ1, _, e2, _⟩ := hs k y acc h (fun _ _ => True) (by rw [← Nat.add_zero k, ← hj 0]; rfl) hi d (fun _ _ _ _ => trivial)
            rw [List.length_map]
            exact e2
          · have := d2.put rest.length (.lst (acc.map D.d ++ [D.d p]))
            rw [List.set_append_right _ _ (Nat.le_refl _), Nat.sub_self, List.set_cons_zero] at this
            rw [List.map_append]
            exact this)
      unfold lcGo
      rw [e1]
      unfold tTrue
      dsimp only
      rw [if_pos rfl]
      exact e3
  exact aux xs 0 (fun j => by rw [Nat.zero_add]) (by simp) [] _ hI (dh.snoc _)
/-- over a place that the turns leave alone -/
theorem lcv_indS {QL : List PyData → Ho → Prop} (I : Nat → List D → Prop) (hst : ∀ acc, st (hb ++ [.lst acc]))
    (hs : ∀ (k : Nat) (x : D) (acc : List D), xs[k]? = some x → I k acc → ∃ ρ1 y, wg x (hb ++ [.lst acc]) ρ = some ρ1 ∧ (∀ P : KD, P y (hb ++ [.lst acc]) → te ρ1 (hb ++ [.lst acc]) P noX) ∧ acc.length < sizeLine ∧ I (k + 1) (acc ++ [y]))
    (he : ∀ acc, I xs.length acc → ∃ ps, AllD acc ps ∧ QL ps hb) (h0 : I 0 []) :
    st (hb ++ [.lst []]) ∧ lcGo wg tTrue te st hb.length ρ (fun h2 => ∃ hh acc ps, h2 = hh ++ [.lst acc] ∧ hh.length = hb.length ∧ (hh = hb ∨ noRef hb.length hh = true) ∧ allD acc = some ps ∧ QL ps hh) xs (hb ++ [.lst []]) := by
  refine ⟨hst _, ?_⟩
  have aux : ∀ (ys : List D) (k : Nat), (∀ j, ys[j]? = xs[k + j]?) → k + ys.length = xs.length → ∀ acc, I k acc → lcGo wg tTrue te st hb.length ρ (fun h2 => ∃ hh acc ps, h2 = hh ++ [.lst acc] ∧ hh.length = hb.length ∧ (hh = hb ∨ noRef hb.length hh = true) ∧ allD acc = some ps ∧ QL ps hh) ys (hb ++ [.lst acc]) := by
    intro ys
    induction ys with
    | nil =>
      intro k _ hk acc hi
      obtain ⟨ps, a, q⟩ := he acc (by rw [← hk]; simpa using hi)
      exact ⟨hb, acc, ps, rfl, rfl, .inl rfl, a.eq, q⟩
    | cons y ys ih =>
      intro k hj hk acc hi
      obtain ⟨ρ1, z, e1, e2, e3, e4⟩ := hs k y acc (by rw [← Nat.add_zero k, ← hj 0]; rfl) hi
      have ihk := ih (k + 1) (fun j => by rw [Nat.add_assoc, Nat.add_comm 1 j, ← hj (j + 1)]; rfl) (by rw [← hk, List.length_cons]; omega)
      unfold lcGo
      rw [e1]
      unfold tTrue
      dsimp only
      rw [if_pos rfl]
      refine e2 _ ?_
      have g1 : (hb ++ [O.lst acc])[hb.length]? = some (.lst acc) := by simp
      have g2 : (hb ++ [O.lst acc]).set hb.length (.lst (acc ++ [z])) = hb ++ [.lst (acc ++ [z])] := by simp
      simp only [g1, g2]
      exact ⟨e3, hst _, ihk _ e4⟩
  exact aux xs 0 (fun j => by rw [Nat.zero_add]) (by simp) [] h0
end
end V2
set_option Elab.async false
set_option linter.all false
set_option maxRecDepth 100000
set_option maxHeartbeats 4000000
/-! ## texts over data: methods, slices, signs, numbers as texts, f-strings; more within an except suite -/
namespace V2
open PySem PySem.Spec PyProof.Rows L2
open PySem.W (Frag)
theorem MtR.mono {X : Cx} {id : String} {r r' : V → List V → Hp → VK → Prop} (h : MtR X id r) (i : ∀ x xs H Q, r' x xs H Q → r x xs H Q) : MtR X id r' := fun pins s σ H x xs v us Q I rx rs q => h pins s σ H x xs v us Q I rx rs (i _ _ _ _ q)
/-- a text's method without arguments -/
def fM0 (g : Str → PyData) (fo : WE) : WE := fun ρ h Q E => fo ρ h (fun x h1 => match x with
  | .d (.str a) => Q (.d (g a)) h1
  | _ => False) E
/-- with another text -/
def fM1 (C : Str → Str → Prop) (g : Str → Str → PyData) (fo fe : WE) : WE := fun ρ h Q E => fo ρ h (fun x h1 => match x with
  | .d (.str a) => fe ρ h1 (fun y h2 => match y with
    | .d (.str b) => C a b ∧ Q (.d (g a b)) h2
    | _ => False) E
  | _ => False) E
def strsD (ys : List Str) : List PyData := ys.map PyData.str
theorem dv_strs {K : Frag} {as : List Addr} {H : Hp} : ∀ ys : List Str, DvAll K as H (ys.map V.str) (strsD ys)
  | [] => .nil
  | y :: ys => .cons (.str y) (dv_strs ys)
section
variable {X : Cx} {W : WX} {o e a b : Expr} {fo fe fa fb : WE} {name : Str} {apos pos p : Pos} {id : String}
theorem SE.m0 {gV : Str → V} {g : Str → PyData} (slot : Slot "str" name id) (ty : typeOf (.builtin id) = pure (.type "method_descriptor")) (rule : MtR X id (fun x xs H Q => ∃ a, x = .str a ∧ xs = [] ∧ True ∧ Q (gV a) H)) (hg : ∀ K as H a, Dv K as H (gV a) (g a)) (ho : SE X W o fo)
    (hbase : attributeBase o name X.env (eval o X.env) = eval o X.env := by rfl) (hline : (apos.endLine == pos.line) = true := by rfl) : SE X W (.Call (.Attribute o name apos) [] [] pos) (fM0 g fo) := by
  obtain ⟨_, po, so⟩ := ho
  refine ⟨_, pe_m0 slot ty rule po hbase hline, fun σ H as ρ h Q E QV eR hR hq k kx => ?_⟩
  refine so σ H as ρ h _ E _ eR hR hq (fun x h1 v as1 H1 hq1 l1 r1 rv => ?_) kx
  split at hq1
  · cases rv with | d rv =>
    cases rv
    exact ⟨⟨_, rfl⟩, _, rfl, rfl, trivial, (k.later l1).qd r1 hq1 (hg _ _ _ _)⟩
  · exact hq1.elim
theorem SE.isascii (ho : SE X W o fo) (hbase : attributeBase o "isascii" X.env (eval o X.env) = eval o X.env := by rfl) (hline : (apos.endLine == pos.line) = true := by rfl) : SE X W (.Call (.Attribute o "isascii" apos) [] [] pos) (fM0 (fun a => .bool (Txt.isascii a)) fo) := SE.m0 PySem.F.slot_str_isascii PySem.F.type_str_isascii mt_isascii (fun _ _ _ _ => .bl _) ho hbase hline
theorem SE.isdigit (ho : SE X W o fo) (hbase : attributeBase o "isdigit" X.env (eval o X.env) = eval o X.env := by rfl) (hline : (apos.endLine == pos.line) = true := by rfl) : SE X W (.Call (.Attribute o "isdigit" apos) [] [] pos) (fM0 (fun a => .bool (Txt.isdigit a)) fo) := SE.m0 PySem.F.slot_str_isdigit PySem.F.type_str_isdigit mt_isdigit (fun _ _ _ _ => .bl _) ho hbase hline
theorem SE.m1 {C : Str → Str → Prop} {gV : Str → Str → V} {g : Str → Str → PyData} (slot : Slot "str" name id) (ty : typeOf (.builtin id) = pure (.type "method_descriptor")) (rule : MtR X id (fun x xs H Q => ∃ a b, x = .str a ∧ xs = [.str b] ∧ C a b ∧ Q (gV a b) H)) (hg : ∀ K as H a b, Dv K as H (gV a b) (g a b)) (ho : SE X W o fo) (he : SE X W e fe)
    (hs : starEach [e] X.env = [(false, eval e X.env)] := by rfl) (hbase : attributeBase o name X.env (eval o X.env) = eval o X.env := by rfl) (hline : (apos.endLine == pos.line) = true := by rfl) : SE X W (.Call (.Attribute o name apos) [e] [] pos) (fM1 C g fo fe) := by
  obtain ⟨_, po, so⟩ := ho
  obtain ⟨_, pe, se⟩ := he
  refine ⟨_, pe_m1 slot ty rule po pe hs hbase hline, fun σ H as ρ h Q E QV eR hR hq k kx => ?_⟩
  refine so σ H as ρ h _ E _ eR hR hq (fun x h1 v as1 H1 hq1 l1 r1 rv => ?_) kx
  split at hq1
  · cases rv with | d rv =>
    cases rv
    refine ⟨⟨_, rfl⟩, ?_⟩
    refine se σ H1 as1 ρ h1 _ E _ (eR.later l1) r1 hq1 (fun y h2 w as2 H2 hq2 l2 r2 rw' => ?_) (kx.later l1)
    split at hq2
    · cases rw' with | d rw' =>
      cases rw'
      exact ⟨_, _, rfl, rfl, hq2.1, ((k.later l1).later l2).qd r2 hq2.2 (hg _ _ _ _ _)⟩
    · exact hq2.elim
  · exact hq1.elim
theorem SE.startswith (ho : SE X W o fo) (he : SE X W e fe) (hs : starEach [e] X.env = [(false, eval e X.env)] := by rfl) (hbase : attributeBase o "startswith" X.env (eval o X.env) = eval o X.env := by rfl) (hline : (apos.endLine == pos.line) = true := by rfl) :
    SE X W (.Call (.Attribute o "startswith" apos) [e] [] pos) (fM1 (fun _ _ => True) (fun a b => .bool (Txt.startswith a b)) fo fe) :=
  SE.m1 (gV := fun a b => .bl (Txt.startswith a b)) PySem.F.slot_str_startswith PySem.F.type_str_startswith (MtR.mono mt_startswith fun _ _ _ _ ⟨a, b, h1, h2, _, q⟩ => ⟨a, b, h1, h2, q⟩) (fun _ _ _ _ _ => .bl _) ho he hs hbase hline
theorem SE.removeprefix (ho : SE X W o fo) (he : SE X W e fe) (hs : starEach [e] X.env = [(false, eval e X.env)] := by rfl) (hbase : attributeBase o "removeprefix" X.env (eval o X.env) = eval o X.env := by rfl) (hline : (apos.endLine == pos.line) = true := by rfl) :
    SE X W (.Call (.Attribute o "removeprefix" apos) [e] [] pos) (fM1 (fun a _ => a.length ≤ sizeLine) (fun a b => .str (Txt.removeprefix a b)) fo fe) :=
  SE.m1 (gV := fun a b => .str (Txt.removeprefix a b)) PySem.F.slot_str_removeprefix PySem.F.type_str_removeprefix mt_removeprefix (fun _ _ _ _ _ => .str _) ho he hs hbase hline
/-- a new list of texts, a new tuple of three -/
theorem SE.split (ho : SE X W o fo) (he : SE X W e fe) (hs : starEach [e] X.env = [(false, eval e X.env)] := by rfl) (hbase : attributeBase o "split" X.env (eval o X.env) = eval o X.env := by rfl) (hline : (apos.endLine == pos.line) = true := by rfl) :
    SE X W (.Call (.Attribute o "split" apos) [e] [] pos) (fM1 (fun a b => (b.length == 0) = false ∧ a.length + 2 ≤ sizeLine) (fun a b => .list (strsD (Txt.split a b))) fo fe) := by
  obtain ⟨_, po, so⟩ := ho
  obtain ⟨_, pe, se⟩ := he
  refine ⟨_, pe_split po pe hs hbase hline, fun σ H as ρ h Q E QV eR hR hq k kx => ?_⟩
  refine so σ H as ρ h _ E _ eR hR hq (fun x h1 v as1 H1 hq1 l1 r1 rv => ?_) kx
  split at hq1
  · cases rv with | d rv =>
    cases rv
    refine ⟨⟨_, rfl⟩, ?_⟩
    refine se σ H1 as1 ρ h1 _ E _ (eR.later l1) r1 hq1 (fun y h2 w as2 H2 hq2 l2 r2 rw' => ?_) (kx.later l1)
    split at hq2
    · cases rw' with | d rw' =>
      cases rw'
      exact ⟨_, _, rfl, rfl, hq2.1.1, hq2.1.2, fun p hp => ((k.later l1).later l2).newLst r2 hq2.2 (dv_strs _) hp⟩
    · exact hq2.elim
  · exact hq1.elim
theorem SE.partition (ho : SE X W o fo) (he : SE X W e fe) (hs : starEach [e] X.env = [(false, eval e X.env)] := by rfl) (hbase : attributeBase o "partition" X.env (eval o X.env) = eval o X.env := by rfl) (hline : (apos.endLine == pos.line) = true := by rfl) :
    SE X W (.Call (.Attribute o "partition" apos) [e] [] pos) (fM1 (fun a b => (b.length == 0) = false ∧ a.length ≤ sizeLine) (fun a b => .tuple [.str (Txt.partition a b).1, .str (Txt.partition a b).2.1, .str (Txt.partition a b).2.2]) fo fe) := by
  obtain ⟨_, po, so⟩ := ho
  obtain ⟨_, pe, se⟩ := he
  refine ⟨_, pe_partition po pe hs hbase hline, fun σ H as ρ h Q E QV eR hR hq k kx => ?_⟩
  refine so σ H as ρ h _ E _ eR hR hq (fun x h1 v as1 H1 hq1 l1 r1 rv => ?_) kx
  split at hq1
  · cases rv with | d rv =>
    cases rv
    refine ⟨⟨_, rfl⟩, ?_⟩
    refine se σ H1 as1 ρ h1 _ E _ (eR.later l1) r1 hq1 (fun y h2 w as2 H2 hq2 l2 r2 rw' => ?_) (kx.later l1)
    split at hq2
    · cases rw' with | d rw' =>
      cases rw'
      exact ⟨_, _, rfl, rfl, hq2.1.1, hq2.1.2, fun p hp => ((k.later l1).later l2).newTup r2 hq2.2 (.cons (.str _) (.cons (.str _) (.cons (.str _) .nil))) hp⟩
    · exact hq2.elim
  · exact hq1.elim
end
/-! ### numbers and texts -/
def rStr1 : WR := fun xs h Q => match xs with
  | [.d (.int i)] => i.natAbs.log2 < 1920 ∧ Q (.d (.str (Str.ofString (toString i)))) h
  | _ => False
def rIntS : WR := fun xs h Q => match xs with
  | [.d (.str a)] => ∃ n, PySem.intText? a = some n ∧ a.length ≤ 640 ∧ Q (.d (.int n)) h
  | _ => False
def rLenS : WR := fun xs h Q => match xs with
  | [.d (.str z)] => z.length ≤ sizeLine ∧ Q (.d (.int z.length)) h
  | _ => rLen xs h Q
section
variable {X : Cx} {W : WX} {a b : Expr} {es : List Expr} {ga : WA} {fa fb : WE} {pos p p2 : Pos}
theorem cp_str1 : CpA X (fun xs H Q => ∃ i, xs = [.int i] ∧ i.natAbs.log2 < 1920 ∧ Q (.str (toString i)) H) rStr1 := by
  intro xs h Q vs as H QV rv hR hq k
  unfold rStr1 at hq
  split at hq
  · obtain ⟨v, rfl, r⟩ := relAll1 rv
    rw [rel_int r]
    exact ⟨_, rfl, hq.1, k.qd hR hq.2 (.str _)⟩
  · exact hq.elim
theorem cp_intS : CpA X (fun xs H Q => ∃ a n, xs = [.str a] ∧ PySem.intText? a = some n ∧ a.length ≤ 640 ∧ Q (.int n) H) rIntS := by
  intro xs h Q vs as H QV rv hR hq k
  unfold rIntS at hq
  split at hq
  · obtain ⟨v, rfl, r⟩ := relAll1 rv
    obtain ⟨n, e1, e2, q⟩ := hq
    cases r with | d r =>
    cases r
    exact ⟨_, n, rfl, e1, e2, k.qd hR q (.int _)⟩
  · exact hq.elim
theorem SE.str1 (hg : Gl X "str") (hm : X.mg "str" = none) (ha : SA X W [a] ga) (he : starEach [a] X.env = (false, eval a X.env) :: starEach [] X.env := by rfl) : SE X W (.Call (.Name "str" p) [a] [] pos) (fCall rStr1 ga) := .callTy call_str_int cp_str1 hg hm (by decide +kernel) ha (he := he) (hpl := rfl)
theorem SE.intS (hg : Gl X "int") (hm : X.mg "int" = none) (ha : SA X W [a] ga) (he : starEach [a] X.env = (false, eval a X.env) :: starEach [] X.env := by rfl) : SE X W (.Call (.Name "int" p) [a] [] pos) (fCall rIntS ga) := .callTy call_int_str cp_intS hg hm (by decide +kernel) ha (he := he) (hpl := rfl)
theorem cp_lenS : CpA X (fun xs H Q => (∃ p ys, xs = [.ref p] ∧ (SqL X.K H p ys ∨ SqT X.K H p ys) ∧ Q (.int ys.length) H) ∨ ∃ z, xs = [.str z] ∧ z.length ≤ sizeLine ∧ Q (.int z.length) H) rLenS := by
  intro xs h Q vs as H QV rv hR hq k
  unfold rLenS at hq
  split at hq
  · obtain ⟨v, rfl, r⟩ := relAll1 rv
    cases r with | d r =>
    cases r
    exact .inr ⟨_, rfl, hq.1, k.qd hR hq.2 (.int _)⟩
  · exact .inl (cp_len _ _ _ _ _ _ _ rv hR hq k)
theorem SE.lenS (hg : Gl X "len") (hm : X.mg "len" = none) (ha : SA X W [a] ga) (he : starEach [a] X.env = (false, eval a X.env) :: starEach [] X.env := by rfl) : SE X W (.Call (.Name "len" p) [a] [] pos) (fCall rLenS ga) := .callB (call_len_seq.or call_len_str) cp_lenS hg hm (by decide +kernel) ha (he := he) (hpl := rfl)
/-! ### one sign: s[i], in, for -/
def rIxS2 : WR2 := fun x y h Q => match x with
  | .d (.str z) => ∃ i c, y = .d (.int i) ∧ z.length ≤ sizeLine ∧ L2.atI z.cps.toList i = some c ∧ Q (.d (.str ⟨#[c]⟩)) h
  | _ => rIx2 x y h Q
theorem cp_ixS : Cp2 X (fun x y H Q => (rIxL X.K x y H Q ∨ rIxT X.K x y H Q) ∨ rIxS x y H Q) rIxS2 := by
  intro x y h Q v w as H QV rx ry hR hq k
  unfold rIxS2 at hq
  split at hq
  · obtain ⟨i, c, rfl, h1, h2, q⟩ := hq
    cases rx with | d rx =>
    cases rx
    rw [rel_int ry]
    exact .inr ⟨_, i, c, rfl, rfl, h1, h2, k.qd hR q (.str _)⟩
  · exact .inl (cp_ix _ _ _ _ _ _ _ _ _ rx ry hR hq k)
theorem SE.ixS (ha : SE X W a fa) (hb : SE X W b fb) (hs : PlainIx b := by exact fun _ _ => rfl) : SE X W (.Subscript a b pos) (fBin rIxS2 fa fb) := by
  obtain ⟨ta, pa, sa⟩ := ha
  obtain ⟨tb, pb, sb⟩ := hb
  exact ⟨_, pe_ix ((ix_list.or ix_tup).or ix_str) pa pb hs, sp_op cp_ixS sa sb⟩
def rInS : WR2 := fun x y h Q => match x, y with
  | .d (.str s), .d (.str z) => ∃ c, s = ⟨#[c]⟩ ∧ Q (.d (.bool (decide (c ∈ z.cps.toList)))) h
  | _, _ => False
theorem cp_inS : Cp2 X (fun x y H Q => ∃ (c : Nat) (z : Str), x = .str ⟨#[c]⟩ ∧ y = .str z ∧ Q (.bl (decide (c ∈ z.cps.toList))) H) rInS := by
  intro x y h Q v w as H QV rx ry hR hq k
  unfold rInS at hq
  split at hq
  · obtain ⟨c, rfl, q⟩ := hq
    cases rx with | d rx =>
    cases ry with | d ry =>
    cases rx
    cases ry
    exact ⟨c, _, rfl, rfl, k.qd hR q (.bl _)⟩
  · exact hq.elim
theorem SE.inS (ha : SE X W a fa) (hb : SE X W b fb) (hm : behindInMarks .In b = false := by rfl) : SE X W (.Compare a [.In] [b] pos) (fBin rInS fa fb) := .cmp op_in_sign cp_inS ha hb hm
theorem ST.inS (ha : SE X W a fa) (hb : SE X W b fb) (hm : behindInMarks .In b = false := by rfl) : ST X W (.Compare a [.In] [b] pos) (tVal (fBin rInS fa fb)) := .cmp op_in_sign cp_inS ha hb hm
def signs (z : Str) : List D := z.cps.toList.map fun c => D.d (.str ⟨#[c]⟩)
def iSigns (fa : WE) : WI := fun ρ h Q E => fa ρ h (fun x h1 => match x with
  | .d (.str z) => Q (signs z) (fun _ => True) h1
  | _ => False) E
theorem walks_signs {K : Frag} {as1 : List Addr} {H1 : Hp} {z : Str} {st : Ho → Prop} : Walks K as1 H1 (signs z) st (Its z) := by
  intro i as2 H2 h2 l r2 _
  have hlen : (signs z).length = z.cps.size := by simp [signs]
  refine ⟨fun hi => by rw [hlen] at hi; exact hi, fun hi => by rw [hlen] at hi; exact Nat.le_of_eq hi.symm, fun v H3 y x ex => ?_⟩
  obtain ⟨rfl, c, hc, rfl⟩ := y
  refine ⟨Later.refl _ _, r2, ?_⟩
  unfold signs at ex
  rw [List.getElem?_map, Array.getElem?_toList, hc] at ex
  cases ex
  exact .d (.str _)
theorem SI.signs {tg : Expr} (ha : SE X W a fa) : SI X W tg a (iSigns fa) := by
  obtain ⟨_, pa, sa⟩ := ha
  refine ⟨_, pi_str pa, fun σ H as ρ h Q E R eR hR hq k kx => ?_⟩
  refine sa σ H as ρ h _ E _ eR hR hq (fun x h1 v as1 H1 hq1 l1 r1 rv => ?_) kx
  split at hq1
  · cases rv with | d rv =>
    cases rv
    exact ⟨_, rfl, k _ _ h1 as1 H1 _ hq1 trivial l1 r1 walks_signs⟩
  · exact hq1.elim
/-! ### slices of a text -/
def fSlS (fa : WE) (lo hi : En → Ho → (Option Int → Ho → Prop) → XD → Prop) : WE := fun ρ h Q E => fa ρ h (fun x h1 => lo ρ h1 (fun l h2 => hi ρ h2 (fun u h3 => match x with
  | .d (.str z) => z.length ≤ sizeLine ∧ Q (.d (.str (cutS z l u))) h3
  | _ => False) E) E) E
theorem SE.sliceS {lo hi : Option Expr} {fl fu} (ha : SE X W a fa) (hl : SO X W lo fl) (hu : SO X W hi fu) : SE X W (.Subscript a (.Slice lo hi Option.none p2) pos) (fSlS fa fl fu) := by
  obtain ⟨_, pa, sa⟩ := ha
  obtain ⟨_, pl, sl⟩ := hl
  obtain ⟨_, pu, su⟩ := hu
  refine ⟨_, pe_slice sl_str pa pl pu, fun σ H as ρ h Q E QV eR hR hq k kx => ?_⟩
  refine sa σ H as ρ h _ E _ eR hR hq (fun x h1 v as1 H1 hq1 l1 r1 rv => ?_) kx
  refine sl σ H1 as1 ρ h1 _ E _ (eR.later l1) r1 hq1 (fun lo h2 as2 H2 hq2 l2 r2 => ?_) (kx.later l1)
  refine su σ H2 as2 ρ h2 _ E _ ((eR.later l1).later l2) r2 hq2 (fun hi h3 as3 H3 hq3 l3 r3 => ?_) ((kx.later l1).later l2)
  have k3 := ((k.later l1).later l2).later l3
  split at hq3
  · cases rv with | d rv =>
    cases rv
    exact ⟨_, rfl, hq3.1, k3.qd r3 hq3.2 (.str _)⟩
  · exact hq3.elim
end
/-! ### f-strings -/
def fFmt (fa : WE) : WE := fun ρ h Q E => fa ρ h (fun x h1 => match x with
  | .d (.int i) => i.natAbs.log2 < 1920 ∧ Q (.d (.str (Str.ofString (toString i)))) h1
  | .d (.str y) => y.length ≤ sizeLine ∧ Q (.d (.str y)) h1
  | _ => False) E
def fJs : List WE → Str → En → Ho → (Str → Ho → Prop) → XD → Prop
  | [], acc, _, h, Q, _ => Q acc h
  | f :: fs, acc, ρ, h, Q, E => f ρ h (fun x h1 => match x with
    | .d (.str y) => (acc ++ y).length ≤ sizeLine ∧ fJs fs (acc ++ y) ρ h1 Q E
    | _ => False) E
def fJoin (fs : List WE) : WE := fun ρ h Q E => fJs fs Str.empty ρ h (fun z h1 => Q (.d (.str z)) h1) E
section
variable {X : Cx} {W : WX} {a : Expr} {es : List Expr} {fa : WE} {pos : Pos}
theorem SE.fmt (ha : SE X W a fa) : SE X W (.FormattedValue a (-1) none pos) (fFmt fa) := by
  obtain ⟨_, pa, sa⟩ := ha
  refine ⟨_, pe_fmt pa, fun σ H as ρ h Q E QV eR hR hq k kx => ?_⟩
  refine sa σ H as ρ h _ E _ eR hR hq (fun x h1 v as1 H1 hq1 l1 r1 rv => ?_) kx
  split at hq1
  · rw [rel_int rv]
    exact .inr ⟨_, rfl, hq1.1, (k.later l1).qd r1 hq1.2 (.str _)⟩
  · cases rv with | d rv =>
    cases rv
    exact .inl ⟨_, rfl, hq1.1, (k.later l1).qd r1 hq1.2 (.str _)⟩
  · exact hq1.elim
def SJ (X : Cx) (W : WX) (es : List Expr) (fs : List WE) : Prop := ∃ ts, PJ X es ts ∧ ∀ acc σ H as ρ h (Q : Str → Ho → Prop) E (QV : Str → Hp → Prop), EnvR X.K as H ρ σ → HeapR X.K as H h → fJs fs acc ρ h Q E →
  (∀ z h' as1 H', Q z h' → Later as H as1 H' → HeapR X.K as1 H' h' → QV z H') → XTo X W as H σ E → tJs ts acc σ H QV
theorem SJ.nil : SJ X W [] [] := ⟨[], .nil, fun _ _ _ _ _ _ _ _ _ _ hR hq k _ => k _ _ _ _ hq (Later.refl _ _) hR⟩
theorem SJ.cons {fs : List WE} (ha : SE X W a fa) (hr : SJ X W es fs) : SJ X W (a :: es) (fa :: fs) := by
  obtain ⟨_, pa, sa⟩ := ha
  obtain ⟨_, pr, sr⟩ := hr
  refine ⟨_, .cons pa pr, fun acc σ H as ρ h Q E QV eR hR hq k kx => ?_⟩
  refine sa σ H as ρ h _ E _ eR hR hq (fun x h1 v as1 H1 hq1 l1 r1 rv => ?_) kx
  split at hq1
  · cases rv with | d rv =>
    cases rv
    exact ⟨_, rfl, hq1.1, sr _ σ H1 as1 ρ h1 Q E QV (eR.later l1) r1 hq1.2 (fun z h' as2 H2 q l r => k z h' as2 H2 q (l1.trans l) r) (kx.later l1)⟩
  · exact hq1.elim
theorem SE.join {v1 v2 : Expr} {rest : List Expr} {fs : List WE} (h : SJ X W (v1 :: v2 :: rest) fs) : SE X W (.JoinedStr (v1 :: v2 :: rest) pos) (fJoin fs) := by
  obtain ⟨_, pj, sj⟩ := h
  exact ⟨_, pe_joined pj, fun σ H as ρ h Q E QV eR hR hq k kx => sj _ σ H as ρ h _ E _ eR hR hq (fun z h' as1 H' q l r => (k.later l).qd r q (.str _)) kx⟩
end
/-! ### within an except suite -/
section
variable {X : Cx} {i : Nat} {n : Str} {pos p : Pos} {e b : Expr} {es rest : List Expr} {fe fb : XE'} {ga : Ex → WA} {ft gt : Ex → WT}
theorem SXW.or1 (he : SXT X i e ft) : SXW X i (.BoolOp .Or [e] pos) ft := by
  intro a oe cls d pn hz hd
  obtain ⟨_, pe, se⟩ := he a oe cls d pn hz hd
  exact ⟨_, pw_or1 pe, se⟩
theorem SXW.or (he : SXT X i e ft) (hb : SXW X i (.BoolOp .Or (b :: rest) pos) gt) : SXW X i (.BoolOp .Or (e :: b :: rest) pos) (fun x => tOr2 (ft x) (gt x)) := by
  intro a oe cls d pn hz hd
  obtain ⟨_, pe, se⟩ := he a oe cls d pn hz hd
  obtain ⟨_, pb, sb⟩ := hb a oe cls d pn hz hd
  refine ⟨_, pw_or pe pb, fun x σ H as ρ h Q E QV eR hR ho hq k => ?_⟩
  refine se x σ H as ρ h _ E _ eR hR ho hq (fun c h1 as1 H1 hq1 l1 r1 => ?_)
  cases c with
  | true => exact iteT (k _ _ _ _ hq1 l1 r1)
  | false => exact iteF (sb x σ H1 as1 ρ h1 Q E QV (eR.later l1) r1 (ho.later l1) hq1 (k.later l1))
theorem SXE.add (he : SXE X i e fe) (hb : SXE X i b fb) : SXE X i (.BinOp e .Add b pos) (fun x => fBin rAdd2 (fe x) (fb x)) := by
  intro a oe cls d pn hz hd
  obtain ⟨_, pe, se⟩ := he a oe cls d pn hz hd
  obtain ⟨_, pb, sb⟩ := hb a oe cls d pn hz hd
  refine ⟨_, pe_op op_addV pe pb, fun x σ H as ρ h Q E QV eR hR ho hq k => ?_⟩
  refine se x σ H as ρ h _ E _ eR hR ho hq (fun y h1 v as1 H1 hq1 l1 r1 rv => ?_)
  refine sb x σ H1 as1 ρ h1 _ E _ (eR.later l1) r1 (ho.later l1) hq1 (fun z h2 w as2 H2 hq2 l2 r2 rw' => ?_)
  exact cp_add (X := X.suite a ((a, oe) :: pn)) y z h2 Q v w as2 H2 QV (rv.later l2) rw' r2 hq2 (k.later (l1.trans l2))
theorem SXE.str1 (hg : Gl X "str") (hm : X.mg "str" = none) (ha : SXA X i [e] ga) (he : starEach [e] X.env = (false, eval e X.env) :: starEach [] X.env := by rfl) : SXE X i (.Call (.Name "str" p) [e] [] pos) (fun x => fCall rStr1 (ga x)) := by
  intro a oe cls d pn hz hd
  obtain ⟨_, pa, sa⟩ := ha a oe cls d pn hz hd
  refine ⟨_, pe_callTy call_str_int hg hm (by decide +kernel) pa (he := he) (hpl := rfl), fun x σ H as ρ h Q E QV eR hR ho hq k => ?_⟩
  refine sa x σ H as ρ h _ E _ eR hR ho hq (fun xs h1 vs as1 H1 hq1 l1 r1 rv => ?_)
  exact cp_str1 (X := X.suite a ((a, oe) :: pn)) _ _ _ _ _ _ _ rv r1 hq1 (k.later l1)
/-- if c: return a; return b -/
theorem suite_ifret {c : Expr} {p1 p2 p3 : Pos} (hc : SXT X i c ft) (he : SXE X i e fe) (hb : SXE X i b fb) : SSuite X i [.If c [.Return (some e) p1] [] p2, .Return (some b) p3] (fun x => sRet (fIf (ft x) (fe x) (fb x))) := by
  intro a oe cls d pn hz hd
  obtain ⟨_, pc, sc⟩ := hc a oe cls d pn hz hd
  obtain ⟨_, pe, se⟩ := he a oe cls d pn hz hd
  obtain ⟨_, pb, sb⟩ := hb a oe cls d pn hz hd
  refine ⟨_, pss_cons (ps_if pc (pss_one (ps_ret pe)) pss_nil) (pss_one (ps_ret pb)), fun x σ H as ρ h D D' eR hs hR xr hq k => ?_⟩
  refine sc x σ H as ρ h _ (exOf D ρ) _ eR hR ⟨hs, xr⟩ hq (fun t h1 as1 H1 hq1 l1 r1 => ?_)
  have kr : ∀ y h' v as2 H', D.rt y h' → Later as1 H1 as2 H' → HeapR X.K as2 H' h' → Rel X.K as2 H' v y → D'.rt v H' := fun y h' v as2 H' q l r rr => k.rt _ _ _ _ _ q (l1.trans l) r rr
  have hh : Hold X i a cls d x σ as1 H1 := Hold.later l1 ⟨hs, xr⟩
  cases t with
  | true => exact iteT (se x σ H1 as1 ρ h1 D.rt (exOf D ρ) D'.rt (eR.later l1) r1 hh hq1 kr)
  | false => exact iteF (sb x σ H1 as1 ρ h1 D.rt (exOf D ρ) D'.rt (eR.later l1) r1 hh hq1 kr)
end
end V2
set_option Elab.async false
set_option linter.all false
set_option maxRecDepth 100000
set_option maxHeartbeats 8000000
namespace LW
open PySem PySem.Spec PyProof.Rows L2 V2
open PySem.W (Frag)

/-! the readings over data -/
def B_is_number_text : WS := (sRet (fAnd (fM0 (fun a => .bool (Txt.isascii a)) (fVar 0)) (fAnd (fM0 (fun a => .bool (Txt.isdigit a)) (fVar 0)) (fOr (fBin rEq2 (fVar 0) (fC (.str "0"))) (fNot (fM1 (fun _ _ => True) (fun a b => .bool (Txt.startswith a b)) (fVar 0) (fC (.str "0"))))))))
def M_is_number_text : WF := mir 1 1 B_is_number_text
def B_is_int : WS := (sRet (fAnd (fIsi "int" (fVar 0)) (fNot (fIsi "bool" (fVar 0)))))
def M_is_int : WF := mir 1 1 B_is_int
def B_is_tuple_of : WS := (sRet (fAnd (fIsi "tuple" (fVar 0)) (fBin rEq2 (fCall rLen (aCons (fVar 0) aNil)) (fVar 1))))
def M_is_tuple_of : WF := mir 2 2 B_is_tuple_of
def B_fraction : WS := (sSeq (sIf (tVal (fBin rEq2 (fVar 1) (fC (.int 0)))) (sRaise "InvalidSize" "word" (aCons (fC (.str "bottom")) aNil)) sNext)
  (sSeq (sAsg (fCall rGcd2 (aCons (fVar 0) (aCons (fVar 1) aNil))) (gNm 2))
  (sSeq (sIf (tVal (fBin (rCmp2 fun i j => decide (i < j)) (fVar 1) (fC (.int 0)))) (sAsg (fUn (fun i => .int (-i)) (fVar 2)) (gNm 2)) sNext)
  (sRet (fTup (aCons (fBin rDiv2 (fVar 0) (fVar 2)) (aCons (fBin rDiv2 (fVar 1) (fVar 2)) aNil)))))))
def M_fraction : WF := mir 3 2 B_fraction
def B_whole : WS := (sRet (fTup (aCons (fVar 0) (aCons (fC (.int 1)) aNil))))
def M_whole : WF := mir 1 1 B_whole
def B_fraction_text : WS := (sSeq (sAsg (fVar 0) (gTp 2 (gsCons (gNm 1) (gsCons (gNm 2) gsNil))))
  (sSeq (sIf (tVal (fBin rEq2 (fVar 2) (fC (.int 1)))) (sRet (fCall rStr1 (aCons (fVar 1) aNil))) sNext)
  (sRet (fJoin [(fFmt (fVar 1)), (fC (.str "/")), (fFmt (fVar 2))]))))
def M_fraction_text : WF := mir 3 1 B_fraction_text
def B__law_source : WS := (sSeq (sAsg (fLcV (iSeq (fSl (fVar 0) oNone (oSome (fC (.int 63))))) (gNm 2) tTrue (fCall rAbs (aCons (fCall rInt1 (aCons (fVar 2) aNil)) aNil)) [2]) (gNm 1))
  (sSeq (sAsg (fC (.int 10002)) (gNm 3))
  (sSeq (sFor (iSeq (fVar 1)) (gNm 2) (sAsg (fBin rMod2 (fCall rInt1 (aCons (fBin rAdd2 (fBin rAdd2 (fBin rMul2 (fVar 3) (fC (.int 48271))) (fBin rMod2 (fVar 2) (fC (.int 2147483549)))) (fC (.int 41))) aNil)) (fC (.int 2147483647))) (gNm 3)))
  (sRet (fLoc (aCons (fRevLoc (fLcV (iSeq (fVar 1)) (gNm 2) (tVal (fBin (rCmp2 fun i j => decide (j ≤ i)) (fVar 2) (fBin rPow2 (fC (.int 10)) (fC (.int 18))))) (fVar 2) [2])) (aCons (fVar 3) aNil)))))))
def M__law_source : WF := mir 4 1 B__law_source
def B__law_any : WS := (sSeq (sWhile (tAnd2 (tVal (fBin rNe2 (fBin rIx2 (fVar 0) (fC (.int 0))) (fLst aNil))) (tVal (fBin rEq2 (fBin rIx2 (fBin rIx2 (fVar 0) (fC (.int 0))) (fUn (fun i => .int (-i)) (fC (.int 1)))) (fC (.int 0))))) (sDrop (fPop (fBin rIx2 (fVar 0) (fC (.int 0))))))
  (sSeq (sIf (tVal (fBin rNe2 (fBin rIx2 (fVar 0) (fC (.int 0))) (fLst aNil))) (sSeq (sAsg (fCall rInt1 (aCons (fPop (fBin rIx2 (fVar 0) (fC (.int 0)))) aNil)) (gNm 2))
  (sSeq (sDrop (fAppend (fBin rIx2 (fVar 0) (fC (.int 0))) (aCons (fBin rDiv2 (fVar 2) (fVar 1)) aNil)))
  (sRet (fBin rMod2 (fVar 2) (fVar 1))))) sNext)
  (sSeq (sSub (fBin rMod2 (fCall rInt1 (aCons (fBin rAdd2 (fBin rMul2 (fBin rIx2 (fVar 0) (fC (.int 1))) (fC (.int 48271))) (fC (.int 41))) aNil)) (fC (.int 2147483647))) (fVar 0) (fC (.int 1)))
  (sRet (fBin rMod2 (fCall rInt1 (aCons (fBin rDiv2 (fBin rIx2 (fVar 0) (fC (.int 1))) (fC (.int 64))) aNil)) (fVar 1))))))
def M__law_any : WF := mir 3 2 B__law_any
def B__law_common : WS := (sSeq (sPar 0 1 (aCons (fCall rAbs (aCons (fCall rInt1 (aCons (fVar 0) aNil)) aNil)) (aCons (fCall rAbs (aCons (fCall rInt1 (aCons (fVar 1) aNil)) aNil)) aNil)))
  (sSeq (sFor (iRange1 (aCons (fC (.int 9000)) aNil)) (gNm 2) (sSeq (sIf (tVal (fBin rEq2 (fVar 1) (fC (.int 0)))) sBrk sNext)
  (sPar 0 1 (aCons (fVar 1) (aCons (fBin rMod2 (fCall rInt1 (aCons (fVar 0) aNil)) (fVar 1)) aNil)))))
  (sRet (fVar 0))))
def M__law_common : WF := mir 3 2 B__law_common
def B__law_same : WS := (sRet (fBin rEq2 (fCall rRepr (aCons (fVar 0) aNil)) (fCall rRepr (aCons (fVar 1) aNil))))
def M__law_same : WF := mir 2 2 B__law_same
def B__law_is_int : WS := (sRet (fAnd (fIsi "int" (fVar 0)) (fNot (fIsi "bool" (fVar 0)))))
def M__law_is_int : WF := mir 1 1 B__law_is_int
def B__law_text : WS := (sRet (fIf (tVal (fBin rEq2 (fBin rIx2 (fVar 0) (fC (.int 1))) (fC (.int 1)))) (fCall rStr1 (aCons (fBin rIx2 (fVar 0) (fC (.int 0))) aNil)) (fBin rAdd2 (fBin rAdd2 (fCall rStr1 (aCons (fBin rIx2 (fVar 0) (fC (.int 0))) aNil)) (fC (.str "/"))) (fCall rStr1 (aCons (fBin rIx2 (fVar 0) (fC (.int 1))) aNil)))))
def M__law_text : WF := mir 1 1 B__law_text
def B_is_whole_text : WS := (sRet (fAnd (fBin rNe2 (fVar 0) (fC (.str "-0"))) (fFn M_is_number_text (aCons (fM1 (fun a _ => a.length ≤ sizeLine) (fun a b => .str (Txt.removeprefix a b)) (fVar 0) (fC (.str "-"))) aNil))))
def M_is_whole_text : WF := mir 1 1 B_is_whole_text
def B_are_ints : WS := (sRet (fAnd (fFn M_is_tuple_of (aCons (fVar 0) (aCons (fVar 1) aNil))) (fCall rAllB (aCons (fLcV (iSeq (fVar 0)) (gNm 2) tTrue (fFn M_is_int (aCons (fVar 2) aNil)) [2]) aNil))))
def M_are_ints : WF := mir 3 2 B_are_ints
def B__law_of : WS := (sRet (fBin rIxS2 (fVar 1) (fFn M__law_any (aCons (fVar 0) (aCons (fCall rLenS (aCons (fVar 1) aNil)) aNil)))))
def M__law_of : WF := mir 2 2 B__law_of
def B__law_low : WS := (sSeq (sAsg (fFn M__law_common (aCons (fVar 0) (aCons (fVar 1) aNil))) (gNm 2))
  (sRet (fTup (aCons (fBin rDiv2 (fCall rInt1 (aCons (fVar 0) aNil)) (fVar 2)) (aCons (fBin rDiv2 (fCall rInt1 (aCons (fVar 1) aNil)) (fVar 2)) aNil)))))
def M__law_low : WF := mir 3 2 B__law_low
def B__law_wrong : WS := (sSeq (sIf (tOr2 (tNot2 (tVal (fIsi "tuple" (fVar 0)))) (tOr2 (tVal (fBin rNe2 (fCall rLen (aCons (fVar 0) aNil)) (fC (.int 2)))) (tOr2 (tNot2 (tVal (fFn M__law_is_int (aCons (fBin rIx2 (fVar 0) (fC (.int 0))) aNil)))) (tNot2 (tVal (fFn M__law_is_int (aCons (fBin rIx2 (fVar 0) (fC (.int 1))) aNil))))))) (sRet (fUn (fun i => .int (-i)) (fC (.int 1)))) sNext)
  (sSeq (sIf (tVal (fBin (rCmp2 fun i j => decide (i < j)) (fBin rIx2 (fVar 0) (fC (.int 1))) (fC (.int 1)))) (sRet (fC (.int 1))) sNext)
  (sRet (fIf (tVal (fBin (rCmp2 fun i j => decide (j < i)) (fFn M__law_common (aCons (fBin rIx2 (fVar 0) (fC (.int 0))) (aCons (fBin rIx2 (fVar 0) (fC (.int 1))) aNil))) (fC (.int 1)))) (fC (.int 0)) (fC .none)))))
def M__law_wrong : WF := mir 1 1 B__law_wrong
def B__law_quotient : WS := (sTry 2 (only "InvalidSize") (sRet (fFn M_fraction (aCons (fVar 0) (aCons (fVar 1) aNil)))) (fun x => sRet (xFld "InvalidSize" "word" x)))
def M__law_quotient : WF := mir 3 2 B__law_quotient
def B__law_read : WS := (sSeq (sAsg (fIf (tVal (fBin rEq2 (fSlS (fVar 0) oNone (oSome (fC (.int 1)))) (fC (.str "-")))) (fSlS (fVar 0) (oSome (fC (.int 1))) oNone) (fVar 0)) (gNm 1))
  (sSeq (sAsg (fM1 (fun a b => (b.length == 0) = false ∧ a.length + 2 ≤ sizeLine) (fun a b => .list (strsD (Txt.split a b))) (fVar 1) (fC (.str "/"))) (gNm 2))
  (sSeq (sIf (tVal (fBin (rCmp2 fun i j => decide (j < i)) (fCall rLen (aCons (fVar 2) aNil)) (fC (.int 2)))) (sRet (fC .none)) sNext)
  (sSeq (sFor (iSeq (fVar 2)) (gNm 3) (sIf (tOr2 (tVal (fBin rEq2 (fVar 3) (fC (.str "")))) (tOr2 (tVal (fBin (rCmp2 fun i j => decide (i < j)) (fCall rLen (aCons (fLcV (iSigns (fVar 3)) (gNm 4) (tVal (fBin rInS (fVar 4) (fC (.str "0123456789")))) (fVar 4) [4]) aNil)) (fCall rLenS (aCons (fVar 3) aNil)))) (tAnd2 (tVal (fBin rEq2 (fBin rIxS2 (fVar 3) (fC (.int 0))) (fC (.str "0")))) (tVal (fBin rNe2 (fVar 3) (fC (.str "0"))))))) (sRet (fC .none)) sNext))
  (sSeq (sPar 5 6 (aCons (fCall rIntS (aCons (fBin rIx2 (fVar 2) (fC (.int 0))) aNil)) (aCons (fIf (tVal (fBin rEq2 (fCall rLen (aCons (fVar 2) aNil)) (fC (.int 2)))) (fCall rIntS (aCons (fBin rIx2 (fVar 2) (fUn (fun i => .int (-i)) (fC (.int 1)))) aNil)) (fC (.int 1))) aNil)))
  (sSeq (sIf (tOr2 (tAnd2 (tVal (fBin rEq2 (fCall rLen (aCons (fVar 2) aNil)) (fC (.int 2)))) (tVal (fBin (rCmp2 fun i j => decide (i < j)) (fVar 6) (fC (.int 2))))) (tOr2 (tAnd2 (tVal (fBin rEq2 (fVar 5) (fC (.int 0)))) (tVal (fBin rNe2 (fVar 1) (fVar 0)))) (tVal (fBin rNe2 (fFn M__law_common (aCons (fVar 5) (aCons (fVar 6) aNil))) (fC (.int 1)))))) (sRet (fC .none)) sNext)
  (sRet (fTup (aCons (fIf (tVal (fBin rNe2 (fVar 1) (fVar 0))) (fBin rSub2 (fC (.int 0)) (fVar 5)) (fVar 5)) (aCons (fVar 6) aNil))))))))))
def M__law_read : WF := mir 7 1 B__law_read
def B__fault_of : WS := (sSeq (sIf (tNot2 (tVal (fFn M_are_ints (aCons (fVar 0) (aCons (fC (.int 2)) aNil))))) (sRet (fUn (fun i => .int (-i)) (fC (.int 1)))) sNext)
  (sSeq (sAsg (fVar 0) (gTp 2 (gsCons (gNm 1) (gsCons (gNm 2) gsNil))))
  (sSeq (sIf (tVal (fBin (rCmp2 fun i j => decide (i ≤ j)) (fVar 2) (fC (.int 0)))) (sRet (fC (.int 1))) sNext)
  (sSeq (sIf (tVal (fBin rNe2 (fCall rGcd2 (aCons (fVar 1) (aCons (fVar 2) aNil))) (fC (.int 1)))) (sRet (fC (.int 0))) sNext)
  (sRet (fC .none))))))
def M__fault_of : WF := mir 3 1 B__fault_of
def B__law_size : WS := (sSeq (sAsg (fFn M__law_of (aCons (fVar 0) (aCons (fLst (aCons (fC (.int 0)) (aCons (fC (.int 1)) (aCons (fC (.int 1)) (aCons (fC (.int 2)) (aCons (fC (.int 3)) (aCons (fFn M__law_any (aCons (fVar 0) (aCons (fC (.int 13)) aNil))) (aCons (fFn M__law_any (aCons (fVar 0) (aCons (fC (.int 100)) aNil))) (aCons (fFn M__law_any (aCons (fVar 0) (aCons (fBin rPow2 (fC (.int 10)) (fC (.int 6))) aNil))) (aCons (fBin rAdd2 (fBin rPow2 (fC (.int 10)) (fC (.int 20))) (fFn M__law_any (aCons (fVar 0) (aCons (fBin rPow2 (fC (.int 10)) (fC (.int 9))) aNil)))) aNil)))))))))) aNil))) (gNm 1))
  (sRet (fIf (tVal (fBin rEq2 (fFn M__law_any (aCons (fVar 0) (aCons (fC (.int 2)) aNil))) (fC (.int 0)))) (fBin rSub2 (fC (.int 0)) (fVar 1)) (fVar 1))))
def M__law_size : WF := mir 2 1 B__law_size
def B__law_bent : WS := (sSeq (sPar 2 3 (aCons (fFn M__law_any (aCons (fVar 0) (aCons (fBin rAdd2 (fCall rLenS (aCons (fVar 1) aNil)) (fC (.int 1))) aNil))) (aCons (fFn M__law_of (aCons (fVar 0) (aCons (fC (.str "0123456789/-+. a")) aNil))) aNil)))
  (sSeq (sAsg (fFn M__law_any (aCons (fVar 0) (aCons (fC (.int 3)) aNil))) (gNm 4))
  (sRet (fBin rAdd2 (fBin rAdd2 (fSlS (fVar 1) oNone (oSome (fVar 2))) (fIf (tVal (fBin (rCmp2 fun i j => decide (j < i)) (fVar 4) (fC (.int 0)))) (fVar 3) (fC (.str "")))) (fIf (tVal (fBin rEq2 (fVar 4) (fC (.int 1)))) (fSlS (fVar 1) (oSome (fVar 2)) oNone) (fSlS (fVar 1) (oSome (fBin rAdd2 (fVar 2) (fC (.int 1)))) oNone))))))
def M__law_bent : WF := mir 5 2 B__law_bent
def B_need_fraction : WS := (sSeq (sAsg (fFn M__fault_of (aCons (fVar 0) aNil)) (gNm 1))
  (sIf (tVal (fBin rNotN2 (fVar 1) (fC .none))) (sRaise "InvalidFraction" "at" (aCons (fVar 1) aNil)) sNext))
def M_need_fraction : WF := mir 2 1 B_need_fraction
def B_is_fraction : WS := (sRet (fBin rIsN2 (fFn M__fault_of (aCons (fVar 0) aNil)) (fC .none)))
def M_is_fraction : WF := mir 1 1 B_is_fraction
def B__law_thing : WS := (sSeq (sAsg (fFn M__law_size (aCons (fVar 0) aNil)) (gNm 1))
  (sSeq (sAsg (fTup (aCons (fVar 1) (aCons (fBin rAdd2 (fC (.int 1)) (fCall rAbs (aCons (fFn M__law_size (aCons (fVar 0) aNil)) aNil))) aNil))) (gNm 2))
  (sRet (fFn M__law_of (aCons (fVar 0) (aCons (fLst (aCons (fC .none) (aCons (fC (.bool true)) (aCons (fC (.bool false)) (aCons (fVar 1) (aCons (fC (.str "")) (aCons (fC (.str "3")) (aCons (fC (.str "-7/2")) (aCons (fLst (aCons (fVar 1) (aCons (fC (.int 1)) aNil))) (aCons (fTup aNil) (aCons (fTup (aCons (fVar 1) aNil)) (aCons (fVar 2) (aCons (fTup (aCons (fVar 2) (aCons (fVar 2) aNil))) (aCons (fTup (aCons (fVar 1) (aCons (fC (.int 1)) (aCons (fC (.int 1)) aNil)))) aNil)))))))))))))) aNil))))))
def M__law_thing : WF := mir 3 1 B__law_thing
def B_read_fraction : WS := (sSeq (sIf (tNot2 (tVal (fIsi "str" (fVar 0)))) (sRaise "InvalidText" "at" (aCons (fUn (fun i => .int (-i)) (fC (.int 1))) aNil)) sNext)
  (sSeq (sAsg (fM1 (fun a b => (b.length == 0) = false ∧ a.length ≤ sizeLine) (fun a b => .tuple [.str (Txt.partition a b).1, .str (Txt.partition a b).2.1, .str (Txt.partition a b).2.2]) (fVar 0) (fC (.str "/"))) (gTp 3 (gsCons (gNm 1) (gsCons (gNm 2) (gsCons (gNm 3) gsNil)))))
  (sSeq (sIf (tVal (fBin rEq2 (fVar 2) (fC (.str "")))) (sAsg (fC (.str "1")) (gNm 3)) (sIf (tVal (fBin rEq2 (fVar 3) (fC (.str "1")))) (sRaise "InvalidText" "at" (aCons (fC (.int 0)) aNil)) sNext))
  (sSeq (sIf (tNot2 (tAnd2 (tVal (fFn M_is_whole_text (aCons (fVar 1) aNil))) (tVal (fFn M_is_number_text (aCons (fVar 3) aNil))))) (sRaise "InvalidText" "at" (aCons (fC (.int 0)) aNil)) sNext)
  (sSeq (sAsg (fTup (aCons (fCall rIntS (aCons (fVar 1) aNil)) (aCons (fCall rIntS (aCons (fVar 3) aNil)) aNil))) (gNm 4))
  (sSeq (sIf (tNot2 (tVal (fFn M_is_fraction (aCons (fVar 4) aNil)))) (sRaise "InvalidText" "at" (aCons (fC (.int 0)) aNil)) sNext)
  (sRet (fVar 4))))))))
def M_read_fraction : WF := mir 5 1 B_read_fraction
def B__law_candidate : WS := (sSeq (sPar3 1 2 3 (aCons (fFn M__law_size (aCons (fVar 0) aNil)) (aCons (fFn M__law_size (aCons (fVar 0) aNil)) (aCons (fFn M__law_of (aCons (fVar 0) (aCons (fLst (aCons (fC (.int 1)) (aCons (fC (.int 1)) (aCons (fC (.int 1)) (aCons (fC (.int 2)) (aCons (fC (.int 3)) (aCons (fC (.int 10)) aNil))))))) aNil))) aNil))))
  (sSeq (sAsg (fFn M__law_any (aCons (fVar 0) (aCons (fC (.int 8)) aNil))) (gNm 4))
  (sSeq (sIf (tVal (fBin rEq2 (fVar 4) (fC (.int 0)))) (sRet (fFn M__law_thing (aCons (fVar 0) aNil))) sNext)
  (sSeq (sIf (tVal (fBin rEq2 (fVar 4) (fC (.int 1)))) (sRet (fTup (aCons (fFn M__law_thing (aCons (fVar 0) aNil)) (aCons (fVar 2) aNil)))) sNext)
  (sSeq (sIf (tVal (fBin rEq2 (fVar 4) (fC (.int 2)))) (sRet (fTup (aCons (fVar 1) (aCons (fFn M__law_thing (aCons (fVar 0) aNil)) aNil)))) sNext)
  (sSeq (sIf (tVal (fBin rEq2 (fVar 4) (fC (.int 3)))) (sRet (fTup (aCons (fBin rMul2 (fVar 1) (fVar 3)) (aCons (fBin rMul2 (fVar 2) (fVar 3)) aNil)))) sNext)
  (sSeq (sAsg (fFn M__law_low (aCons (fVar 1) (aCons (fBin rAdd2 (fC (.int 1)) (fCall rAbs (aCons (fVar 2) aNil))) aNil))) (gNm 5))
  (sRet (fIf (tVal (fBin (rCmp2 fun i j => decide (i < j)) (fVar 4) (fC (.int 6)))) (fTup (aCons (fBin rMul2 (fBin rIx2 (fVar 5) (fC (.int 0))) (fVar 3)) (aCons (fBin rMul2 (fBin rIx2 (fVar 5) (fC (.int 1))) (fVar 3)) aNil))) (fVar 5))))))))))
def M__law_candidate : WF := mir 6 1 B__law_candidate
def B__law_told : WS := (sSeq (sTry 2 (only "InvalidFraction") (sAsg (fFn M_need_fraction (aCons (fVar 0) aNil)) (gNm 1)) (fun x => sRet (fIf (tOr2 (tNot2 (tVal (xIsi "InvalidFraction" true x))) (tOr2 (tVal (xIsi "InvalidFraction" false x)) (tVal (xIsi "InvalidFraction" false x)))) (fun ρ h Q _ => (fLst (aCons (fC (.str "other")) aNil)) ρ h Q noX) (xFld "InvalidFraction" "at" x))))
  (sRet (fIf (tVal (fBin rNotN2 (fVar 1) (fC .none))) (fC (.str "none")) (fC .none))))
def M__law_told : WF := mir 3 1 B__law_told
def B__law_heard : WS := (sTry 1 (only "InvalidText") (sRet (fFn M_read_fraction (aCons (fVar 0) aNil))) (fun x => sRet (fBin rAdd2 (fun ρ h Q _ => (fC (.str "no")) ρ h Q noX) (fCall rStr1 (aCons (xFld "InvalidText" "at" x) aNil)))))
def M__law_heard : WF := mir 2 1 B__law_heard
def B_law : WS := (sSeq (sAsg (fFn M__law_source (aCons (fVar 0) aNil)) (gNm 1))
  (sSeq (sFor (iRange1 (aCons (fC (.int 8)) aNil)) (gNm 2) (sSeq (sAsg (fFn M__law_candidate (aCons (fVar 1) aNil)) (gNm 3))
  (sSeq (sAsg (fCall rRepr (aCons (fVar 3) aNil)) (gNm 4))
  (sSeq (sAsg (fFn M__law_wrong (aCons (fVar 3) aNil)) (gNm 5))
  (sSeq (sIf (tOr2 (tVal (fBin rNe2 (fCall rRepr (aCons (fFn M__law_told (aCons (fVar 3) aNil)) aNil)) (fCall rRepr (aCons (fVar 5) aNil)))) (tOr2 (tVal (fBin rNe2 (fCall rRepr (aCons (fFn M_is_fraction (aCons (fVar 3) aNil)) aNil)) (fCall rRepr (aCons (fBin rIsN2 (fVar 5) (fC .none)) aNil)))) (tVal (fBin rNe2 (fCall rRepr (aCons (fVar 3) aNil)) (fVar 4))))) (sRet (fC (.bool false))) sNext)
  (sSeq (sIf (tOr2 (tVal (fBin rNe2 (fFnK [0] 1 M_is_fraction (aCons (fVar 3) aNil)) (fFn M_is_fraction (aCons (fVar 3) aNil)))) (tAnd2 (tVal (fBin rIsN2 (fVar 5) (fC .none))) (tVal (fBin rNotN2 (fFnK [0] 1 M_need_fraction (aCons (fVar 3) aNil)) (fC .none))))) (sRet (fC (.bool false))) sNext)
  (sSeq (sPar 6 7 (aCons (fFn M__law_size (aCons (fVar 1) aNil)) (aCons (fFn M__law_of (aCons (fVar 1) (aCons (fLst (aCons (fC (.int 0)) (aCons (fC (.int 1)) (aCons (fUn (fun i => .int (-i)) (fC (.int 1))) (aCons (fFn M__law_size (aCons (fVar 1) aNil)) (aCons (fFn M__law_size (aCons (fVar 1) aNil)) aNil)))))) aNil))) aNil)))
  (sSeq (sAsg (fIf (tVal (fBin rEq2 (fVar 7) (fC (.int 0)))) (fC (.str "bottom")) (fIf (tVal (fBin (rCmp2 fun i j => decide (j < i)) (fVar 7) (fC (.int 0)))) (fFn M__law_low (aCons (fVar 6) (aCons (fVar 7) aNil))) (fFn M__law_low (aCons (fBin rSub2 (fC (.int 0)) (fVar 6)) (aCons (fBin rSub2 (fC (.int 0)) (fVar 7)) aNil))))) (gNm 5))
  (sSeq (sIf (tOr2 (tNot2 (tVal (fFn M__law_same (aCons (fFn M__law_quotient (aCons (fVar 6) (aCons (fVar 7) aNil))) (aCons (fVar 5) aNil))))) (tNot2 (tVal (fFn M__law_same (aCons (fFn M_whole (aCons (fVar 6) aNil)) (aCons (fTup (aCons (fVar 6) (aCons (fC (.int 1)) aNil))) aNil)))))) (sRet (fC (.bool false))) sNext)
  (sSeq (sIf (tOr2 (tAnd2 (tVal (fBin rNe2 (fVar 7) (fC (.int 0)))) (tNot2 (tVal (fFn M__law_same (aCons (fFnK [1, 0] 2 M_fraction (aCons (fVar 7) (aCons (fVar 6) aNil))) (aCons (fVar 5) aNil)))))) (tVal (fBin rNe2 (fFnK [0] 1 M_whole (aCons (fVar 6) aNil)) (fTup (aCons (fVar 6) (aCons (fC (.int 1)) aNil)))))) (sRet (fC (.bool false))) sNext)
  (sSeq (sIf (tAnd2 (tVal (fBin rNe2 (fVar 7) (fC (.int 0)))) (tOr2 (tVal (fBin rNe2 (fFn M_fraction_text (aCons (fVar 5) aNil)) (fFn M__law_text (aCons (fVar 5) aNil)))) (tVal (fBin rNe2 (fFnK [0] 1 M_fraction_text (aCons (fVar 5) aNil)) (fFn M__law_text (aCons (fVar 5) aNil)))))) (sRet (fC (.bool false))) sNext)
  (sSeq (sAsg (fFn M__law_text (aCons (fFn M__law_low (aCons (fVar 6) (aCons (fBin rAdd2 (fC (.int 1)) (fCall rAbs (aCons (fVar 7) aNil))) aNil))) aNil)) (gNm 8))
  (sFor (iSeq (fTup (aCons (fVar 8) (aCons (fFn M__law_bent (aCons (fVar 1) (aCons (fVar 8) aNil))) (aCons (fFn M__law_bent (aCons (fVar 1) (aCons (fFn M__law_bent (aCons (fVar 1) (aCons (fVar 8) aNil))) aNil))) aNil))))) (gNm 9) (sSeq (sAsg (fFn M__law_read (aCons (fVar 9) aNil)) (gNm 5))
  (sSeq (sIf (tNot2 (tVal (fFn M__law_same (aCons (fFn M__law_heard (aCons (fVar 9) aNil)) (aCons (fIf (tVal (fBin rIsN2 (fVar 5) (fC .none))) (fC (.str "no0")) (fVar 5)) aNil))))) (sRet (fC (.bool false))) sNext)
  (sIf (tAnd2 (tVal (fBin rNotN2 (fVar 5) (fC .none))) (tNot2 (tVal (fFn M__law_same (aCons (fFnK [0] 1 M_read_fraction (aCons (fVar 9) aNil)) (aCons (fVar 5) aNil)))))) (sRet (fC (.bool false))) sNext))))))))))))))))
  (sSeq (sAsg (fFn M__law_thing (aCons (fVar 1) aNil)) (gNm 3))
  (sSeq (sIf (tAnd2 (tNot2 (tVal (fIsi "str" (fVar 3)))) (tVal (fBin rNe2 (fFn M__law_heard (aCons (fVar 3) aNil)) (fC (.str "no-1"))))) (sRet (fC (.bool false))) sNext)
  (sRet (fAnd (fFn M__law_same (aCons (fC (.tuple [(.int 0), (.int 1)])) (aCons (fTup (aCons (fC (.int 0)) (aCons (fC (.int 1)) aNil))) aNil))) (fFn M__law_same (aCons (fC (.tuple [(.int 1), (.int 1)])) (aCons (fTup (aCons (fC (.int 1)) (aCons (fC (.int 1)) aNil))) aNil)))))))))
def M_law : WF := mir 10 1 B_law
end LW
set_option Elab.async false
set_option linter.all false
set_option maxRecDepth 100000
set_option maxHeartbeats 40000000
namespace LW
open PySem PySem.Spec PyProof.Rows L2 V2
local macro_rules
  | `(tactic| array_get_dec) => `(tactic| with_reducible first
    | refine i_seqg (fun _ _ => ?_)
    | refine i_asg2v (by repeat constructor) (by repeat constructor) (by repeat constructor) ?_
    | refine i_asgn ?_ (by with_unfolding_all exact Nat.le_of_ble_eq_true rfl)
    | refine i_set (by repeat constructor) ?_
    | refine i_par ?_ (by with_unfolding_all exact Nat.le_of_ble_eq_true rfl) (by with_unfolding_all exact Nat.le_of_ble_eq_true rfl)
    | refine i_pair (by repeat constructor) (by repeat constructor) ?_
    | refine i_par3 ?_ (by with_unfolding_all exact Nat.le_of_ble_eq_true rfl) (by with_unfolding_all exact Nat.le_of_ble_eq_true rfl) (by with_unfolding_all exact Nat.le_of_ble_eq_true rfl)
    | refine i_trip (by repeat constructor) (by repeat constructor) (by repeat constructor) ?_
    | refine i_ret ?_
    | refine i_if ?_
    | refine i_var (by repeat constructor) ?_
    | refine i_c ?_
    | refine i_cons ?_
    | refine i_nil ?_
    | refine i_bin ?_
    | refine i_ints0 ?_
    | refine i_ints ?_ ?_
    | refine i_add ?_
    | refine i_eqi ?_
    | refine i_nei ?_
    | refine i_eqsr ?_
    | refine i_eqs ?_
    | refine i_nesr ?_
    | refine i_nes ?_
    | refine i_un ?_
    | refine i_val ?_
    | refine i_isb ?_
    | refine i_isi ?_
    | refine i_isr ?_
    | refine i_and2 ?_
    | refine i_or2 ?_
    | refine i_not2 ?_
    | refine i_fif ?_
    | refine i_fand ?_
    | refine i_tup ?_
    | refine i_lst ?_
    | refine i_all (by repeat constructor) (by with_unfolding_all exact Nat.le_of_ble_eq_true rfl) ?_
    | refine i_ix (by assumption) (by with_unfolding_all exact rfl) ?_
    | refine i_ix (by with_unfolding_all exact rfl) (by with_unfolding_all exact rfl) ?_
    | refine i_call ?_
    | refine i_fn ?_
    | refine i_fnk ?_
    | refine i_pk1 ?_
    | refine i_pk2 ?_
    | refine i_pk3 ?_
    | refine i_pk4 ?_
    | refine i_abs ?_
    | refine i_toint ?_
    | refine i_gcd ?_
    | refine i_lcm3 ?_ ?_
    | refine i_chain ?_
    | refine i_max2 ?_
    | refine i_min2 ?_
    | refine i_isN ?_
    | refine i_notN ?_
    | refine i_len (by with_unfolding_all exact rfl) ?_
    | refine i_drop ?_
    | refine i_pop ?_
    | refine i_append ?_
    | refine i_sub ?_
    | refine i_raise ?_
    | refine i_one ?_
    | refine i_enum1 ?_
    | refine i_zip2 ?_
    | refine i_brk ?_
    | refine i_for ?_
    | refine i_range1 ?_
    | refine i_range2 ?_
    | refine i_isr2 ?_
    | refine i_next ?_
    | refine i_go (by assumption) ?_)

local macro_rules
  | `(tactic| decreasing_trivial_pre_omega) => `(tactic| (apply cmB; (repeat' (first | assumption | apply Bd.add | apply Bd.sub | apply Bd.mul | apply Bd.neg)); decide))

theorem wp_fraction {p : Int} {q : Nat} {h : Ho} {Q : KD} {E : XD} {n : Nat} (hq : q ≠ 0) (hz : q < 2 ^ n) (h0 : 0 < n) (hn : n ≤ 9000) (k : Q (.d (fr (mkRat p q))) h) : M_fraction [.d (.int p), .d (.int q)] h Q E := by
  rw [low_eq hq] at k
  refine i_mir rfl (by repeat constructor) (by repeat constructor) ?_
  unfold B_fraction
  repeat' array_get_dec
  refine i_ifF (decide_eq_false (by exact_mod_cast hq)) ?_
  repeat' array_get_dec
  refine i_ifF (decide_eq_false (by omega)) ?_
  repeat' array_get_dec
  · exact cdiv_gr hq h0 hz hn
  · exact cdiv_gr hq h0 hz hn
  · exact k
theorem wp_common {a b : Int} {n m : Nat} {h : Ho} {Q : KD} {E : XD} (ha : a.natAbs < 2 ^ n) (hb : b.natAbs < 2 ^ m) (hn : n + m ≤ 8000) (k : Q (.d (.int (Nat.gcd a.natAbs b.natAbs : Nat))) h) : M__law_common [.d (.int a), .d (.int b)] h Q E := by
  refine i_mir rfl (by repeat constructor) (by repeat constructor) ?_
  unfold B__law_common
  have ab : ∀ i : Int, (if i < 0 then -i else i) = (i.natAbs : Int) := by intro i; split <;> omega
  repeat' array_get_dec
  refine ⟨by decide, by decide, ?_⟩
  rw [ab, ab]
  refine for_ind (fun k ρ h' => h' = h ∧ ∃ (x y : Nat) (z : Option D), ρ = [some (.d (.int x)), some (.d (.int y)), z] ∧ Nat.gcd x y = Nat.gcd a.natAbs b.natAbs ∧ ((k = 0 ∧ x * y < 2 ^ 8000) ∨ (0 < k ∧ y < x ∧ x * y < 2 ^ (8001 - k)))) ?_ ?_ ?_
  · rintro i x ρ h' G ex ⟨rfl, x, y, z, rfl, eg, hp⟩ hG
    refine ⟨_, rfl, ?_⟩
    show (sSeq _ _) [some (.d (.int x)), some (.d (.int y)), some _] _ _
    repeat' array_get_dec
    refine i_ite (fun c => ?_) (fun c => ?_)
    · have c : (y : Int) = 0 := of_decide_eq_true c
      have c : y = 0 := by exact_mod_cast c
      subst c
      rw [Nat.gcd_zero_right] at eg
      rw [← eg] at k
      repeat' array_get_dec
      exact k
    · have c := of_decide_eq_false c
      have c : 0 < y := by omega
      repeat' array_get_dec
      · exact_mod_cast c
      · refine ⟨trivial, hG _ _ ⟨rfl, y, x % y, _, rfl, ?_, .inr ⟨by omega, Nat.mod_lt _ c, ?_⟩⟩⟩
        · rw [← eg, Nat.gcd_comm y, ← Nat.gcd_rec, Nat.gcd_comm]
        · exact halved c hp
  · rintro ρ h' ⟨rfl, x, y, z, rfl, eg, hp⟩
    have e : (rangeD 0 (9000 : Int).toNat).length = 9000 := by simp [rangeD]
    rw [e] at hp
    have y0 : y = 0 := by
      rcases hp with ⟨hp, _⟩ | ⟨_, h1, h2⟩
      · exact absurd hp (by decide)
      · have : x * y = 0 := by
          have e : 8001 - 9000 = 0 := by decide
          rw [e] at h2
          omega
        rcases Nat.mul_eq_zero.1 this with z | z
        · omega
        · exact z
    subst y0
    rw [Nat.gcd_zero_right] at eg
    rw [← eg] at k
    repeat' array_get_dec
    exact k
  · exact ⟨rfl, _, _, _, rfl, rfl, .inl ⟨rfl, Nat.lt_of_lt_of_le (mul_lt_pow ha hb) (Nat.pow_le_pow_right (by decide) hn)⟩⟩
theorem wp_low {p : Int} {q : Nat} {n m : Nat} {h : Ho} {Q : KD} {E : XD} (hq : q ≠ 0) (ha : p.natAbs < 2 ^ n) (hb : q < 2 ^ m) (h0 : 0 < m) (hn : n + m ≤ 8000) (k : Q (.d (fr (mkRat p q))) h) : M__law_low [.d (.int p), .d (.int q)] h Q E := by
  rw [low_eq hq] at k
  refine i_mir rfl (by repeat constructor) (by repeat constructor) ?_
  unfold B__law_low
  repeat' array_get_dec
  refine wp_common ha (by rw [nab]; exact hb) hn ?_
  repeat' array_get_dec
  · exact cdiv_gr hq h0 hb (by omega)
  · exact cdiv_gr hq h0 hb (by omega)
  · exact k
theorem wp_same {p : PyData} {h : Ho} {Q : KD} {E : XD} (hs : p.showable = true) (hd : p.depth < 60) (hl : p.shown.length ≤ sizeLine) (k : Q (.d (.bool true)) h) : M__law_same [.d p, .d p] h Q E := by
  refine i_mir rfl (by repeat constructor) (by repeat constructor) ?_
  unfold B__law_same
  repeat' array_get_dec
  refine i_repr hs hd hl ?_
  repeat' array_get_dec
  refine i_repr hs hd hl ?_
  repeat' array_get_dec
  first | exact k | (rw [decide_eq_true rfl]; exact k)
theorem wp_sameF {q : Rat} {n : Nat} {h : Ho} {Q : KD} {E : XD} (s : Sz n q) (hn : n ≤ 1900) (k : Q (.d (.bool true)) h) : M__law_same [.d (fr q), .d (fr q)] h Q E := by
  have s := s.mono (m := 1900) hn
  exact wp_same (fr_showable (by decide) (by decide) s) (by show 1 < 60; decide) (fr_len (by decide) (by decide) s) k
theorem wp_any {n : Int} {rest h : Ho} {Q : KD} {E : XD} (hn : 0 < n) (hb : n < 2 ^ 100) (dh : Deal rest h) (k : ∀ v h', 0 ≤ v → v < n → Deal rest h' → Q (.d (.int v)) h') : M__law_any [.loc 1, .d (.int n)] h Q E := by
  obtain ⟨cs, mix, rfl, hl, hc, hm0, hm1⟩ := dh.is
  refine i_mir rfl (by repeat constructor) (by repeat constructor) ?_
  unfold B__law_any
  array_get_dec
  refine i_while (fun m ρ' h' => ρ' = [some (.loc 1), some (.d (.int n)), none] ∧ ∃ cs' : List Int, cs'.length = m ∧ h' = .lst (cs'.map cell) :: .lst [.loc 0, cell mix] :: rest ∧ cs'.length ≤ 63 ∧ ∀ c ∈ cs', 0 ≤ c) ⟨rfl, cs, rfl, rfl, hl, hc⟩ ?_ ?_
  · rintro m ρ' h' ⟨rfl, cs', rfl, rfl, hl, hc⟩
    rcases nil_or_snoc cs' with rfl | ⟨cs2, c, rfl⟩
    · repeat' array_get_dec
      refine i_ned (datum_cells (cs := [])) rfl rfl rfl ni_loc ?_
      repeat' array_get_dec
      refine i_ifF rfl ?_
      repeat' array_get_dec
      · exact mix_mul hm0 hm1
      · decide
      · refine subK_loc (j := 1) (h2 := .lst [] :: .lst [.loc 0, cell ((mix * 48271 + 41) % 2147483647)] :: rest) rfl rfl rfl ?_
        have m0 : 0 ≤ (mix * 48271 + 41) % 2147483647 := Int.emod_nonneg _ (by decide)
        have m1 : (mix * 48271 + 41) % 2147483647 < 2147483647 := Int.emod_lt_of_pos _ (by decide)
        repeat' array_get_dec
        · exact ⟨by decide, by decide⟩
        · exact hn
        · exact k _ _ (Int.emod_nonneg _ (by omega)) (Int.emod_lt_of_pos _ hn) ⟨[], _, rfl, hl, hc, m0, by omega⟩
    · have em : (cs2 ++ [c]).map cell = cs2.map cell ++ [cell c] := by simp
      rw [em]
      have hc2 : 0 ≤ c := hc c (by simp)
      repeat' array_get_dec
      refine i_ned (by rw [← em]; exact datum_cells (cs := cs2 ++ [c])) rfl (shaped_ints _) rfl ni_loc ?_
      rw [ints_ne (by simp)]
      repeat' array_get_dec
      refine i_ifT rfl ?_
      repeat' array_get_dec
      refine popK_loc rfl (h2 := .lst (cs2.map cell) :: .lst [.loc 0, cell mix] :: rest) rfl ?_
      repeat' array_get_dec
      refine appK_loc rfl ?_
      repeat' array_get_dec
      · exact ⟨by omega, Nat.lt_of_lt_of_le (log2_lt (n := 100) (by decide) (by omega)) (by decide)⟩
      · have hl2 : cs2.length < 63 := by rw [List.length_append, List.length_singleton] at hl; omega
        refine ⟨_, cs2.map cell, rfl, rfl, by rw [List.length_map]; exact Nat.lt_of_lt_of_le hl2 (by decide), ?_⟩
        repeat' array_get_dec
        · exact hn
        · refine k _ _ (Int.emod_nonneg _ (by omega)) (Int.emod_lt_of_pos _ hn) ⟨cs2 ++ [c.fdiv n], mix, by rw [List.map_append]; rfl, by rw [List.length_append, List.length_singleton]; omega, ?_, hm0, hm1⟩
          intro d hd
          rw [List.mem_append, List.mem_singleton] at hd
          rcases hd with hd | rfl
          · exact hc d (by simp [hd])
          · rw [Int.fdiv_eq_ediv_of_nonneg _ (by omega)]
            exact Int.ediv_nonneg hc2 (by omega)
  · intro he m ρ' h' hi
    have hi0 := hi
    obtain ⟨rfl, cs', rfl, rfl, hl, hc⟩ := hi
    rcases nil_or_snoc cs' with rfl | ⟨cs2, c, rfl⟩
    · repeat' array_get_dec
      refine i_ned (datum_cells (cs := [])) rfl rfl rfl ni_loc ?_
      repeat' array_get_dec
      refine i_ifF rfl ?_
      exact i_ifF rfl (he _ _ _ hi0)
    · have em : (cs2 ++ [c]).map cell = cs2.map cell ++ [cell c] := by simp
      rw [em] at hi0 ⊢
      repeat' array_get_dec
      refine i_ned (by rw [← em]; exact datum_cells (cs := cs2 ++ [c])) rfl (shaped_ints _) rfl ni_loc ?_
      rw [ints_ne (by simp)]
      repeat' array_get_dec
      refine i_ifT rfl ?_
      repeat' array_get_dec
      refine i_ix rfl atI_last ?_
      repeat' array_get_dec
      refine i_ite (fun e => ?_) (fun e => ?_)
      · repeat' array_get_dec
        refine popK_loc rfl (h2 := .lst (cs2.map cell) :: .lst [.loc 0, cell mix] :: rest) rfl ?_
        refine ⟨cs2.length, by simp, rfl, cs2, rfl, rfl, ?_, fun d hd => hc d (by simp [hd])⟩
        rw [List.length_append, List.length_singleton] at hl
        omega
      · exact he _ _ _ hi0
theorem wp_source {ns : List Int} {Q : KD} {E : XD} (hl : ns.length ≤ 63) (k : ∀ h', Deal [] h' → Q (.loc 1) h') : M__law_source [.d (.list (ns.map PyData.int))] [] Q E := by
  refine i_mir rfl (by repeat constructor) (by repeat constructor) ?_
  unfold B__law_source
  repeat' array_get_dec
  refine i_lcv ?_
  refine i_iseqG ?_
  refine i_sl0 (by repeat constructor) ?_
  refine ⟨_, rfl, ?_⟩
  have ec : cut (ns.map PyData.int) none (some 63) = (cut ns none (some 63)).map PyData.int := by
    unfold cut
    rw [List.length_map, ← List.map_drop, ← List.map_take]
  rw [ec]
  have lc : (cut ns none (some 63)).length ≤ 63 := by
    unfold cut
    rw [List.length_take, List.length_drop]
    omega
  generalize cut ns none (some 63) = ms at lc ⊢
  refine lcv_ind (hb := []) (fun k acc => ∃ cs : List Int, acc = cs.map cell ∧ cs.length ≤ k ∧ ∀ c ∈ cs, 0 ≤ c) stay_d ?_ ?_ ⟨[], rfl, Nat.le_refl 0, by simp⟩
  · rintro i x acc ex ⟨cs, rfl, hc, hp⟩
    rw [List.map_map, List.getElem?_map, Option.map_eq_some_iff] at ex
    obtain ⟨c, e1, rfl⟩ := ex
    have hi : i < ms.length := (List.getElem?_eq_some_iff.1 e1).1
    refine ⟨_, true, rfl, fun P q => q, fun _ => ⟨cell (if c < 0 then -c else c), fun P q => ?_, ?_, cs ++ [if c < 0 then -c else c], by simp, by simp; omega, ?_⟩, fun e => by cases e⟩
    · show fCall _ _ [_, _, some (.d (.int c)), _] _ _ _
      repeat' array_get_dec
      exact q
    · rw [List.length_map]
      exact Nat.lt_of_le_of_lt (Nat.le_trans hc (by omega : i ≤ 63)) (by decide)
    · intro d hd
      rw [List.mem_append, List.mem_singleton] at hd
      rcases hd with hd | rfl
      · exact hp d hd
      · split <;> omega
  · rintro acc ⟨cs, rfl, hc, hp⟩
    rw [List.length_map, List.length_map] at hc
    refine ⟨_, allD_cells cs, ?_⟩
    repeat' array_get_dec
    refine i_iseq (by repeat constructor) rfl ?_
    refine for_ind (fun i ρ h' => h' = [] ∧ ∃ (z : Option D) (mix : Int), ρ = [some (.d (.list (ns.map PyData.int))), some (.d (.list (cs.map PyData.int))), z, some (cell mix)] ∧ 0 ≤ mix ∧ mix < 2 ^ 31) ?_ ?_ ⟨rfl, _, _, rfl, by decide, by decide⟩
    · rintro i x ρ h' G ex ⟨rfl, z, mix, rfl, m0, m1⟩ hG
      rw [List.map_map, List.getElem?_map, Option.map_eq_some_iff] at ex
      obtain ⟨c, e1, rfl⟩ := ex
      refine ⟨_, rfl, ?_⟩
      show sAsg _ _ [_, _, some (.d (.int c)), some (cell mix)] _ _
      repeat' array_get_dec
      · exact mix_mul m0 m1
      · decide
      · decide
      · exact ⟨stay_d _, hG _ _ ⟨rfl, _, _, rfl, Int.emod_nonneg _ (by decide), Int.lt_trans (Int.emod_lt_of_pos _ (by decide)) (by decide)⟩⟩
    · rintro ρ h' ⟨rfl, z, mix, rfl, m0, m1⟩
      repeat' array_get_dec
      refine i_loc ?_
      array_get_dec
      refine i_revloc ?_
      refine i_lcv ?_
      refine i_iseq (by repeat constructor) rfl ?_
      refine lcv_ind (hb := []) (fun k acc => ∃ cs : List Int, acc = cs.map cell ∧ cs.length ≤ k ∧ ∀ c ∈ cs, 0 ≤ c) stay_d ?_ ?_ ⟨[], rfl, Nat.le_refl 0, by simp⟩
      · rintro i x acc ex ⟨ds, rfl, hc2, hp2⟩
        rw [List.map_map, List.getElem?_map, Option.map_eq_some_iff] at ex
        obtain ⟨c, e1, rfl⟩ := ex
        obtain ⟨hi, e2⟩ := List.getElem?_eq_some_iff.1 e1
        refine ⟨_, decide ((10 : Int) ^ (18 : Int).toNat ≤ c), rfl, fun P q => ?_, fun hb => ⟨cell c, fun P q => ?_, ?_, ds ++ [c], by simp, by simp; omega, ?_⟩, fun _ => ⟨ds, rfl, by omega, hp2⟩⟩
        · show tVal _ [_, _, some (.d (.int c)), _] _ _ _
          repeat' array_get_dec
          · exact ⟨by decide, by decide, by decide⟩
          · exact q
        · show fVar _ [_, _, some (.d (.int c)), _] _ _ _
          exact i_var (by repeat constructor) q
        · rw [List.length_map]
          exact Nat.lt_of_le_of_lt (Nat.le_trans hc2 (by omega : i ≤ 63)) (by decide)
        · intro d hd
          rw [List.mem_append, List.mem_singleton] at hd
          rcases hd with hd | rfl
          · exact hp2 d hd
          · exact hp _ (by rw [← e2]; exact List.getElem_mem _)
      · rintro acc ⟨ds, rfl, hc2, hp2⟩
        rw [List.length_map, List.length_map] at hc2
        refine ⟨_, allD_cells ds, ?_⟩
        refine revK_lst ?_
        repeat' array_get_dec
        refine ⟨Nat.le_of_ble_eq_true rfl, k _ ⟨ds.reverse, mix, ?_, by rw [List.length_reverse]; omega, fun c hc3 => hp2 c (List.mem_reverse.1 hc3), m0, m1⟩⟩
        have e3 : ((ds.map PyData.int).map D.d).reverse = ds.reverse.map cell := by rw [List.map_map, ← List.map_reverse]; rfl
        rw [e3]
        rfl
/-! ### any values -/
def pureInt : PyData → Bool
  | .int _ => true
  | _ => false
theorem pureInt_eq (p : PyData) : (isInt p && !isBool p) = pureInt p := by cases p <;> rfl
def frOK : PyData → Bool
  | .tuple [.int a, .int b] => decide (0 < b) && decide (Nat.gcd a.natAbs b.natAbs = 1)
  | _ => false
def tup2 : PyData → Bool
  | .tuple [_, _] => true
  | _ => false
def two : PyData → Bool
  | .tuple [x, y] => pureInt x && pureInt y
  | _ => false
def fault : PyData → PyData
  | .tuple [.int a, .int b] => if b ≤ 0 then .int 1 else if Nat.gcd a.natAbs b.natAbs = 1 then .none else .int 0
  | _ => .int (-1)
section
variable {p : PyData} {h : Ho} {Q : KD} {E : XD}
theorem wp_is_int (k : Q (.d (.bool (pureInt p))) h) : M_is_int [.d p] h Q E := by
  rw [← pureInt_eq] at k
  refine i_mir rfl (by repeat constructor) (by repeat constructor) ?_
  unfold B_is_int
  repeat' array_get_dec
  refine i_isiD (by repeat constructor) (kit_int p) ?_
  repeat' array_get_dec
  refine i_ite (fun c => ?_) (fun c => ?_)
  · rw [c, Bool.true_and] at k
    exact ⟨isBool p, kit_bool p, k⟩
  · rw [c] at k
    exact k
theorem wp_is_tuple (k : Q (.d (.bool (tup2 p))) h) : M_is_tuple_of [.d p, .d (.int 2)] h Q E := by
  refine i_mir rfl (by repeat constructor) (by repeat constructor) ?_
  unfold B_is_tuple_of
  repeat' array_get_dec
  refine i_isiD (by repeat constructor) (kit_tup p) ?_
  repeat' array_get_dec
  cases p with
  | tuple xs =>
    refine i_ifT rfl ?_
    repeat' array_get_dec
    match xs, k with
    | [], k => exact k
    | [_], k => exact k
    | [_, _], k => exact k
    | x1 :: x2 :: x3 :: l, k =>
      have e : decide ((((List.map D.d (x1 :: x2 :: x3 :: l)).length : Nat) : Int) = 2) = false := decide_eq_false (by simp only [List.length_map, List.length_cons]; omega)
      rw [e]
      exact k
  | none => exact i_ifF rfl k
  | bool _ => exact i_ifF rfl k
  | int _ => exact i_ifF rfl k
  | str _ => exact i_ifF rfl k
  | list _ => exact i_ifF rfl k
  | dict _ => exact i_ifF rfl k
theorem tup2_of (c : tup2 p = true) : ∃ x y, p = .tuple [x, y] := by
  match p, c with
  | .tuple [x, y], _ => exact ⟨x, y, rfl⟩
theorem two_of (c : two p = true) : ∃ a b, p = .tuple [.int a, .int b] := by
  unfold two at c
  split at c
  · rename_i x y
    rw [Bool.and_eq_true_iff] at c
    cases x with
    | int a =>
      cases y with
      | int b => exact ⟨a, b, rfl⟩
      | _ => cases c.2
    | _ => cases c.1
  · cases c
theorem two_f (c : tup2 p = false) : two p = false := by
  cases e : two p with
  | false => rfl
  | true =>
    obtain ⟨a, b, rfl⟩ := two_of e
    cases c
theorem wp_are_ints (k : Q (.d (.bool (two p))) h) : M_are_ints [.d p, .d (.int 2)] h Q E := by
  refine i_mir rfl (by repeat constructor) (by repeat constructor) ?_
  unfold B_are_ints
  repeat' array_get_dec
  refine wp_is_tuple ?_
  repeat' array_get_dec
  refine i_ite (fun c => ?_) (fun c => ?_)
  · obtain ⟨x, y, rfl⟩ := tup2_of c
    repeat' array_get_dec
    refine i_lcv ?_
    refine i_iseq (by repeat constructor) rfl ?_
    refine lcv_ind (hb := h) (fun k acc => acc = (([x, y].take k).map fun z => PyData.bool (pureInt z)).map D.d) stay_d ?_ ?_ rfl
    · rintro i z acc ez rfl
      rw [List.getElem?_map, Option.map_eq_some_iff] at ez
      obtain ⟨z, e1, rfl⟩ := ez
      have hi : i < 2 := (List.getElem?_eq_some_iff.1 e1).1
      refine ⟨_, true, rfl, fun P q => q, fun _ => ⟨.d (.bool (pureInt z)), fun P q => ?_, ?_, ?_⟩, fun e => by cases e⟩
      · show fFn _ _ [_, _, some (.d z)] _ _ _
        repeat' array_get_dec
        exact wp_is_int q
      · have : sizeLine = 2 ^ 24 := rfl
        simp only [List.length_map, List.length_take]
        omega
      · rw [List.take_succ, e1]
        simp
    · rintro acc rfl
      refine ⟨[.bool (pureInt x), .bool (pureInt y)], .cons (.cons .nil), ?_⟩
      repeat' array_get_dec
      refine i_allB (bs := [pureInt x, pureInt y]) rfl ?_
      have e : [pureInt x, pureInt y].all id = two (.tuple [x, y]) := by simp [two]
      rw [e]
      exact k
  · rw [two_f c] at k
    exact k
theorem fault_f (c : two p = false) : fault p = .int (-1) := by
  unfold fault
  split
  · cases c
  · rfl
theorem wp_fault (k : Q (.d (fault p)) h) : M__fault_of [.d p] h Q E := by
  refine i_mir rfl (by repeat constructor) (by repeat constructor) ?_
  unfold B__fault_of
  repeat' array_get_dec
  refine wp_are_ints ?_
  repeat' array_get_dec
  by_cases c : two p = true
  · obtain ⟨a, b, rfl⟩ := two_of c
    refine i_ifF (by rw [c]; rfl) ?_
    repeat' array_get_dec
    unfold fault at k
    simp only at k
    refine i_ite (fun c1 => ?_) (fun c1 => ?_)
    · have c1 : b ≤ 0 := of_decide_eq_true c1
      rw [if_pos c1] at k
      repeat' array_get_dec
      exact k
    · have c1 : ¬ b ≤ 0 := of_decide_eq_false c1
      rw [if_neg c1] at k
      repeat' array_get_dec
      by_cases c2 : Nat.gcd a.natAbs b.natAbs = 1
      · rw [if_pos c2] at k
        refine i_ifF (by rw [c2]; rfl) ?_
        repeat' array_get_dec
        exact k
      · rw [if_neg c2] at k
        refine i_ifT (by rw [decide_eq_false (by omega)]; rfl) ?_
        repeat' array_get_dec
        exact k
  · have c : two p = false := by simpa using c
    rw [fault_f c] at k
    refine i_ifT (by rw [c]; rfl) ?_
    repeat' array_get_dec
    exact k
theorem fault_ok (p : PyData) : isNon (.d (fault p)) = frOK p := by
  unfold fault frOK
  split
  · rename_i a b
    by_cases c : b ≤ 0
    · rw [if_pos c, decide_eq_false (by omega)]; rfl
    · rw [if_neg c, decide_eq_true (by omega), Bool.true_and]
      by_cases c2 : Nat.gcd a.natAbs b.natAbs = 1
      · rw [if_pos c2, decide_eq_true c2]; rfl
      · rw [if_neg c2, decide_eq_false c2]; rfl
  · rfl
theorem wp_is_fraction (k : Q (.d (.bool (frOK p))) h) : M_is_fraction [.d p] h Q E := by
  rw [← fault_ok] at k
  refine i_mir rfl (by repeat constructor) (by repeat constructor) ?_
  unfold B_is_fraction
  repeat' array_get_dec
  refine wp_fault ?_
  exact k
end
/-! ### quotients of integers, the bottom of any sign -/
theorem neg_fdiv {p : Int} {g : Nat} (g0 : g ≠ 0) (hd : (g : Int) ∣ p) : p.fdiv (-(g : Int)) = (-p).fdiv g := by
  obtain ⟨c, rfl⟩ := hd
  have h1 : (g : Int) ≠ 0 := by omega
  have e1 : (g : Int) * c = -(g : Int) * -c := by rw [Int.neg_mul_neg]
  have e2 : -((g : Int) * c) = (g : Int) * -c := by rw [Int.mul_neg]
  rw [e2, Int.mul_fdiv_cancel_left _ h1, e1, Int.mul_fdiv_cancel_left _ (by omega)]
def qt (p q : Int) : Rat := (p : Rat) / (q : Rat)
theorem qt_pos {p q : Int} (h : 0 < q) : mkRat p q.natAbs = qt p q := by
  unfold qt
  rw [Rat.mkRat_eq_div]
  have e : ((q.natAbs : Nat) : Rat) = (q : Rat) := by
    rw [← Rat.intCast_natCast]
    congr 1
    omega
  rw [e]
theorem qt_neg {p q : Int} (h : q < 0) : mkRat (-p) q.natAbs = qt p q := by
  unfold qt
  rw [Rat.mkRat_eq_div]
  have e : ((q.natAbs : Nat) : Rat) = -(q : Rat) := by
    rw [← Rat.intCast_natCast, ← Rat.intCast_neg]
    congr 1
    omega
  rw [e, Rat.intCast_neg]
  have hq : (q : Rat) ≠ 0 := by
    intro z
    have := Rat.intCast_inj.1 (show ((q : Int) : Rat) = ((0 : Int) : Rat) from z)
    omega
  grind
theorem qt_sz {p q : Int} {n : Nat} (hq : q ≠ 0) (bp : Bd n p) (bq : Bd n q) : Sz n (qt p q) := by
  rcases Int.lt_trichotomy q 0 with h | h | h
  · rw [← qt_neg h]
    exact .mk' (by omega) bp.neg bq
  · exact absurd h hq
  · rw [← qt_pos h]
    exact .mk' (by omega) bp bq
theorem wp_fractionI {p q : Int} {h : Ho} {Q : KD} {E : XD} {n : Nat} (hq : q ≠ 0) (hz : Bd n q) (h0 : 0 < n) (hn : n ≤ 9000) (k : Q (.d (fr (qt p q))) h) : M_fraction [.d (.int p), .d (.int q)] h Q E := by
  rcases Int.lt_trichotomy q 0 with c | c | c
  · rw [← qt_neg c, low_eq (by omega), Int.natAbs_neg] at k
    have hg : Nat.gcd p.natAbs q.natAbs ≠ 0 := gcd_ne (by omega)
    have dp : ((Nat.gcd p.natAbs q.natAbs : Nat) : Int) ∣ p := Int.ofNat_dvd_left.2 (Nat.gcd_dvd_left _ _)
    have dq : ((Nat.gcd p.natAbs q.natAbs : Nat) : Int) ∣ q := Int.ofNat_dvd_left.2 (Nat.gcd_dvd_right _ _)
    have lt : Nat.gcd p.natAbs q.natAbs < 2 ^ n := gcd_lt (by omega) hz
    have cd : ∀ i : Int, CDivA i (-((Nat.gcd p.natAbs q.natAbs : Nat) : Int)) := fun i => by
      refine ⟨by omega, ?_⟩
      rw [Int.natAbs_neg, Int.natAbs_natCast]
      exact Nat.lt_of_lt_of_le (log2_lt h0 lt) hn
    refine i_mir rfl (by repeat constructor) (by repeat constructor) ?_
    unfold B_fraction
    repeat' array_get_dec
    refine i_ifF (decide_eq_false hq) ?_
    repeat' array_get_dec
    refine i_ifT (decide_eq_true c) ?_
    repeat' array_get_dec
    · exact cd _
    · exact cd _
    · rw [neg_fdiv hg dp, neg_fdiv hg dq, show -q = ((q.natAbs : Nat) : Int) by omega]
      exact k
  · exact absurd c hq
  · rw [← qt_pos c] at k
    have e : q = ((q.natAbs : Nat) : Int) := by omega
    rw [e]
    exact wp_fraction (by omega) hz h0 hn k
end LW
set_option Elab.async false
set_option linter.all false
set_option maxRecDepth 100000
set_option maxHeartbeats 40000000
namespace LW
open PySem PySem.Spec PyProof.Rows L2 V2
local macro_rules
  | `(tactic| array_get_dec) => `(tactic| with_reducible first
    | refine i_seqg (fun _ _ => ?_)
    | refine i_asg2v (by repeat constructor) (by repeat constructor) (by repeat constructor) ?_
    | refine i_asgn ?_ (by with_unfolding_all exact Nat.le_of_ble_eq_true rfl)
    | refine i_set (by repeat constructor) ?_
    | refine i_par ?_ (by with_unfolding_all exact Nat.le_of_ble_eq_true rfl) (by with_unfolding_all exact Nat.le_of_ble_eq_true rfl)
    | refine i_pair (by repeat constructor) (by repeat constructor) ?_
    | refine i_par3 ?_ (by with_unfolding_all exact Nat.le_of_ble_eq_true rfl) (by with_unfolding_all exact Nat.le_of_ble_eq_true rfl) (by with_unfolding_all exact Nat.le_of_ble_eq_true rfl)
    | refine i_trip (by repeat constructor) (by repeat constructor) (by repeat constructor) ?_
    | refine i_ret ?_
    | refine i_if ?_
    | refine i_var (by repeat constructor) ?_
    | refine i_c ?_
    | refine i_cons ?_
    | refine i_nil ?_
    | refine i_bin ?_
    | refine i_ints0 ?_
    | refine i_ints ?_ ?_
    | refine i_add ?_
    | refine i_eqi ?_
    | refine i_nei ?_
    | refine i_eqsr ?_
    | refine i_eqs ?_
    | refine i_nesr ?_
    | refine i_nes ?_
    | refine i_un ?_
    | refine i_val ?_
    | refine i_isb ?_
    | refine i_isi ?_
    | refine i_isr ?_
    | refine i_and2 ?_
    | refine i_or2 ?_
    | refine i_not2 ?_
    | refine i_fif ?_
    | refine i_fand ?_
    | refine i_tup ?_
    | refine i_lst ?_
    | refine i_all (by repeat constructor) (by with_unfolding_all exact Nat.le_of_ble_eq_true rfl) ?_
    | refine i_ix (by assumption) (by with_unfolding_all exact rfl) ?_
    | refine i_ix (by with_unfolding_all exact rfl) (by with_unfolding_all exact rfl) ?_
    | refine i_call ?_
    | refine i_fn ?_
    | refine i_fnk ?_
    | refine i_pk1 ?_
    | refine i_pk2 ?_
    | refine i_pk3 ?_
    | refine i_pk4 ?_
    | refine i_abs ?_
    | refine i_toint ?_
    | refine i_gcd ?_
    | refine i_lcm3 ?_ ?_
    | refine i_chain ?_
    | refine i_max2 ?_
    | refine i_min2 ?_
    | refine i_isN ?_
    | refine i_notN ?_
    | refine i_len (by with_unfolding_all exact rfl) ?_
    | refine i_drop ?_
    | refine i_pop ?_
    | refine i_append ?_
    | refine i_sub ?_
    | refine i_raise ?_
    | refine i_one ?_
    | refine i_enum1 ?_
    | refine i_zip2 ?_
    | refine i_brk ?_
    | refine i_for ?_
    | refine i_range1 ?_
    | refine i_range2 ?_
    | refine i_isr2 ?_
    | refine i_next ?_
    | refine i_go (by assumption) ?_)

local macro_rules
  | `(tactic| decreasing_trivial_pre_omega) => `(tactic| (apply cmB; (repeat' (first | assumption | apply Bd.add | apply Bd.sub | apply Bd.mul | apply Bd.neg)); decide))

open SX (S S_tl S_inj S_len S_cat)
/-! ### texts by their code points -/
theorem i_fM0 {ρ : En} {h : Ho} {Q : KD} {E : XD} {n : Nat} {a : Str} {g : Str → PyData} (e : GetAt n ρ (.d (.str a))) (k : Q (.d (g a)) h) : fM0 g (fVar n) ρ h Q E := i_var e k
theorem i_fM1c {ρ : En} {h : Ho} {Q : KD} {E : XD} {n : Nat} {a b : Str} {C : Str → Str → Prop} {g : Str → Str → PyData} (e : GetAt n ρ (.d (.str a))) (c : C a b) (k : Q (.d (g a b)) h) : fM1 C g (fVar n) (fC (.str b)) ρ h Q E := i_var e ⟨c, k⟩
theorem i_fnotb {ρ : En} {h : Ho} {Q : KD} {E : XD} {fa : WE} (k : fa ρ h (fun x h1 => ∃ b, x = .d (.bool b) ∧ Q (.d (.bool (!b))) h1) E) : fNot fa ρ h Q E := by
  have e1 : (fun (x : D) (h1 : Ho) => ∃ b, x = .d (.bool b) ∧ Q (.d (.bool (!b))) h1) = (fun x h1 => match x with
      | .d (.bool b) => Q (.d (.bool (!b))) h1
      | _ => False) := by
    funext x h1
    apply propext
    constructor
    · rintro ⟨b, rfl, q⟩
      exact q
    · split
      · exact fun q => ⟨_, rfl, q⟩
      · exact False.elim
  rw [e1] at k
  exact k
theorem i_forb {ρ : En} {h : Ho} {Q : KD} {E : XD} {fa fb : WE} (k : fa ρ h (fun x h1 => ∃ b, x = .d (.bool b) ∧ if b = true then Q (.d (.bool true)) h1 else fb ρ h1 Q E) E) : fOr fa fb ρ h Q E := by
  have e1 : (fun (x : D) (h1 : Ho) => ∃ b, x = .d (.bool b) ∧ if b = true then Q (.d (.bool true)) h1 else fb ρ h1 Q E) = (fun x h1 => match x with
      | .d (.bool false) => fb ρ h1 Q E
      | .d (.bool true) => Q (.d (.bool true)) h1
      | _ => False) := by
    funext x h1
    apply propext
    constructor
    · rintro ⟨b, rfl, q⟩
      cases b
      · rw [if_neg (by decide)] at q; exact q
      · rw [if_pos rfl] at q; exact q
    · split
      · exact fun q => ⟨false, rfl, by rw [if_neg (by decide)]; exact q⟩
      · exact fun q => ⟨true, rfl, by rw [if_pos rfl]; exact q⟩
      · exact False.elim
  rw [e1] at k
  exact k
def dig (c : Nat) : Bool := decide (48 ≤ c) && decide (c ≤ 57)
/-- a number in figures, nothing needless -/
def numB (l : List Nat) : Bool := !l.isEmpty && l.all dig && (decide (l = [48]) || !decide (l.head? = some 48))
theorem tl_S (l : List Nat) : (S l).cps.toList = l := rfl
theorem isascii_S (l : List Nat) : Txt.isascii (S l) = l.all (· < 128) := by
  unfold Txt.isascii
  rw [← Array.all_toList]
theorem isdigit_S (l : List Nat) : Txt.isdigit (S l) = (!l.isEmpty && l.all Unicode.isDigit) := by
  unfold Txt.isdigit
  rw [← Array.all_toList, S_len]
  cases l with
  | nil => rfl
  | cons c l => simp
theorem dig_ascii : ∀ c, c < 128 → Unicode.isDigit c = dig c := by
  have k : ∀ n : _root_.Fin 128, Unicode.isDigit n.val = dig n.val := by decide +kernel
  exact fun c h => k ⟨c, h⟩
theorem all_dig : ∀ l : List Nat, (l.all (· < 128) && l.all Unicode.isDigit) = l.all dig
  | [] => rfl
  | c :: l => by
    rw [List.all_cons, List.all_cons, List.all_cons, ← all_dig l]
    by_cases h : c < 128
    · rw [dig_ascii c h, decide_eq_true h]
      cases dig c <;> cases l.all (· < 128) <;> rfl
    · have : dig c = false := by
        unfold dig
        rw [Bool.and_eq_false_iff]
        right
        exact decide_eq_false (by omega)
      rw [decide_eq_false h, this]
      simp
theorem startswith_S (l : List Nat) (s : Nat) : Txt.startswith (S l) (S [s]) = decide (l.head? = some s) := by
  unfold Txt.startswith
  rw [StrLaws.subAt_eq, S_len, S_len]
  cases l with
  | nil => rfl
  | cons c l =>
    show (decide (0 + 1 ≤ l.length + 1) && ([c] == [s])) = decide (some c = some s)
    rw [decide_eq_true (by omega), Bool.true_and]
    by_cases h : c = s
    · subst h; simp
    · have h2 : ¬ some c = some s := fun e => h (Option.some.inj e)
      rw [decide_eq_false h2]
      simp [h]
theorem s0 : (Str.ofString "0" : Str) = S [48] := by decide +kernel
theorem s1 : (Str.ofString "1" : Str) = S [49] := by decide +kernel
theorem sm : (Str.ofString "-" : Str) = S [45] := by decide +kernel
theorem sm0 : (Str.ofString "-0" : Str) = S [45, 48] := by decide +kernel
theorem ss : (Str.ofString "/" : Str) = S [47] := by decide +kernel
theorem se : (Str.ofString "" : Str) = S [] := by decide +kernel
theorem S_dec {a b : List Nat} {z : Str} (hz : z = S b) : decide (S a = z) = decide (a = b) := by
  subst hz
  exact decide_eq_decide.2 ⟨S_inj, fun e => by rw [e]⟩
theorem wp_number {l : List Nat} {h : Ho} {Q : KD} {E : XD} (k : Q (.d (.bool (numB l))) h) : M_is_number_text [.d (.str (S l))] h Q E := by
  refine i_mir rfl (by repeat constructor) (by repeat constructor) ?_
  unfold B_is_number_text
  repeat' array_get_dec
  refine i_fM0 (by repeat constructor) ?_
  have e : numB l = ((l.all (· < 128)) && ((!l.isEmpty && l.all Unicode.isDigit) && (decide (l = [48]) || !decide (l.head? = some 48)))) := by
    unfold numB
    rw [← all_dig]
    cases l.all (· < 128) <;> cases l.all Unicode.isDigit <;> cases l.isEmpty <;> rfl
  rw [e, ← isascii_S, ← isdigit_S] at k
  refine ⟨_, rfl, ?_⟩
  refine i_ite (fun c => ?_) (fun c => ?_)
  · rw [c, Bool.true_and] at k
    refine i_fand ?_
    refine i_fM0 (by repeat constructor) ?_
    refine ⟨_, rfl, ?_⟩
    refine i_ite (fun c => ?_) (fun c => ?_)
    · rw [c, Bool.true_and] at k
      refine i_forb ?_
      repeat' array_get_dec
      rw [S_dec s0]
      refine i_ite (fun c => ?_) (fun c => ?_)
      · rw [c, Bool.true_or] at k
        exact k
      · rw [c, Bool.false_or] at k
        refine i_fnotb ?_
        refine i_fM1c (by repeat constructor) trivial ?_
        refine ⟨_, rfl, ?_⟩
        rw [s0, startswith_S]
        exact k
    · rw [c, Bool.false_and] at k
      exact k
  · rw [c, Bool.false_and] at k
    exact k
/-- without a minus ahead -/
def bare (l : List Nat) : List Nat := if l.head? = some 45 then l.tail else l
theorem removeprefix_S (l : List Nat) : Txt.removeprefix (S l) (S [45]) = S (bare l) := by
  have hs := startswith_S l 45
  unfold Txt.startswith at hs
  rw [StrLaws.removeprefix_eq, hs]
  unfold bare
  cases l with
  | nil => rfl
  | cons c l =>
    have eh : (c :: l).head? = some c := rfl
    rw [eh]
    by_cases h : c = 45
    · subst h
      rw [if_pos (decide_eq_true rfl), if_pos rfl, S_len, S_len]
      show (⟨((l.take (l.length + 1 - 1))).toArray⟩ : Str) = S l
      rw [Nat.add_sub_cancel, List.take_length]
    · have h2 : ¬ some c = some 45 := fun e => h (Option.some.inj e)
      rw [if_neg (by rw [decide_eq_false h2]; decide), if_neg h2]
def wholeB (l : List Nat) : Bool := !decide (l = [45, 48]) && numB (bare l)
theorem wp_wholeT {l : List Nat} (hl : l.length ≤ 1000) {h : Ho} {Q : KD} {E : XD} (k : Q (.d (.bool (wholeB l))) h) : M_is_whole_text [.d (.str (S l))] h Q E := by
  have hsl : sizeLine = 2 ^ 24 := rfl
  refine i_mir rfl (by repeat constructor) (by repeat constructor) ?_
  unfold B_is_whole_text
  repeat' array_get_dec
  rw [S_dec sm0]
  unfold wholeB at k
  refine i_ite (fun c => ?_) (fun c => ?_)
  · rw [c, Bool.true_and] at k
    repeat' array_get_dec
    refine i_fM1c (by repeat constructor) (by rw [S_len]; omega) ?_
    rw [sm, removeprefix_S]
    repeat' array_get_dec
    exact wp_number k
  · rw [c, Bool.false_and] at k
    exact k
end LW
set_option Elab.async false
set_option linter.all false
set_option maxRecDepth 100000
set_option maxHeartbeats 40000000
namespace LW
open PySem PySem.Spec PyProof.Rows L2 V2
local macro_rules
  | `(tactic| array_get_dec) => `(tactic| with_reducible first
    | refine i_seqg (fun _ _ => ?_)
    | refine i_asg2v (by repeat constructor) (by repeat constructor) (by repeat constructor) ?_
    | refine i_asgn ?_ (by with_unfolding_all exact Nat.le_of_ble_eq_true rfl)
    | refine i_set (by repeat constructor) ?_
    | refine i_par ?_ (by with_unfolding_all exact Nat.le_of_ble_eq_true rfl) (by with_unfolding_all exact Nat.le_of_ble_eq_true rfl)
    | refine i_pair (by repeat constructor) (by repeat constructor) ?_
    | refine i_par3 ?_ (by with_unfolding_all exact Nat.le_of_ble_eq_true rfl) (by with_unfolding_all exact Nat.le_of_ble_eq_true rfl) (by with_unfolding_all exact Nat.le_of_ble_eq_true rfl)
    | refine i_trip (by repeat constructor) (by repeat constructor) (by repeat constructor) ?_
    | refine i_ret ?_
    | refine i_if ?_
    | refine i_var (by repeat constructor) ?_
    | refine i_c ?_
    | refine i_cons ?_
    | refine i_nil ?_
    | refine i_bin ?_
    | refine i_ints0 ?_
    | refine i_ints ?_ ?_
    | refine i_add ?_
    | refine i_eqi ?_
    | refine i_nei ?_
    | refine i_eqsr ?_
    | refine i_eqs ?_
    | refine i_nesr ?_
    | refine i_nes ?_
    | refine i_un ?_
    | refine i_val ?_
    | refine i_isb ?_
    | refine i_isi ?_
    | refine i_isr ?_
    | refine i_and2 ?_
    | refine i_or2 ?_
    | refine i_not2 ?_
    | refine i_fif ?_
    | refine i_fand ?_
    | refine i_tup ?_
    | refine i_lst ?_
    | refine i_all (by repeat constructor) (by with_unfolding_all exact Nat.le_of_ble_eq_true rfl) ?_
    | refine i_ix (by assumption) (by with_unfolding_all exact rfl) ?_
    | refine i_ix (by with_unfolding_all exact rfl) (by with_unfolding_all exact rfl) ?_
    | refine i_call ?_
    | refine i_fn ?_
    | refine i_fnk ?_
    | refine i_pk1 ?_
    | refine i_pk2 ?_
    | refine i_pk3 ?_
    | refine i_pk4 ?_
    | refine i_abs ?_
    | refine i_toint ?_
    | refine i_gcd ?_
    | refine i_lcm3 ?_ ?_
    | refine i_chain ?_
    | refine i_max2 ?_
    | refine i_min2 ?_
    | refine i_isN ?_
    | refine i_notN ?_
    | refine i_len (by with_unfolding_all exact rfl) ?_
    | refine i_drop ?_
    | refine i_pop ?_
    | refine i_append ?_
    | refine i_sub ?_
    | refine i_raise ?_
    | refine i_one ?_
    | refine i_enum1 ?_
    | refine i_zip2 ?_
    | refine i_brk ?_
    | refine i_for ?_
    | refine i_range1 ?_
    | refine i_range2 ?_
    | refine i_isr2 ?_
    | refine i_next ?_
    | refine i_go (by assumption) ?_)

local macro_rules
  | `(tactic| decreasing_trivial_pre_omega) => `(tactic| (apply cmB; (repeat' (first | assumption | apply Bd.add | apply Bd.sub | apply Bd.mul | apply Bd.neg)); decide))

open SX (S S_tl S_inj S_len S_cat)
/-! ### what figures are worth -/
abbrev dv (l : List Nat) : Nat := NumText.digitsVal l
theorem dv_snoc (l : List Nat) (c : Nat) : dv (l ++ [c]) = dv l * 10 + (c - 48) := by
  show (l ++ [c]).foldl _ 0 = _
  rw [List.foldl_append]
  rfl
theorem dig_iff {c : Nat} : dig c = true ↔ 48 ≤ c ∧ c ≤ 57 := by
  unfold dig
  rw [Bool.and_eq_true, decide_eq_true_eq, decide_eq_true_eq]
theorem list_snoc {α : Type} (xs : List α) : xs = [] ∨ ∃ l c, xs = l ++ [c] := nil_or_snoc xs
theorem dv_lt : ∀ (n : Nat) (l : List Nat), l.length = n → l.all dig = true → dv l < 10 ^ n
  | 0, l, hl, _ => by
    have : l = [] := List.length_eq_zero_iff.1 hl
    subst this
    decide
  | n + 1, l, hl, ha => by
    rcases list_snoc l with rfl | ⟨m, c, rfl⟩
    · cases hl
    · rw [List.all_append, Bool.and_eq_true] at ha
      have hc : dig c = true := by simpa using ha.2
      rw [dig_iff] at hc
      rw [List.length_append, List.length_singleton] at hl
      have := dv_lt n m (by omega) ha.1
      rw [dv_snoc, Nat.pow_succ]
      omega
/-- from a first figure that is not 0 -/
theorem dv_ge : ∀ (n : Nat) (l : List Nat), l.length = n + 1 → l.all dig = true → l.head? ≠ some 48 → 10 ^ n ≤ dv l
  | n, l, hl, ha, hh => by
    rcases list_snoc l with rfl | ⟨m, c, rfl⟩
    · cases hl
    · rw [List.all_append, Bool.and_eq_true] at ha
      have hc : dig c = true := by simpa using ha.2
      rw [dig_iff] at hc
      rw [List.length_append, List.length_singleton] at hl
      cases n with
      | zero =>
        have : m = [] := List.length_eq_zero_iff.1 (by omega)
        subst this
        have h48 : c ≠ 48 := fun e => hh (by rw [e]; rfl)
        rw [dv_snoc]
        show 1 ≤ _
        omega
      | succ n =>
        have hm : m ≠ [] := fun e => by rw [e] at hl; simp at hl
        have hh2 : m.head? ≠ some 48 := by
          obtain ⟨x, r, rfl⟩ := List.exists_cons_of_ne_nil hm
          exact hh
        have := dv_ge n m (by omega) ha.1 hh2
        rw [dv_snoc, Nat.pow_succ]
        omega
theorem num_facts {l : List Nat} (h : numB l = true) : l ≠ [] ∧ l.all dig = true ∧ (l = [48] ∨ l.head? ≠ some 48) := by
  unfold numB at h
  rw [Bool.and_eq_true, Bool.and_eq_true, Bool.or_eq_true] at h
  obtain ⟨⟨h1, h2⟩, h3⟩ := h
  refine ⟨fun e => ?_, h2, ?_⟩
  · rw [e] at h1; cases h1
  rcases h3 with h3 | h3
  · exact .inl (of_decide_eq_true h3)
  · right
    intro e
    rw [decide_eq_true e] at h3
    cases h3
theorem dv_zero {l : List Nat} (h : numB l = true) : dv l = 0 ↔ l = [48] := by
  obtain ⟨h1, h2, h3⟩ := num_facts h
  constructor
  · intro e
    rcases h3 with h3 | h3
    · exact h3
    · obtain ⟨n, hn⟩ : ∃ n, l.length = n + 1 := ⟨l.length - 1, by have := List.length_pos_iff.2 h1; omega⟩
      have := dv_ge n l hn h2 h3
      have p : 0 < 10 ^ n := Nat.pow_pos (by decide)
      omega
  · rintro rfl
    rfl
theorem dv_one {l : List Nat} (h : numB l = true) : dv l = 1 ↔ l = [49] := by
  obtain ⟨h1, h2, h3⟩ := num_facts h
  constructor
  · intro e
    rcases h3 with h3 | h3
    · rw [h3] at e; cases e
    · obtain ⟨n, hn⟩ : ∃ n, l.length = n + 1 := ⟨l.length - 1, by have := List.length_pos_iff.2 h1; omega⟩
      have := dv_ge n l hn h2 h3
      cases n with
      | zero =>
        match l, hn with
        | [c], _ =>
          have hc : dig c = true := by simpa using h2
          rw [dig_iff] at hc
          have e : c - 48 = 1 := by
            have e : 0 * 10 + (c - 48) = 1 := e
            omega
          have : c = 49 := by omega
          rw [this]
      | succ n =>
        rw [Nat.pow_succ] at this
        have p : 0 < 10 ^ n := Nat.pow_pos (by decide)
        omega
  · rintro rfl
    rfl
def val (l : List Nat) : Int := if l.head? = some 45 then -(dv (bare l) : Int) else dv (bare l)
theorem bare_head {l : List Nat} (h : l.head? = some 45) : l = 45 :: bare l := by
  unfold bare
  rw [if_pos h]
  cases l with
  | nil => cases h
  | cons c l => cases h; rfl
theorem bare_no {l : List Nat} (h : l.head? ≠ some 45) : bare l = l := by
  unfold bare
  rw [if_neg h]
theorem bare_ne {l : List Nat} : bare l ≠ l ↔ l.head? = some 45 := by
  constructor
  · intro h
    exact Classical.byContradiction fun z => h (bare_no z)
  · intro h e
    have := bare_head h
    rw [e] at this
    have := congrArg List.length this
    simp at this
theorem alldig {l : List Nat} (h : l.all dig = true) : NumText.AllDigits l := fun c hc => by
  have := List.all_eq_true.1 h c hc
  exact dig_iff.1 this
theorem int_num {l : List Nat} (h : numB l = true) (hl : l.length ≤ 600) : intText? (S l) = some ((dv l : Nat) : Int) := by
  obtain ⟨h1, h2, _⟩ := num_facts h
  exact intText_digits (x := S l) (alldig h2) h1 (by rw [S_len]; omega)
theorem int_whole {l : List Nat} (h : wholeB l = true) (hl : l.length ≤ 600) : intText? (S l) = some (val l) := by
  unfold wholeB at h
  rw [Bool.and_eq_true] at h
  obtain ⟨h1, h2, _⟩ := num_facts h.2
  unfold val
  by_cases hm : l.head? = some 45
  · rw [if_pos hm]
    have e := bare_head hm
    exact intText_neg (x := S l) (cs := bare l) e (alldig h2) h1 (by rw [S_len]; omega)
  · rw [if_neg hm]
    rw [bare_no hm] at h2 h1 ⊢
    exact intText_digits (x := S l) (alldig h2) h1 (by rw [S_len]; omega)
/-! ### both readings of a text -/
/-- the program's -/
def rd (l : List Nat) : Option (Int × Int) := match TL.par [47] [] l with
  | none => if wholeB l = true then some (val l, 1) else none
  | some (p, q) => if q = [49] then none else if (wholeB p && numB q) = true then (if frOK (.tuple [.int (val p), .int (dv q : Nat)]) = true then some (val p, (dv q : Nat)) else none) else none
/-- the law's, of the names between the slashes of what stands behind the minus -/
def lrd (l : List Nat) (ns : List (List Nat)) : Option (Int × Int) :=
  if 2 < ns.length then none else if ns.all numB = true then
    (let t := dv (ns.getD 0 []); let b := if ns.length = 2 then dv (ns.getD 1 []) else 1
     if (ns.length = 2 ∧ b < 2) ∨ (t = 0 ∧ bare l ≠ l) ∨ Nat.gcd t b ≠ 1 then none else some (if bare l ≠ l then 0 - (t : Int) else t, (b : Int)))
  else none
theorem pre47 (c : Nat) (r : List Nat) : TL.pre [47] (c :: r) = decide (c = 47) := by
  by_cases h : c = 47
  · subst h
    rw [decide_eq_true rfl]
    rfl
  · rw [decide_eq_false h]
    exact TL.pre_of_head _ _ h
theorem spl_one {l : List Nat} (h : 47 ∉ l) : TL.spl [47] 0 [] l = [l] := by
  have := SX.spl_join (c := 47) (sep := []) (parts := [l]) (by simp) (by simpa using h)
  exact this
theorem spl_ne (q : List Nat) : ∀ (k : Nat) (acc : List Nat), TL.spl [47] k acc q ≠ [] := by
  induction q with
  | nil => intro k acc; rw [TL.spl_nil]; simp
  | cons c r ih =>
    intro k acc
    cases k with
    | zero =>
      show (if TL.pre [47] (c :: r) = true then acc :: TL.spl [47] 0 [] r else TL.spl [47] 0 (acc ++ [c]) r) ≠ []
      split
      · simp
      · exact ih _ _
    | succ k => exact ih k acc
theorem first_slash {l : List Nat} (h : 47 ∈ l) : ∃ p q, l = p ++ 47 :: q ∧ 47 ∉ p := by
  induction l with
  | nil => cases h
  | cons c l ih =>
    by_cases hc : c = 47
    · exact ⟨[], l, by rw [hc]; rfl, by simp⟩
    · have hm : 47 ∈ l := by
        cases h with
        | head => exact absurd rfl hc
        | tail _ h => exact h
      obtain ⟨p, q, e, hp⟩ := ih hm
      exact ⟨c :: p, q, by rw [e]; rfl, fun hm => by
        cases hm with
        | head => exact hc rfl
        | tail _ h => exact hp h⟩
theorem num_noslash {l : List Nat} (h : numB l = true) : 47 ∉ l := fun hm => by
  have := List.all_eq_true.1 (num_facts h).2.1 _ hm
  cases this
theorem bare_app {p q : List Nat} (hp : p ≠ [] ∨ q.head? ≠ some 45) : bare (p ++ q) = bare p ++ q := by
  cases p with
  | nil =>
    rcases hp with h | h
    · exact absurd rfl h
    · rw [List.nil_append, bare_no h]
      rfl
  | cons c p =>
    unfold bare
    have e1 : (c :: p ++ q).head? = some c := rfl
    have e2 : (c :: p).head? = some c := rfl
    rw [e1, e2]
    split
    · rfl
    · rfl
theorem head_app {p q : List Nat} (hp : p ≠ [] ∨ q.head? ≠ some 45) : (p ++ q).head? = some 45 ↔ p.head? = some 45 := by
  cases p with
  | nil =>
    rcases hp with h | h
    · exact absurd rfl h
    · rw [List.nil_append]
      exact ⟨fun e => absurd e h, fun e => by cases e⟩
  | cons c p => exact Iff.rfl
theorem val_abs (l : List Nat) : (val l).natAbs = dv (bare l) := by
  unfold val
  split <;> omega
theorem val_eq (l : List Nat) : (if bare l ≠ l then 0 - (dv (bare l) : Int) else dv (bare l)) = val l := by
  unfold val
  by_cases h : l.head? = some 45
  · rw [if_pos h, if_pos (bare_ne.2 h), Int.zero_sub]
  · rw [if_neg h, if_neg (fun z => h (bare_ne.1 z))]
theorem whole_iff {l : List Nat} : wholeB l = true ↔ numB (bare l) = true ∧ ¬ (dv (bare l) = 0 ∧ bare l ≠ l) := by
  unfold wholeB
  rw [Bool.and_eq_true, Bool.not_eq_true', decide_eq_false_iff_not]
  constructor
  · rintro ⟨h1, h2⟩
    refine ⟨h2, fun ⟨h3, h4⟩ => h1 ?_⟩
    rw [dv_zero h2] at h3
    have := bare_head (bare_ne.1 h4)
    rw [h3] at this
    exact this
  · rintro ⟨h1, h2⟩
    refine ⟨fun e => h2 ?_, h1⟩
    subst e
    exact ⟨rfl, by decide⟩
theorem lrd_eq (l : List Nat) : lrd l (TL.spl [47] 0 [] (bare l)) = rd l := by
  by_cases hs : 47 ∈ l
  · obtain ⟨p, q, rfl, hp⟩ := first_slash hs
    have hq : p ≠ [] ∨ (47 :: q).head? ≠ some 45 := .inr (by show some 47 ≠ some 45; decide)
    have ep : TL.par [47] [] (p ++ 47 :: q) = some (p, q) := SX.par_head q hp
    have eb := bare_app hq
    have hpb : 47 ∉ bare p := fun hm => hp (by
      unfold bare at hm
      split at hm
      · exact List.mem_of_mem_tail hm
      · exact hm)
    have es : TL.spl [47] 0 [] (bare (p ++ 47 :: q)) = bare p :: TL.spl [47] 0 [] q := by
      rw [eb]
      exact SX.spl_free (sep := [47]) q (by simp) (SX.free_head hpb)
    have hne : bare (p ++ 47 :: q) ≠ p ++ 47 :: q ↔ bare p ≠ p := by rw [bare_ne, bare_ne, head_app hq]
    unfold rd
    rw [ep, es]
    simp only
    by_cases hq2 : 47 ∈ q
    · -- more than one slash
      obtain ⟨p2, q2, rfl, hp2⟩ := first_slash hq2
      have es2 : TL.spl [47] 0 [] (p2 ++ 47 :: q2) = p2 :: TL.spl [47] 0 [] q2 := SX.spl_free (sep := [47]) q2 (by simp) (SX.free_head hp2)
      obtain ⟨x, r, er⟩ := List.exists_cons_of_ne_nil (spl_ne q2 0 [])
      unfold lrd
      rw [es2, er, if_pos (by simp)]
      have hn : numB (p2 ++ 47 :: q2) = false := by
        cases e : numB (p2 ++ 47 :: q2) with
        | false => rfl
        | true => exact absurd hq2 (num_noslash e)
      rw [hn, Bool.and_false]
      split
      · rfl
      · rfl
    · rw [spl_one hq2]
      unfold lrd
      have hl : ¬ 2 < [bare p, q].length := by simp
      rw [if_neg hl]
      have ea : [bare p, q].all numB = (numB (bare p) && numB q) := by simp
      have el : [bare p, q].length = 2 := rfl
      have g0 : [bare p, q].getD 0 [] = bare p := rfl
      have g1 : [bare p, q].getD 1 [] = q := rfl
      rw [ea, el, g0, g1]
      simp only [if_true, true_and]
      by_cases h1 : numB (bare p) = true
      · by_cases h2 : numB q = true
        · rw [h1, h2, Bool.true_and, if_pos rfl]
          by_cases h3 : q = [49]
          · rw [if_pos h3, if_pos (.inl (by rw [(dv_one h2).2 h3]; decide))]
          · rw [if_neg h3, Bool.and_true]
            have n1 : dv q ≠ 1 := fun e => h3 ((dv_one h2).1 e)
            by_cases h4 : wholeB p = true
            · rw [if_pos h4]
              rw [whole_iff] at h4
              have fo : frOK (.tuple [.int (val p), .int ((dv q : Nat) : Int)]) = true ↔ 0 < dv q ∧ Nat.gcd (dv (bare p)) (dv q) = 1 := by
                show ((decide ((0 : Int) < (dv q : Nat)) && decide (Nat.gcd (val p).natAbs ((dv q : Nat) : Int).natAbs = 1)) = true) ↔ _
                rw [Bool.and_eq_true, decide_eq_true_eq, decide_eq_true_eq, val_abs, Int.natAbs_natCast]
                constructor
                · rintro ⟨a, b⟩
                  exact ⟨by omega, b⟩
                · rintro ⟨a, b⟩
                  exact ⟨by omega, b⟩
              by_cases h5 : 0 < dv q ∧ Nat.gcd (dv (bare p)) (dv q) = 1
              · rw [if_pos (fo.2 h5), if_neg, ← val_eq p]
                · congr 2
                  by_cases hb : bare p ≠ p
                  · rw [if_pos hb, if_pos (hne.2 hb)]
                  · rw [if_neg hb, if_neg (fun z => hb (hne.1 z))]
                · rintro (z | z | z)
                  · omega
                  · exact h4.2 ⟨z.1, hne.1 z.2⟩
                  · exact z h5.2
              · rw [if_neg (fun z => h5 (fo.1 z)), if_pos]
                by_cases h6 : dv q = 0
                · exact .inl (by omega)
                · exact .inr (.inr fun z => h5 ⟨by omega, z⟩)
            · rw [if_neg h4, if_pos]
              rw [whole_iff] at h4
              right; left
              have := Classical.byContradiction fun z => h4 ⟨h1, z⟩
              exact ⟨this.1, hne.2 this.2⟩
        · have h2 : numB q = false := by simpa using h2
          rw [h2]
          simp
      · have h1 : numB (bare p) = false := by simpa using h1
        have hw : wholeB p = false := by unfold wholeB; rw [h1, Bool.and_false]
        rw [h1, hw]
        simp
  · have en : TL.par [47] [] l = none := SX.par_head_none hs
    have hb : 47 ∉ bare l := fun hm => hs (by
      unfold bare at hm
      split at hm
      · exact List.mem_of_mem_tail hm
      · exact hm)
    unfold rd
    rw [en, spl_one hb]
    simp only
    unfold lrd
    have hl : ¬ 2 < [bare l].length := by simp
    have ea : [bare l].all numB = numB (bare l) := by simp
    have el : ¬ [bare l].length = 2 := by simp
    have g0 : [bare l].getD 0 [] = bare l := rfl
    rw [if_neg hl, ea, g0]
    simp only [if_neg el]
    by_cases h1 : numB (bare l) = true
    · rw [if_pos h1]
      by_cases h4 : wholeB l = true
      · rw [if_pos h4]
        rw [whole_iff] at h4
        rw [if_neg, val_eq]
        · rfl
        · rintro (z | z | z)
          · exact el z.1
          · exact h4.2 z
          · exact z (Nat.gcd_one_right _)
      · rw [if_neg h4, if_pos]
        rw [whole_iff] at h4
        right; left
        exact Classical.byContradiction fun z => h4 ⟨h1, z⟩
    · have h1' : numB (bare l) = false := by simpa using h1
      have hw : wholeB l = false := by unfold wholeB; rw [h1', Bool.and_false]
      rw [if_neg h1, hw, if_neg (by decide)]
end LW
set_option Elab.async false
set_option linter.all false
set_option maxRecDepth 100000
set_option maxHeartbeats 40000000
namespace LW
open PySem PySem.Spec PyProof.Rows L2 V2
local macro_rules
  | `(tactic| array_get_dec) => `(tactic| with_reducible first
    | refine i_seqg (fun _ _ => ?_)
    | refine i_asg2v (by repeat constructor) (by repeat constructor) (by repeat constructor) ?_
    | refine i_asgn ?_ (by with_unfolding_all exact Nat.le_of_ble_eq_true rfl)
    | refine i_set (by repeat constructor) ?_
    | refine i_par ?_ (by with_unfolding_all exact Nat.le_of_ble_eq_true rfl) (by with_unfolding_all exact Nat.le_of_ble_eq_true rfl)
    | refine i_pair (by repeat constructor) (by repeat constructor) ?_
    | refine i_par3 ?_ (by with_unfolding_all exact Nat.le_of_ble_eq_true rfl) (by with_unfolding_all exact Nat.le_of_ble_eq_true rfl) (by with_unfolding_all exact Nat.le_of_ble_eq_true rfl)
    | refine i_trip (by repeat constructor) (by repeat constructor) (by repeat constructor) ?_
    | refine i_ret ?_
    | refine i_if ?_
    | refine i_var (by repeat constructor) ?_
    | refine i_c ?_
    | refine i_cons ?_
    | refine i_nil ?_
    | refine i_bin ?_
    | refine i_ints0 ?_
    | refine i_ints ?_ ?_
    | refine i_add ?_
    | refine i_eqi ?_
    | refine i_nei ?_
    | refine i_eqsr ?_
    | refine i_eqs ?_
    | refine i_nesr ?_
    | refine i_nes ?_
    | refine i_un ?_
    | refine i_val ?_
    | refine i_isb ?_
    | refine i_isi ?_
    | refine i_isr ?_
    | refine i_and2 ?_
    | refine i_or2 ?_
    | refine i_not2 ?_
    | refine i_fif ?_
    | refine i_fand ?_
    | refine i_tup ?_
    | refine i_lst ?_
    | refine i_all (by repeat constructor) (by with_unfolding_all exact Nat.le_of_ble_eq_true rfl) ?_
    | refine i_ix (by assumption) (by with_unfolding_all exact rfl) ?_
    | refine i_ix (by with_unfolding_all exact rfl) (by with_unfolding_all exact rfl) ?_
    | refine i_call ?_
    | refine i_fn ?_
    | refine i_fnk ?_
    | refine i_pk1 ?_
    | refine i_pk2 ?_
    | refine i_pk3 ?_
    | refine i_pk4 ?_
    | refine i_abs ?_
    | refine i_toint ?_
    | refine i_gcd ?_
    | refine i_lcm3 ?_ ?_
    | refine i_chain ?_
    | refine i_max2 ?_
    | refine i_min2 ?_
    | refine i_isN ?_
    | refine i_notN ?_
    | refine i_len (by with_unfolding_all exact rfl) ?_
    | refine i_drop ?_
    | refine i_pop ?_
    | refine i_append ?_
    | refine i_sub ?_
    | refine i_raise ?_
    | refine i_one ?_
    | refine i_enum1 ?_
    | refine i_zip2 ?_
    | refine i_brk ?_
    | refine i_for ?_
    | refine i_range1 ?_
    | refine i_range2 ?_
    | refine i_isr2 ?_
    | refine i_next ?_
    | refine i_go (by assumption) ?_)

local macro_rules
  | `(tactic| decreasing_trivial_pre_omega) => `(tactic| (apply cmB; (repeat' (first | assumption | apply Bd.add | apply Bd.sub | apply Bd.mul | apply Bd.neg)); decide))

open SX (S S_tl S_inj S_len S_cat)
/-! ### the program reads a text -/
theorem i_intS {a : Str} {n : Int} (e : intText? a = some n) (hl : a.length ≤ 640) {h : Ho} {Q : KD} (k : Q (.d (.int n)) h) : rIntS [.d (.str a)] h Q := ⟨n, e, hl, k⟩
theorem wp_rtail {p q : List Nat} (hp : p.length ≤ 600) (hq : q.length ≤ 600) {v0 v2 : Option D} {h : Ho} {nx : En → Ho → Prop} {rt : KD} {bk ct : En → Ho → Prop} {ex : Ex → En → Ho → Prop}
    (k1 : (wholeB p && numB q) = true → frOK (.tuple [.int (val p), .int (dv q : Nat)]) = true → rt (.d (.tuple [.int (val p), .int (dv q : Nat)])) h)
    (k2 : ∀ ρ, ((wholeB p && numB q) = true → frOK (.tuple [.int (val p), .int (dv q : Nat)]) = false) → ex ⟨"InvalidText", some ("at", .d (.int 0))⟩ ρ h) :
    (sSeq (sIf (tNot2 (tAnd2 (tVal (fFn M_is_whole_text (aCons (fVar 1) aNil))) (tVal (fFn M_is_number_text (aCons (fVar 3) aNil))))) (sRaise "InvalidText" "at" (aCons (fC (.int 0)) aNil)) sNext)
  (sSeq (sAsg (fTup (aCons (fCall rIntS (aCons (fVar 1) aNil)) (aCons (fCall rIntS (aCons (fVar 3) aNil)) aNil))) (gNm 4))
  (sSeq (sIf (tNot2 (tVal (fFn M_is_fraction (aCons (fVar 4) aNil)))) (sRaise "InvalidText" "at" (aCons (fC (.int 0)) aNil)) sNext)
  (sRet (fVar 4))))) [v0, some (.d (.str (S p))), v2, some (.d (.str (S q))), none] h ⟨nx, rt, bk, ct, ex⟩ := by
  repeat' array_get_dec
  refine wp_wholeT (by omega) ?_
  repeat' array_get_dec
  by_cases h1 : wholeB p = true
  · refine i_ifT h1 ?_
    repeat' array_get_dec
    refine wp_number ?_
    repeat' array_get_dec
    by_cases h2 : numB q = true
    · refine i_ifF (by rw [h2]; rfl) ?_
      have h12 : (wholeB p && numB q) = true := by rw [h1, h2]; rfl
      repeat' array_get_dec
      refine i_intS (int_whole h1 hp) (by rw [S_len]; omega) ?_
      repeat' array_get_dec
      refine i_intS (int_num h2 hq) (by rw [S_len]; omega) ?_
      repeat' array_get_dec
      refine wp_is_fraction ?_
      repeat' array_get_dec
      by_cases h3 : frOK (.tuple [.int (val p), .int (dv q : Nat)]) = true
      · refine i_ifF (by rw [h3]; rfl) ?_
        repeat' array_get_dec
        exact k1 h12 h3
      · have h3 : frOK (.tuple [.int (val p), .int (dv q : Nat)]) = false := by simpa using h3
        refine i_ifT (by rw [h3]; rfl) ?_
        repeat' array_get_dec
        exact k2 _ fun _ => h3
    · have h2 : numB q = false := by simpa using h2
      refine i_ifT (by rw [h2]; rfl) ?_
      repeat' array_get_dec
      exact k2 _ fun z => by rw [h2, Bool.and_false] at z; cases z
  · have h1 : wholeB p = false := by simpa using h1
    refine i_ifF h1 ?_
    refine i_ifT rfl ?_
    repeat' array_get_dec
    exact k2 _ fun z => by rw [h1, Bool.false_and] at z; cases z
theorem par_len {l p q : List Nat} (e : TL.par [47] [] l = some (p, q)) : p.length ≤ l.length ∧ q.length ≤ l.length := by
  by_cases hs : 47 ∈ l
  · obtain ⟨p2, q2, rfl, hp⟩ := first_slash hs
    have ep : TL.par [47] [] (p2 ++ 47 :: q2) = some (p2, q2) := SX.par_head q2 hp
    rw [ep] at e
    cases e
    rw [List.length_append, List.length_cons]
    omega
  · rw [SX.par_head_none hs] at e
    cases e
theorem kit_strT (z : Str) : kitB (tyName (.str z)) "str" = some true := by
  show kitB "str" "str" = some true
  decide +kernel
theorem wp_read {l : List Nat} (hl : l.length ≤ 600) {h : Ho} {Q : KD} {E : XD} (k1 : ∀ a b, rd l = some (a, b) → Q (.d (.tuple [.int a, .int b])) h) (k2 : rd l = none → E ⟨"InvalidText", some ("at", .d (.int 0))⟩ h) : M_read_fraction [.d (.str (S l))] h Q E := by
  have hsl : sizeLine = 2 ^ 24 := rfl
  have hlen : (S l).length ≤ sizeLine := by rw [S_len]; omega
  refine i_mir rfl (by repeat constructor) (by repeat constructor) ?_
  unfold B_read_fraction
  repeat' array_get_dec
  refine i_isiD (by repeat constructor) (kit_strT _) ?_
  repeat' array_get_dec
  refine i_ifF rfl ?_
  array_get_dec
  array_get_dec
  refine i_asgG ?_
  refine i_fM1c (by repeat constructor) ⟨by decide +kernel, hlen⟩ ?_
  cases e : TL.par [47] [] l with
  | none =>
    have rd1 : rd l = if wholeB l = true then some (val l, 1) else none := by unfold rd; rw [e]
    rw [ss, SX.partition_none (by simp) e]
    refine ⟨[some (.d (.str (S l))), some (.d (.str (S l))), some (.d (.str (S []))), some (.d (.str (S []))), none], rfl, ?_⟩
    repeat' array_get_dec
    rw [S_dec se]
    refine i_ifT rfl ?_
    array_get_dec
    array_get_dec
    array_get_dec
    array_get_dec
    rw [s1]
    have n1 : numB [49] = true := by decide
    refine wp_rtail hl (by simp) (fun z f => ?_) (fun ρ z => ?_)
    · refine k1 _ _ ?_
      rw [n1, Bool.and_true] at z
      rw [rd1, if_pos z]
      rfl
    · refine k2 ?_
      rw [rd1]
      by_cases hw : wholeB l = true
      · exfalso
        have := z (by rw [hw, n1]; rfl)
        have f : frOK (.tuple [.int (val l), .int ((dv [49] : Nat) : Int)]) = true := by
          show ((decide ((0 : Int) < ((dv [49] : Nat) : Int))) && decide (Nat.gcd (val l).natAbs ((dv [49] : Nat) : Int).natAbs = 1)) = true
          have e1 : dv [49] = 1 := rfl
          rw [e1]
          have : Nat.gcd (val l).natAbs (((1 : Nat) : Int)).natAbs = 1 := Nat.gcd_one_right _
          rw [decide_eq_true this]
          rfl
        rw [f] at this
        cases this
      · rw [if_neg hw]
  | some pq =>
    obtain ⟨p, q⟩ := pq
    have pl := par_len e
    have rd1 : rd l = if q = [49] then none else if (wholeB p && numB q) = true then (if frOK (.tuple [.int (val p), .int (dv q : Nat)]) = true then some (val p, ((dv q : Nat) : Int)) else none) else none := by unfold rd; rw [e]
    rw [ss, SX.partition_some (by simp) e]
    refine ⟨[some (.d (.str (S l))), some (.d (.str (S p))), some (.d (.str (S [47]))), some (.d (.str (S q))), none], rfl, ?_⟩
    repeat' array_get_dec
    rw [S_dec se]
    refine i_ifF rfl ?_
    repeat' array_get_dec
    rw [S_dec s1]
    by_cases h1 : q = [49]
    · refine i_ifT (decide_eq_true h1) ?_
      repeat' array_get_dec
      exact k2 (by rw [rd1, if_pos h1])
    · refine i_ifF (decide_eq_false h1) ?_
      array_get_dec
      array_get_dec
      refine wp_rtail (by omega) (by omega) (fun z f => ?_) (fun ρ z => ?_)
      · exact k1 _ _ (by rw [rd1, if_neg h1, if_pos z, if_pos f])
      · refine k2 ?_
        rw [rd1, if_neg h1]
        by_cases hw : (wholeB p && numB q) = true
        · rw [if_pos hw, if_neg]
          rw [z hw]
          decide
        · rw [if_neg hw]
end LW
set_option Elab.async false
set_option linter.all false
set_option maxRecDepth 100000
set_option maxHeartbeats 40000000
namespace LW
open PySem PySem.Spec PyProof.Rows L2 V2
local macro_rules
  | `(tactic| array_get_dec) => `(tactic| with_reducible first
    | refine i_seqg (fun _ _ => ?_)
    | refine i_asg2v (by repeat constructor) (by repeat constructor) (by repeat constructor) ?_
    | refine i_asgn ?_ (by with_unfolding_all exact Nat.le_of_ble_eq_true rfl)
    | refine i_set (by repeat constructor) ?_
    | refine i_par ?_ (by with_unfolding_all exact Nat.le_of_ble_eq_true rfl) (by with_unfolding_all exact Nat.le_of_ble_eq_true rfl)
    | refine i_pair (by repeat constructor) (by repeat constructor) ?_
    | refine i_par3 ?_ (by with_unfolding_all exact Nat.le_of_ble_eq_true rfl) (by with_unfolding_all exact Nat.le_of_ble_eq_true rfl) (by with_unfolding_all exact Nat.le_of_ble_eq_true rfl)
    | refine i_trip (by repeat constructor) (by repeat constructor) (by repeat constructor) ?_
    | refine i_ret ?_
    | refine i_if ?_
    | refine i_var (by repeat constructor) ?_
    | refine i_c ?_
    | refine i_cons ?_
    | refine i_nil ?_
    | refine i_bin ?_
    | refine i_ints0 ?_
    | refine i_ints ?_ ?_
    | refine i_add ?_
    | refine i_eqi ?_
    | refine i_nei ?_
    | refine i_eqsr ?_
    | refine i_eqs ?_
    | refine i_nesr ?_
    | refine i_nes ?_
    | refine i_un ?_
    | refine i_val ?_
    | refine i_isb ?_
    | refine i_isi ?_
    | refine i_isr ?_
    | refine i_and2 ?_
    | refine i_or2 ?_
    | refine i_not2 ?_
    | refine i_fif ?_
    | refine i_fand ?_
    | refine i_tup ?_
    | refine i_lst ?_
    | refine i_all (by repeat constructor) (by with_unfolding_all exact Nat.le_of_ble_eq_true rfl) ?_
    | refine i_ix (by assumption) (by with_unfolding_all exact rfl) ?_
    | refine i_ix (by with_unfolding_all exact rfl) (by with_unfolding_all exact rfl) ?_
    | refine i_call ?_
    | refine i_fn ?_
    | refine i_fnk ?_
    | refine i_pk1 ?_
    | refine i_pk2 ?_
    | refine i_pk3 ?_
    | refine i_pk4 ?_
    | refine i_abs ?_
    | refine i_toint ?_
    | refine i_gcd ?_
    | refine i_lcm3 ?_ ?_
    | refine i_chain ?_
    | refine i_max2 ?_
    | refine i_min2 ?_
    | refine i_isN ?_
    | refine i_notN ?_
    | refine i_len (by with_unfolding_all exact rfl) ?_
    | refine i_drop ?_
    | refine i_pop ?_
    | refine i_append ?_
    | refine i_sub ?_
    | refine i_raise ?_
    | refine i_one ?_
    | refine i_enum1 ?_
    | refine i_zip2 ?_
    | refine i_brk ?_
    | refine i_for ?_
    | refine i_range1 ?_
    | refine i_range2 ?_
    | refine i_isr2 ?_
    | refine i_next ?_
    | refine i_go (by assumption) ?_)

local macro_rules
  | `(tactic| decreasing_trivial_pre_omega) => `(tactic| (apply cmB; (repeat' (first | assumption | apply Bd.add | apply Bd.sub | apply Bd.mul | apply Bd.neg)); decide))

open SX (S S_tl S_inj S_len S_cat)
/-! ### the law reads a text -/
theorem cutS_take (l : List Nat) (k : Nat) : cutS (S l) none (some (k : Int)) = S (l.take k) := by
  unfold cutS
  rw [HT.sIx_nat, HT.sIx_none, S_len, List.drop_zero, Nat.sub_zero]
  rcases Nat.le_total k l.length with h | h
  · rw [Nat.min_eq_left h]
  · rw [Nat.min_eq_right h, List.take_of_length_le h]
    show (⟨(l.take l.length).toArray⟩ : Str) = _
    rw [List.take_length]
theorem cutS_drop (l : List Nat) (k : Nat) : cutS (S l) (some (k : Int)) none = S (l.drop k) := by
  unfold cutS
  rw [HT.sIx_nat, HT.sIx_none, S_len]
  rcases Nat.le_total k l.length with h | h
  · rw [Nat.min_eq_left h]
    show (⟨((l.drop k).take (l.length - k)).toArray⟩ : Str) = _
    rw [List.take_of_length_le (by rw [List.length_drop]; exact Nat.le_refl _)]
  · rw [Nat.min_eq_right h, Nat.sub_self, List.take_zero, List.drop_of_length_le h]
theorem i_slS {ρ : En} {h : Ho} {Q : KD} {E : XD} {n : Nat} {l : List Nat} {j : Int} {k : Nat} (e : GetAt n ρ (.d (.str (S l)))) (hl : l.length ≤ 600) (hj : j = (k : Int)) (kk : Q (.d (.str (S (l.take k)))) h) : fSlS (fVar n) oNone (oSome (fC (.int j))) ρ h Q E := by
  subst hj
  refine i_var e ⟨by rw [S_len]; exact Nat.le_trans hl (by decide), ?_⟩
  rw [cutS_take]
  exact kk
theorem i_slSd {ρ : En} {h : Ho} {Q : KD} {E : XD} {n : Nat} {l : List Nat} {j : Int} {k : Nat} (e : GetAt n ρ (.d (.str (S l)))) (hl : l.length ≤ 600) (hj : j = (k : Int)) (kk : Q (.d (.str (S (l.drop k)))) h) : fSlS (fVar n) (oSome (fC (.int j))) oNone ρ h Q E := by
  subst hj
  refine i_var e ⟨by rw [S_len]; exact Nat.le_trans hl (by decide), ?_⟩
  rw [cutS_drop]
  exact kk
theorem take_minus (l : List Nat) : decide (l.take 1 = [45]) = decide (l.head? = some 45) := by
  cases l with
  | nil => rfl
  | cons c l =>
    show decide ([c] = [45]) = decide (some c = some 45)
    exact decide_eq_decide.2 ⟨fun e => by rw [List.head_eq_of_cons_eq e], fun e => by rw [Option.some.inj e]⟩
theorem bare_drop (l : List Nat) : (if l.head? = some 45 then l.drop 1 else l) = bare l := by
  unfold bare
  rw [List.drop_one]
def figs : Str := Str.ofString "0123456789"
theorem figs_mem : ∀ c, decide (c ∈ figs.cps.toList) = dig c := by
  have e : figs.cps.toList = [48, 49, 50, 51, 52, 53, 54, 55, 56, 57] := by decide +kernel
  intro c
  rw [e]
  unfold dig
  rw [← Bool.decide_and]
  refine decide_eq_decide.2 ?_
  simp only [List.mem_cons, List.not_mem_nil, or_false]
  omega
theorem bare_len (l : List Nat) : (bare l).length ≤ l.length := by
  unfold bare
  split
  · rw [List.length_tail]; omega
  · exact Nat.le_refl _
theorem spl_len (l : List Nat) : ∀ (k : Nat) (acc : List Nat), (TL.spl [47] k acc l).length ≤ l.length + 1 ∧ ∀ n ∈ TL.spl [47] k acc l, n.length ≤ acc.length + l.length := by
  induction l with
  | nil =>
    intro k acc
    rw [TL.spl_nil]
    refine ⟨by simp, fun n hn => ?_⟩
    simp only [List.mem_singleton] at hn
    subst hn
    simp
  | cons c r ih =>
    intro k acc
    cases k with
    | zero =>
      show (if TL.pre [47] (c :: r) = true then acc :: TL.spl [47] 0 [] r else TL.spl [47] 0 (acc ++ [c]) r).length ≤ _ ∧ ∀ n ∈ (if TL.pre [47] (c :: r) = true then acc :: TL.spl [47] 0 [] r else TL.spl [47] 0 (acc ++ [c]) r), _
      split
      · have := ih 0 []
        refine ⟨by rw [List.length_cons, List.length_cons]; omega, fun n hn => ?_⟩
        rw [List.length_cons]
        cases hn with
        | head => omega
        | tail _ hn =>
          have := this.2 n hn
          simp at this
          omega
      · have := ih 0 (acc ++ [c])
        refine ⟨by rw [List.length_cons]; omega, fun n hn => ?_⟩
        have := this.2 n hn
        rw [List.length_append, List.length_singleton] at this
        rw [List.length_cons]
        omega
    | succ k =>
      have := ih k acc
      refine ⟨by rw [List.length_cons]; exact Nat.le_succ_of_le this.1, fun n hn => ?_⟩
      have := this.2 n hn
      rw [List.length_cons]
      omega
theorem filt_lt (n : List Nat) : (((n.filter dig).length : Int) < n.length) ↔ ¬ n.all dig = true := by
  induction n with
  | nil => simp
  | cons c n ih =>
    rw [List.filter_cons, List.all_cons, List.length_cons]
    by_cases h : dig c = true
    · rw [if_pos h, h, Bool.true_and, List.length_cons, ← ih]
      omega
    · rw [if_neg h]
      have h2 : dig c = false := by simpa using h
      rw [h2, Bool.false_and]
      have := List.length_filter_le dig n
      constructor
      · intro _ z; cases z
      · intro _; omega
theorem dv_small {n : List Nat} (h : n.all dig = true) (hl : n.length ≤ 600) : dv n < 2 ^ 2400 := by
  have h1 := dv_lt n.length n rfl h
  have h2 : 10 ^ n.length ≤ 16 ^ n.length := Nat.pow_le_pow_left (by decide) _
  have h3 : (16 : Nat) ^ n.length = 2 ^ (4 * n.length) := by
    rw [Nat.pow_mul]
  have h4 : 2 ^ (4 * n.length) ≤ 2 ^ 2400 := Nat.pow_le_pow_right (by decide) (by omega)
  omega
def rdD (o : Option (Int × Int)) : PyData := match o with
  | some (a, b) => .tuple [.int a, .int b]
  | none => .none
end LW
set_option Elab.async false
set_option linter.all false
set_option maxRecDepth 100000
set_option maxHeartbeats 40000000
namespace LW
open PySem PySem.Spec PyProof.Rows L2 V2
local macro_rules
  | `(tactic| array_get_dec) => `(tactic| with_reducible first
    | refine i_seqg (fun _ _ => ?_)
    | refine i_asg2v (by repeat constructor) (by repeat constructor) (by repeat constructor) ?_
    | refine i_asgn ?_ (by with_unfolding_all exact Nat.le_of_ble_eq_true rfl)
    | refine i_set (by repeat constructor) ?_
    | refine i_par ?_ (by with_unfolding_all exact Nat.le_of_ble_eq_true rfl) (by with_unfolding_all exact Nat.le_of_ble_eq_true rfl)
    | refine i_pair (by repeat constructor) (by repeat constructor) ?_
    | refine i_par3 ?_ (by with_unfolding_all exact Nat.le_of_ble_eq_true rfl) (by with_unfolding_all exact Nat.le_of_ble_eq_true rfl) (by with_unfolding_all exact Nat.le_of_ble_eq_true rfl)
    | refine i_trip (by repeat constructor) (by repeat constructor) (by repeat constructor) ?_
    | refine i_ret ?_
    | refine i_if ?_
    | refine i_var (by repeat constructor) ?_
    | refine i_c ?_
    | refine i_cons ?_
    | refine i_nil ?_
    | refine i_bin ?_
    | refine i_ints0 ?_
    | refine i_ints ?_ ?_
    | refine i_add ?_
    | refine i_eqi ?_
    | refine i_nei ?_
    | refine i_eqsr ?_
    | refine i_eqs ?_
    | refine i_nesr ?_
    | refine i_nes ?_
    | refine i_un ?_
    | refine i_val ?_
    | refine i_isb ?_
    | refine i_isi ?_
    | refine i_isr ?_
    | refine i_and2 ?_
    | refine i_or2 ?_
    | refine i_not2 ?_
    | refine i_fif ?_
    | refine i_fand ?_
    | refine i_tup ?_
    | refine i_lst ?_
    | refine i_all (by repeat constructor) (by with_unfolding_all exact Nat.le_of_ble_eq_true rfl) ?_
    | refine i_ix (by assumption) (by with_unfolding_all exact rfl) ?_
    | refine i_ix (by with_unfolding_all exact rfl) (by with_unfolding_all exact rfl) ?_
    | refine i_call ?_
    | refine i_fn ?_
    | refine i_fnk ?_
    | refine i_pk1 ?_
    | refine i_pk2 ?_
    | refine i_pk3 ?_
    | refine i_pk4 ?_
    | refine i_abs ?_
    | refine i_toint ?_
    | refine i_gcd ?_
    | refine i_lcm3 ?_ ?_
    | refine i_chain ?_
    | refine i_max2 ?_
    | refine i_min2 ?_
    | refine i_isN ?_
    | refine i_notN ?_
    | refine i_len (by with_unfolding_all exact rfl) ?_
    | refine i_drop ?_
    | refine i_pop ?_
    | refine i_append ?_
    | refine i_sub ?_
    | refine i_raise ?_
    | refine i_one ?_
    | refine i_enum1 ?_
    | refine i_zip2 ?_
    | refine i_brk ?_
    | refine i_for ?_
    | refine i_range1 ?_
    | refine i_range2 ?_
    | refine i_isr2 ?_
    | refine i_next ?_
    | refine i_go (by assumption) ?_)

local macro_rules
  | `(tactic| decreasing_trivial_pre_omega) => `(tactic| (apply cmB; (repeat' (first | assumption | apply Bd.add | apply Bd.sub | apply Bd.mul | apply Bd.neg)); decide))

open SX (S S_tl S_inj S_len S_cat)
theorem i_cutg {ρ : En} {h : Ho} {nx : En → Ho → Prop} {rt : KD} {bk ct : En → Ho → Prop} {ex : Ex → En → Ho → Prop} {f g : WS} (S : En → Ho → Prop) (tail : ∀ ρ h, S ρ h → g ρ h ⟨nx, rt, bk, ct, ex⟩) (k : ∀ nx', (∀ ρ h, S ρ h → nx' ρ h) → f ρ h ⟨nx', rt, bk, ct, ex⟩) : sSeq f g ρ h ⟨nx, rt, bk, ct, ex⟩ := i_seq (k _ tail)
theorem atI_zero {α : Type} (x : α) (xs : List α) : L2.atI (x :: xs) 0 = some x := L2.atI_nat (xs := x :: xs) (j := 0) rfl
theorem items_names {ns : List (List Nat)} {h : Ho} : items h (.d (.list (strsD (ns.map S)))) = some (ns.map fun n => D.d (.str (S n))) := by
  show some ((strsD (ns.map S)).map D.d) = _
  unfold strsD
  rw [List.map_map, List.map_map]
  rfl
theorem wp_lread {l : List Nat} (hl : l.length ≤ 300) {h : Ho} {Q : KD} {E : XD} (k : Q (.d (rdD (rd l))) h) : M__law_read [.d (.str (S l))] h Q E := by
  have hsl : sizeLine = 2 ^ 24 := rfl
  have hbl := bare_len l
  rw [← lrd_eq] at k
  have sl := spl_len (bare l) 0 []
  have sn := spl_ne (bare l) 0 []
  refine i_mir rfl (by repeat constructor) (by repeat constructor) ?_
  unfold B__law_read
  refine i_cutg (fun ρ' h' => h' = h ∧ ρ' = [some (.d (.str (S l))), some (.d (.str (S (bare l)))), none, none, none, none, none]) ?tailA ?workA
  case workA =>
    intro nx tl
    repeat' array_get_dec
    refine i_slS (k := 1) (by repeat constructor) (by omega) rfl ?_
    repeat' array_get_dec
    rw [S_dec sm, take_minus]
    have hb := bare_drop l
    by_cases hm : l.head? = some 45
    · rw [if_pos hm] at hb
      refine i_ifT (decide_eq_true hm) ?_
      refine i_slSd (k := 1) (by repeat constructor) (by omega) rfl ?_
      rw [hb]
      repeat' array_get_dec
      exact tl _ _ ⟨rfl, rfl⟩
    · rw [if_neg hm] at hb
      refine i_ifF (decide_eq_false hm) ?_
      repeat' array_get_dec
      exact tl _ _ ⟨rfl, by rw [← hb]⟩
  case tailA =>
  rintro ρ h1 ⟨rfl, rfl⟩
  repeat' array_get_dec
  refine i_fM1c (by repeat constructor) ⟨by decide +kernel, by rw [S_len]; omega⟩ ?_
  rw [ss, SX.split_S (by simp) (by decide)]
  generalize TL.spl [47] 0 [] (bare l) = ns at k sl sn
  have ns2 : ∀ n ∈ ns, n.length ≤ 300 := fun n hn => by
    have := sl.2 n hn
    simp at this
    omega
  have eL : (List.map D.d (strsD (ns.map S))).length = ns.length := by unfold strsD; simp
  repeat' array_get_dec
  rw [eL]
  by_cases hn : 2 < ns.length
  · refine i_ifT (decide_eq_true (by omega)) ?_
    repeat' array_get_dec
    unfold lrd at k
    rw [if_pos hn] at k
    exact k
  refine i_ifF (decide_eq_false (by omega)) ?_
  repeat' array_get_dec
  refine i_iseq (by repeat constructor) items_names ?_
  refine for_ind (fun i ρ h' => h' = h1 ∧ (∃ z3 z4 : Option D, ρ = [some (.d (.str (S l))), some (.d (.str (S (bare l)))), some (.d (.list (strsD (ns.map S)))), z3, z4, none, none]) ∧ (ns.take i).all numB = true) ?_ ?_ ⟨rfl, ⟨_, _, rfl⟩, rfl⟩
  · rintro i x ρ h' G ex ⟨rfl, ⟨z3, z4, rfl⟩, hall⟩ hG
    rw [List.getElem?_map, Option.map_eq_some_iff] at ex
    obtain ⟨n, en, rfl⟩ := ex
    have hmem := List.mem_of_getElem? en
    have nl := ns2 n hmem
    have kf : numB n = false → Q (.d .none) h' := fun hf => by
      unfold lrd at k
      rw [if_neg hn, if_neg] at k
      · exact k
      · intro z
        have := List.all_eq_true.1 z n hmem
        rw [hf] at this
        cases this
    refine ⟨_, rfl, ?_⟩
    show (sIf _ _ _) [_, _, _, some (.d (.str (S n))), z4, none, none] _ _
    repeat' array_get_dec
    rw [S_dec se]
    by_cases h0 : n = []
    · refine i_ifT (decide_eq_true h0) ?_
      refine i_ifT rfl ?_
      repeat' array_get_dec
      exact kf (by rw [h0]; rfl)
    refine i_ifF (decide_eq_false h0) ?_
    repeat' array_get_dec
    refine i_lcv ?_
    show fVar 3 _ _ _ _
    refine i_var (by repeat constructor) ?_
    show _ ∧ lcGo _ _ _ _ _ _ _ (V2.signs (S n)) _
    refine lcv_ind (hb := h') (fun i acc => acc = ((n.take i).filter dig).map fun c => D.d (.str (S [c]))) (fun _ => trivial) ?_ ?_ rfl
    · rintro i z acc ez rfl
      have ez : ∃ c, z = .d (.str (S [c])) ∧ n[i]? = some c := by
        have : (n.map fun c => D.d (.str ⟨#[c]⟩))[i]? = some z := ez
        rw [List.getElem?_map, Option.map_eq_some_iff] at this
        obtain ⟨c, e, rfl⟩ := this
        exact ⟨c, rfl, e⟩
      obtain ⟨c, rfl, e1⟩ := ez
      refine ⟨_, dig c, rfl, fun P q => ?_, fun hb => ⟨.d (.str (S [c])), fun P q => ?_, ?_, ?_⟩, fun hb => ?_⟩
      · show tVal _ [_, _, _, _, some (.d (.str (S [c]))), _, _] _ _ _
        repeat' array_get_dec
        refine ⟨c, rfl, ?_⟩
        repeat' array_get_dec
        have := figs_mem c
        unfold figs at this
        rw [this]
        exact q
      · exact i_var (by repeat constructor) q
      · rw [List.length_map]
        have := List.length_filter_le dig (n.take i)
        have h3 : (n.take i).length ≤ n.length := by rw [List.length_take]; exact Nat.min_le_right _ _
        omega
      · rw [List.take_succ, e1, Option.toList_some, List.filter_append, List.filter_cons, if_pos hb, List.filter_nil, List.map_append]
        rfl
      · rw [List.take_succ, e1, Option.toList_some, List.filter_append, List.filter_cons, if_neg (by rw [hb]; decide), List.filter_nil, List.append_nil]
    rintro acc rfl
    have el : (V2.signs (S n)).length = n.length := by
      show (n.map fun c => D.d (.str ⟨#[c]⟩)).length = _
      rw [List.length_map]
    rw [el, List.take_length]
    refine ⟨(n.filter dig).map fun c => .str (S [c]), ?_, ?_⟩
    · generalize n.filter dig = m
      induction m with
      | nil => exact .nil
      | cons a m ih => exact .cons ih
    repeat' array_get_dec
    refine ⟨by rw [S_len]; omega, ?_⟩
    repeat' array_get_dec
    rw [List.length_map, List.length_map, S_len]
    by_cases h1 : n.all dig = true
    · refine i_ifF (decide_eq_false (fun z => (filt_lt n).1 z h1)) ?_
      obtain ⟨c, r, rfl⟩ := List.exists_cons_of_ne_nil h0
      repeat' array_get_dec
      refine ⟨0, c, rfl, by rw [S_len]; omega, atI_zero _ _, ?_⟩
      repeat' array_get_dec
      have e48 : decide ((⟨#[c]⟩ : Str) = Str.ofString "0") = decide (c = 48) := by
        have := S_dec (a := [c]) s0
        rw [show (⟨#[c]⟩ : Str) = S [c] from rfl, this]
        exact decide_eq_decide.2 ⟨fun e => List.head_eq_of_cons_eq e, fun e => by rw [e]⟩
      rw [e48]
      by_cases h2 : c = 48
      · refine i_ifT (decide_eq_true h2) ?_
        repeat' array_get_dec
        rw [S_dec s0]
        by_cases h3 : c :: r = [48]
        · refine i_ifF (by rw [decide_eq_true h3]; rfl) ?_
          repeat' array_get_dec
          refine ⟨trivial, hG _ _ ⟨rfl, ⟨_, _, rfl⟩, ?_⟩⟩
          rw [List.take_succ, en, List.all_append, hall, Bool.true_and]
          show (numB (c :: r) && true) = true
          rw [h3]
          rfl
        · refine i_ifT (by rw [decide_eq_false h3]; rfl) ?_
          repeat' array_get_dec
          refine kf ?_
          unfold numB
          rw [h1, decide_eq_false h3, h2]
          rfl
      · refine i_ifF (decide_eq_false h2) ?_
        refine i_ifF rfl ?_
        repeat' array_get_dec
        refine ⟨trivial, hG _ _ ⟨rfl, ⟨_, _, rfl⟩, ?_⟩⟩
        rw [List.take_succ, en, List.all_append, hall, Bool.true_and]
        show (numB (c :: r) && true) = true
        unfold numB
        have hh : ¬ (c :: r).head? = some 48 := fun e => h2 (Option.some.inj e)
        rw [h1, decide_eq_false hh, Bool.and_true]
        simp
    · have h1 : ¬ n.all dig = true := h1
      refine i_ifT (decide_eq_true ((filt_lt n).2 h1)) ?_
      refine i_ifT rfl ?_
      repeat' array_get_dec
      refine kf ?_
      unfold numB
      have : n.all dig = false := by simpa using h1
      rw [this, Bool.and_false, Bool.false_and]
  · rintro ρ h2 ⟨rfl, ⟨z3, z4, rfl⟩, hall⟩
    rw [List.length_map, List.take_length] at hall
    unfold lrd at k
    rw [if_neg hn, if_pos hall] at k
    have gD : ∀ j, dv (ns.getD j []) < 2 ^ 2400 := fun j => by
      rw [List.getD_eq_getElem?_getD]
      cases e : ns[j]? with
      | none => exact Nat.pow_pos (by decide)
      | some a =>
        have hm := List.mem_of_getElem? e
        show dv a < _
        exact dv_small (num_facts (List.all_eq_true.1 hall a hm)).2.1 (by have := ns2 a hm; omega)
    have hb : (if ns.length = 2 then dv (ns.getD 1 []) else 1) < 2 ^ 2400 := by
      split
      · exact gD 1
      · exact Nat.one_lt_two_pow (by decide)
    array_get_dec
    refine i_cutg (fun ρ' h' => h' = h2 ∧ ρ' = [some (.d (.str (S l))), some (.d (.str (S (bare l)))), some (.d (.list (strsD (ns.map S)))), z3, z4, some (.d (.int ((dv (ns.getD 0 []) : Nat) : Int))), some (.d (.int ((if ns.length = 2 then dv (ns.getD 1 []) else 1 : Nat) : Int)))]) ?tailB ?workB
    case workB =>
      intro nx tl
      clear k gD hb
      match ns, sn, hn, hall, ns2, tl with
      | [], sn, _, _, _, _ => exact absurd rfl sn
      | _ :: _ :: _ :: _, _, hn, _, _, _ => exact absurd (by simp) hn
      | [a], _, _, hall, ns2, tl =>
        have ha : numB a = true := List.all_eq_true.1 hall a (by simp)
        have la := ns2 a (by simp)
        repeat' array_get_dec
        refine i_intS (int_num ha (by omega)) (by rw [S_len]; omega) ?_
        repeat' array_get_dec
        refine i_ifF rfl ?_
        repeat' array_get_dec
        exact tl _ _ ⟨rfl, rfl⟩
      | [a, b], _, _, hall, ns2, tl =>
        have ha : numB a = true := List.all_eq_true.1 hall a (by simp)
        have hb : numB b = true := List.all_eq_true.1 hall b (by simp)
        have la := ns2 a (by simp)
        have lb := ns2 b (by simp)
        repeat' array_get_dec
        refine i_intS (int_num ha (by omega)) (by rw [S_len]; omega) ?_
        repeat' array_get_dec
        refine i_ifT rfl ?_
        repeat' array_get_dec
        refine i_intS (int_num hb (by omega)) (by rw [S_len]; omega) ?_
        repeat' array_get_dec
        exact tl _ _ ⟨rfl, rfl⟩
    case tailB =>
    have ht := gD 0
    clear gD
    rintro ρ h' ⟨rfl, rfl⟩
    generalize hbe : (if ns.length = 2 then dv (ns.getD 1 []) else 1) = b at *
    generalize dv (ns.getD 0 []) = t at *
    have k : Q (.d (rdD (if (ns.length = 2 ∧ b < 2) ∨ (t = 0 ∧ bare l ≠ l) ∨ Nat.gcd t b ≠ 1 then none else some (if bare l ≠ l then 0 - (t : Int) else t, (b : Int))))) h' := k
    repeat' array_get_dec
    rw [eL]
    by_cases hc : ns.length = 2 ∧ b < 2
    · rw [if_pos (Or.inl hc)] at k
      refine i_ifT (decide_eq_true (by omega)) ?_
      repeat' array_get_dec
      refine i_ifT (decide_eq_true (by omega)) ?_
      refine i_ifT rfl ?_
      repeat' array_get_dec
      exact k
    rcases Classical.em (ns.length = 2) with h2n | h2n
    · refine i_ifT (decide_eq_true (by omega)) ?_
      repeat' array_get_dec
      refine i_ifF (decide_eq_false (by omega)) ?_
      repeat' array_get_dec
      by_cases ht0 : t = 0
      · refine i_ifT (decide_eq_true (by omega)) ?_
        repeat' array_get_dec
        rw [S_dec rfl]
        by_cases hm : bare l = l
        · have hz : ¬ (t = 0 ∧ bare l ≠ l) := fun z => z.2 hm
          refine i_ifF (by rw [decide_eq_true hm]; rfl) ?_
          repeat' array_get_dec
          refine wp_common (n := 2400) (m := 2400) (by omega) (by omega) (by omega) ?_
          repeat' array_get_dec
          have eg : Nat.gcd (t : Int).natAbs (b : Int).natAbs = Nat.gcd t b := rfl
          rw [eg]
          by_cases hg : Nat.gcd t b = 1
          · rw [if_neg (fun z => by rcases z with z | z | z; exact hc z; exact hz z; exact z hg)] at k
            refine i_ifF (by rw [decide_eq_true (by omega)]; rfl) ?_
            repeat' array_get_dec
            rw [S_dec rfl]
            by_cases hm : bare l = l
            · rw [if_neg (fun z => z hm)] at k
              refine i_ifF (by rw [decide_eq_true hm]; rfl) ?_
              repeat' array_get_dec
              exact k
            · rw [if_pos hm] at k
              refine i_ifT (by rw [decide_eq_false hm]; rfl) ?_
              repeat' array_get_dec
              exact k
          · rw [if_pos (Or.inr (Or.inr hg))] at k
            refine i_ifT (by rw [decide_eq_false (by omega)]; rfl) ?_
            repeat' array_get_dec
            exact k
        · rw [if_pos (Or.inr (Or.inl ⟨ht0, hm⟩))] at k
          refine i_ifT (by rw [decide_eq_false hm]; rfl) ?_
          refine i_ifT rfl ?_
          repeat' array_get_dec
          exact k
      · have hz : ¬ (t = 0 ∧ bare l ≠ l) := fun z => ht0 z.1
        refine i_ifF (decide_eq_false (by omega)) ?_
        repeat' array_get_dec
        refine i_ifF rfl ?_
        repeat' array_get_dec
        refine wp_common (n := 2400) (m := 2400) (by omega) (by omega) (by omega) ?_
        repeat' array_get_dec
        have eg : Nat.gcd (t : Int).natAbs (b : Int).natAbs = Nat.gcd t b := rfl
        rw [eg]
        by_cases hg : Nat.gcd t b = 1
        · rw [if_neg (fun z => by rcases z with z | z | z; exact hc z; exact hz z; exact z hg)] at k
          refine i_ifF (by rw [decide_eq_true (by omega)]; rfl) ?_
          repeat' array_get_dec
          rw [S_dec rfl]
          by_cases hm : bare l = l
          · rw [if_neg (fun z => z hm)] at k
            refine i_ifF (by rw [decide_eq_true hm]; rfl) ?_
            repeat' array_get_dec
            exact k
          · rw [if_pos hm] at k
            refine i_ifT (by rw [decide_eq_false hm]; rfl) ?_
            repeat' array_get_dec
            exact k
        · rw [if_pos (Or.inr (Or.inr hg))] at k
          refine i_ifT (by rw [decide_eq_false (by omega)]; rfl) ?_
          repeat' array_get_dec
          exact k
    · refine i_ifF (decide_eq_false (by omega)) ?_
      repeat' array_get_dec
      refine i_ifF rfl ?_
      repeat' array_get_dec
      by_cases ht0 : t = 0
      · refine i_ifT (decide_eq_true (by omega)) ?_
        repeat' array_get_dec
        rw [S_dec rfl]
        by_cases hm : bare l = l
        · have hz : ¬ (t = 0 ∧ bare l ≠ l) := fun z => z.2 hm
          refine i_ifF (by rw [decide_eq_true hm]; rfl) ?_
          repeat' array_get_dec
          refine wp_common (n := 2400) (m := 2400) (by omega) (by omega) (by omega) ?_
          repeat' array_get_dec
          have eg : Nat.gcd (t : Int).natAbs (b : Int).natAbs = Nat.gcd t b := rfl
          rw [eg]
          by_cases hg : Nat.gcd t b = 1
          · rw [if_neg (fun z => by rcases z with z | z | z; exact hc z; exact hz z; exact z hg)] at k
            refine i_ifF (by rw [decide_eq_true (by omega)]; rfl) ?_
            repeat' array_get_dec
            rw [S_dec rfl]
            by_cases hm : bare l = l
            · rw [if_neg (fun z => z hm)] at k
              refine i_ifF (by rw [decide_eq_true hm]; rfl) ?_
              repeat' array_get_dec
              exact k
            · rw [if_pos hm] at k
              refine i_ifT (by rw [decide_eq_false hm]; rfl) ?_
              repeat' array_get_dec
              exact k
          · rw [if_pos (Or.inr (Or.inr hg))] at k
            refine i_ifT (by rw [decide_eq_false (by omega)]; rfl) ?_
            repeat' array_get_dec
            exact k
        · rw [if_pos (Or.inr (Or.inl ⟨ht0, hm⟩))] at k
          refine i_ifT (by rw [decide_eq_false hm]; rfl) ?_
          refine i_ifT rfl ?_
          repeat' array_get_dec
          exact k
      · have hz : ¬ (t = 0 ∧ bare l ≠ l) := fun z => ht0 z.1
        refine i_ifF (decide_eq_false (by omega)) ?_
        repeat' array_get_dec
        refine i_ifF rfl ?_
        repeat' array_get_dec
        refine wp_common (n := 2400) (m := 2400) (by omega) (by omega) (by omega) ?_
        repeat' array_get_dec
        have eg : Nat.gcd (t : Int).natAbs (b : Int).natAbs = Nat.gcd t b := rfl
        rw [eg]
        by_cases hg : Nat.gcd t b = 1
        · rw [if_neg (fun z => by rcases z with z | z | z; exact hc z; exact hz z; exact z hg)] at k
          refine i_ifF (by rw [decide_eq_true (by omega)]; rfl) ?_
          repeat' array_get_dec
          rw [S_dec rfl]
          by_cases hm : bare l = l
          · rw [if_neg (fun z => z hm)] at k
            refine i_ifF (by rw [decide_eq_true hm]; rfl) ?_
            repeat' array_get_dec
            exact k
          · rw [if_pos hm] at k
            refine i_ifT (by rw [decide_eq_false hm]; rfl) ?_
            repeat' array_get_dec
            exact k
        · rw [if_pos (Or.inr (Or.inr hg))] at k
          refine i_ifT (by rw [decide_eq_false (by omega)]; rfl) ?_
          repeat' array_get_dec
          exact k
end LW
set_option Elab.async false
set_option linter.all false
set_option maxRecDepth 100000
set_option maxHeartbeats 40000000
namespace LW
open PySem PySem.Spec PyProof.Rows L2 V2
local macro_rules
  | `(tactic| array_get_dec) => `(tactic| with_reducible first
    | refine i_seqg (fun _ _ => ?_)
    | refine i_asg2v (by repeat constructor) (by repeat constructor) (by repeat constructor) ?_
    | refine i_asgn ?_ (by with_unfolding_all exact Nat.le_of_ble_eq_true rfl)
    | refine i_set (by repeat constructor) ?_
    | refine i_par ?_ (by with_unfolding_all exact Nat.le_of_ble_eq_true rfl) (by with_unfolding_all exact Nat.le_of_ble_eq_true rfl)
    | refine i_pair (by repeat constructor) (by repeat constructor) ?_
    | refine i_par3 ?_ (by with_unfolding_all exact Nat.le_of_ble_eq_true rfl) (by with_unfolding_all exact Nat.le_of_ble_eq_true rfl) (by with_unfolding_all exact Nat.le_of_ble_eq_true rfl)
    | refine i_trip (by repeat constructor) (by repeat constructor) (by repeat constructor) ?_
    | refine i_ret ?_
    | refine i_if ?_
    | refine i_var (by repeat constructor) ?_
    | refine i_c ?_
    | refine i_cons ?_
    | refine i_nil ?_
    | refine i_bin ?_
    | refine i_ints0 ?_
    | refine i_ints ?_ ?_
    | refine i_add ?_
    | refine i_eqi ?_
    | refine i_nei ?_
    | refine i_eqsr ?_
    | refine i_eqs ?_
    | refine i_nesr ?_
    | refine i_nes ?_
    | refine i_un ?_
    | refine i_val ?_
    | refine i_isb ?_
    | refine i_isi ?_
    | refine i_isr ?_
    | refine i_and2 ?_
    | refine i_or2 ?_
    | refine i_not2 ?_
    | refine i_fif ?_
    | refine i_fand ?_
    | refine i_tup ?_
    | refine i_lst ?_
    | refine i_all (by repeat constructor) (by with_unfolding_all exact Nat.le_of_ble_eq_true rfl) ?_
    | refine i_ix (by assumption) (by with_unfolding_all exact rfl) ?_
    | refine i_ix (by with_unfolding_all exact rfl) (by with_unfolding_all exact rfl) ?_
    | refine i_call ?_
    | refine i_fn ?_
    | refine i_fnk ?_
    | refine i_pk1 ?_
    | refine i_pk2 ?_
    | refine i_pk3 ?_
    | refine i_pk4 ?_
    | refine i_abs ?_
    | refine i_toint ?_
    | refine i_gcd ?_
    | refine i_lcm3 ?_ ?_
    | refine i_chain ?_
    | refine i_max2 ?_
    | refine i_min2 ?_
    | refine i_isN ?_
    | refine i_notN ?_
    | refine i_len (by with_unfolding_all exact rfl) ?_
    | refine i_drop ?_
    | refine i_pop ?_
    | refine i_append ?_
    | refine i_sub ?_
    | refine i_raise ?_
    | refine i_one ?_
    | refine i_enum1 ?_
    | refine i_zip2 ?_
    | refine i_brk ?_
    | refine i_for ?_
    | refine i_range1 ?_
    | refine i_range2 ?_
    | refine i_isr2 ?_
    | refine i_next ?_
    | refine i_go (by assumption) ?_)

local macro_rules
  | `(tactic| decreasing_trivial_pre_omega) => `(tactic| (apply cmB; (repeat' (first | assumption | apply Bd.add | apply Bd.sub | apply Bd.mul | apply Bd.neg)); decide))

open SX (S S_tl S_inj S_len S_cat)
theorem i_lenSl {xs : List PyData} {h : Ho} {Q : KD} (k : rLen [.d (.list xs)] h Q) : rLenS [.d (.list xs)] h Q := k
theorem i_ixSl {xs : List PyData} {y : D} {h : Ho} {Q : KD} (k : rIx2 (.d (.list xs)) y h Q) : rIxS2 (.d (.list xs)) y h Q := k
theorem wp_of {xs : List PyData} {rest h : Ho} {Q : KD} {E : XD} (hn : xs ≠ []) (hb : xs.length < 2 ^ 100) (dh : Deal rest h) (k : ∀ x h', x ∈ xs → Deal rest h' → Q (.d x) h') : M__law_of [.loc 1, .d (.list xs)] h Q E := by
  refine i_mir rfl (by repeat constructor) (by repeat constructor) ?_
  unfold B__law_of
  repeat' array_get_dec
  refine i_lenSl ?_
  repeat' array_get_dec
  have hp : 0 < xs.length := List.length_pos_iff.2 hn
  rw [List.length_map]
  refine wp_any (by exact_mod_cast hp) (by exact_mod_cast hb) dh fun v h' v0 v1 dh' => ?_
  have e : L2.atI (xs.map D.d) v = some (.d (xs[v.toNat]'(by omega))) := by
    unfold L2.atI ixN
    rw [if_pos v0, if_pos (by rw [List.length_map]; exact v1)]
    simp only [Option.bind_some, List.getElem?_map]
    rw [List.getElem?_eq_getElem (by omega)]
    rfl
  refine i_ixSl ?_
  refine i_ix rfl e ?_
  exact k _ _ (List.getElem_mem _) dh'
theorem wp_ofS {l : List Nat} {rest h : Ho} {Q : KD} {E : XD} (hn : l ≠ []) (hb : l.length ≤ 1000) (dh : Deal rest h) (k : ∀ c h', c ∈ l → Deal rest h' → Q (.d (.str (S [c]))) h') : M__law_of [.loc 1, .d (.str (S l))] h Q E := by
  have hsl : sizeLine = 2 ^ 24 := rfl
  refine i_mir rfl (by repeat constructor) (by repeat constructor) ?_
  unfold B__law_of
  repeat' array_get_dec
  refine ⟨by rw [S_len]; omega, ?_⟩
  repeat' array_get_dec
  have hp : 0 < l.length := List.length_pos_iff.2 hn
  rw [S_len]
  refine wp_any (by exact_mod_cast hp) (by omega) dh fun v h' v0 v1 dh' => ?_
  have e : L2.atI l v = some (l[v.toNat]'(by omega)) := by
    unfold L2.atI ixN
    rw [if_pos v0, if_pos (by omega)]
    simp only [Option.bind_some]
    rw [List.getElem?_eq_getElem (by omega)]
  refine ⟨v, _, rfl, by rw [S_len]; omega, e, ?_⟩
  exact k _ _ (List.getElem_mem _) dh'
theorem wp_size {rest h : Ho} {Q : KD} {E : XD} (dh : Deal rest h) (k : ∀ v h', v.natAbs < 2 ^ 67 → Deal rest h' → Q (.d (.int v)) h') : M__law_size [.loc 1] h Q E := by
  refine i_mir rfl (by repeat constructor) (by repeat constructor) ?_
  unfold B__law_size
  repeat' array_get_dec
  refine wp_any (by decide) (by decide) dh fun v1 h1 a1 b1 dh => ?_
  repeat' array_get_dec
  refine wp_any (by decide) (by decide) dh fun v2 h2 a2 b2 dh => ?_
  repeat' array_get_dec
  · exact ⟨by decide, by decide, by decide⟩
  refine wp_any (by decide) (by decide) dh fun v3 h3 a3 b3 dh => ?_
  repeat' array_get_dec
  · exact ⟨by decide, by decide, by decide⟩
  · exact ⟨by decide, by decide, by decide⟩
  refine wp_any (by decide) (by decide) dh fun v4 h4 a4 b4 dh => ?_
  repeat' array_get_dec
  refine wp_of (by simp) (by simp) dh fun x h5 hx dh => ?_
  have hx : ∃ v : Int, x = .int v ∧ v.natAbs < 2 ^ 67 := by
    simp only [List.mem_cons, List.not_mem_nil, or_false] at hx
    have e6 : ((10 : Int) ^ (6 : Int).toNat) = 1000000 := by decide
    have e9 : ((10 : Int) ^ (9 : Int).toNat) = 1000000000 := by decide
    have e20 : ((10 : Int) ^ (20 : Int).toNat) = 100000000000000000000 := by decide
    rw [e6] at b3
    rw [e9] at b4
    rw [e20] at hx
    rcases hx with rfl | rfl | rfl | rfl | rfl | rfl | rfl | rfl | rfl
    all_goals exact ⟨_, rfl, by omega⟩
  obtain ⟨v, rfl, hv⟩ := hx
  repeat' array_get_dec
  refine wp_any (by decide) (by decide) dh fun v6 h6 a6 b6 dh => ?_
  repeat' array_get_dec
  refine i_ite (fun _ => ?_) (fun _ => ?_)
  · repeat' array_get_dec
    exact k _ _ (by omega) dh
  · repeat' array_get_dec
    exact k _ _ hv dh
/-! ### any values -/
def Th (p : PyData) : Prop := Sh 2 p ∧ (∀ a, p = .int a → a.natAbs < 2 ^ 80) ∧ (∀ a b, p = .tuple [.int a, .int b] → a.natAbs < 2 ^ 80 ∧ b.natAbs < 2 ^ 80)
def Cd (p : PyData) : Prop := Sh 3 p ∧ (∀ a b, p = .tuple [.int a, .int b] → a.natAbs < 2 ^ 160 ∧ b.natAbs < 2 ^ 160)
theorem Th.cd {p : PyData} (h : Th p) : Cd p := by
  refine ⟨⟨h.1.1, by have := h.1.2.1; omega, h.1.2.2.1, Nat.le_trans h.1.2.2.2 (by decide)⟩, fun a b e => ?_⟩
  have := h.2.2 a b e
  omega
theorem Th.int {a : Int} (h : a.natAbs < 2 ^ 80) : Th (.int a) := by
  have s := int_sh (i := a) (by omega)
  exact ⟨⟨s.1, by show 0 ≤ 2; decide, s.2.2.1, by show 0 ≤ 16; decide⟩, fun b e => by cases e; exact h, fun b c e => by cases e⟩
theorem cd_pair {p q : PyData} (hp : Th p) (hq : Th q) : Cd (.tuple [p, q]) := by
  refine ⟨⟨?_, ?_, ?_, ?_⟩, fun a b e => ?_⟩
  · simp only [PyData.showable, PyData.showableAll, Bool.and_true, hp.1.1, hq.1.1]
  · simp only [PyData.depth, PyData.depthAll]
    have := hp.1.2.1
    have := hq.1.2.1
    omega
  · simp only [PyData.leavesShort, PyData.leavesShortAll, Bool.and_true, hp.1.2.2.1, hq.1.2.2.1]
  · simp only [PyData.bulk, PyData.bulkAll]
    have := hp.1.2.2.2
    have := hq.1.2.2.2
    have : (4 : Nat) ^ 3 = 64 := by decide
    have : (4 : Nat) ^ 2 = 16 := by decide
    omega
  · injection e with e
    injection e with e1 e2
    injection e2 with e2 e3
    have := hp.2.1 a e1
    have := hq.2.1 b e2
    omega
theorem cd_ints {a b : Int} (ha : a.natAbs < 2 ^ 160) (hb : b.natAbs < 2 ^ 160) : Cd (.tuple [.int a, .int b]) := by
  have s := int_sh (i := a) (by omega)
  have t := int_sh (i := b) (by omega)
  refine ⟨⟨?_, by show 1 ≤ 3; decide, ?_, by show 2 ≤ 64; decide⟩, fun c d e => by cases e; exact ⟨ha, hb⟩⟩
  · simp only [PyData.showable, PyData.showableAll, Bool.and_true, Bool.and_eq_true]
    exact ⟨s.1, t.1⟩
  · simp only [PyData.leavesShort, PyData.leavesShortAll, Bool.and_true, Bool.and_eq_true]
    exact ⟨s.2.2.1, t.2.2.1⟩
theorem shown_forms (x y o : PyData) (hx : x.showable = true) (hy : y.showable = true) (ho : o.showable = true) : (PyData.list [x, o]).showable = true ∧ (PyData.tuple [x]).showable = true ∧ (PyData.tuple [x, y]).showable = true ∧ (PyData.tuple [.tuple [x, y], .tuple [x, y]]).showable = true ∧ (PyData.tuple [x, o, o]).showable = true := by
  simp only [PyData.showable, PyData.showableAll, hx, hy, ho, Bool.and_true, and_self]
theorem short_forms (x y o : PyData) (hx : PyData.leavesShort 1001 x = true) (hy : PyData.leavesShort 1001 y = true) (ho : PyData.leavesShort 1001 o = true) : PyData.leavesShort 1001 (PyData.list [x, o]) = true ∧ PyData.leavesShort 1001 (PyData.tuple [x]) = true ∧ PyData.leavesShort 1001 (PyData.tuple [x, y]) = true ∧ PyData.leavesShort 1001 (PyData.tuple [.tuple [x, y], .tuple [x, y]]) = true ∧ PyData.leavesShort 1001 (PyData.tuple [x, o, o]) = true := by
  simp only [PyData.leavesShort, PyData.leavesShortAll, hx, hy, ho, Bool.and_true, and_self]
theorem things_ok {v w : Int} (hv : v.natAbs < 2 ^ 67) (hw : w.natAbs < 2 ^ 69) : ∀ p ∈ [PyData.none, .bool true, .bool false, .int v, .str "", .str "3", .str "-7/2", .list [.int v, .int 1], .tuple [], .tuple [.int v], .tuple [.int v, .int w], .tuple [.tuple [.int v, .int w], .tuple [.int v, .int w]], .tuple [.int v, .int 1, .int 1]], Th p := by
  have sv := int_sh (i := v) (by omega)
  have sw := int_sh (i := w) (by omega)
  have s1 := int_sh (i := 1) (by decide)
  have lv := sv.2.2.1
  have lw := sw.2.2.1
  have l1 := s1.2.2.1
  have rv := sv.1
  have rw_ := sw.1
  have r1 := s1.1
  have ff := shown_forms _ _ _ rv rw_ r1
  have gg := short_forms _ _ _ lv lw l1
  intro p hp
  simp only [List.mem_cons, List.not_mem_nil, or_false] at hp
  rcases hp with rfl | rfl | rfl | rfl | rfl | rfl | rfl | rfl | rfl | rfl | rfl | rfl | rfl
  all_goals refine ⟨⟨?_, ?_, ?_, ?_⟩, fun a e => ?_, fun a b e => ?_⟩
  all_goals first
    | (cases e; done)
    | (cases e; omega)
    | (cases e; constructor <;> omega)
    | (show _ ≤ _; decide +kernel)
    | exact rv
    | exact lv
    | exact ff.1
    | exact ff.2.1
    | exact ff.2.2.1
    | exact ff.2.2.2.1
    | exact ff.2.2.2.2
    | exact gg.1
    | exact gg.2.1
    | exact gg.2.2.1
    | exact gg.2.2.2.1
    | exact gg.2.2.2.2
    | exact Nat.le_of_ble_eq_true rfl
    | decide +kernel
theorem wp_thing {rest h : Ho} {Q : KD} {E : XD} (dh : Deal rest h) (k : ∀ p h', Th p → Deal rest h' → Q (.d p) h') : M__law_thing [.loc 1] h Q E := by
  refine i_mir rfl (by repeat constructor) (by repeat constructor) ?_
  unfold B__law_thing
  repeat' array_get_dec
  refine wp_size dh fun v h1 hv dh => ?_
  repeat' array_get_dec
  refine wp_size dh fun w h2 hw dh => ?_
  repeat' array_get_dec
  refine wp_of (by simp) (by simp) dh fun x h3 hx dh => ?_
  exact k x h3 (things_ok (w := 1 + if w < 0 then -w else w) hv (by split <;> omega) x hx) dh
end LW
set_option Elab.async false
set_option linter.all false
set_option maxRecDepth 100000
set_option maxHeartbeats 40000000
namespace LW
open PySem PySem.Spec PyProof.Rows L2 V2
local macro_rules
  | `(tactic| array_get_dec) => `(tactic| with_reducible first
    | refine i_seqg (fun _ _ => ?_)
    | refine i_asg2v (by repeat constructor) (by repeat constructor) (by repeat constructor) ?_
    | refine i_asgn ?_ (by with_unfolding_all exact Nat.le_of_ble_eq_true rfl)
    | refine i_set (by repeat constructor) ?_
    | refine i_par ?_ (by with_unfolding_all exact Nat.le_of_ble_eq_true rfl) (by with_unfolding_all exact Nat.le_of_ble_eq_true rfl)
    | refine i_pair (by repeat constructor) (by repeat constructor) ?_
    | refine i_par3 ?_ (by with_unfolding_all exact Nat.le_of_ble_eq_true rfl) (by with_unfolding_all exact Nat.le_of_ble_eq_true rfl) (by with_unfolding_all exact Nat.le_of_ble_eq_true rfl)
    | refine i_trip (by repeat constructor) (by repeat constructor) (by repeat constructor) ?_
    | refine i_ret ?_
    | refine i_if ?_
    | refine i_var (by repeat constructor) ?_
    | refine i_c ?_
    | refine i_cons ?_
    | refine i_nil ?_
    | refine i_bin ?_
    | refine i_ints0 ?_
    | refine i_ints ?_ ?_
    | refine i_add ?_
    | refine i_eqi ?_
    | refine i_nei ?_
    | refine i_eqsr ?_
    | refine i_eqs ?_
    | refine i_nesr ?_
    | refine i_nes ?_
    | refine i_un ?_
    | refine i_val ?_
    | refine i_isb ?_
    | refine i_isi ?_
    | refine i_isr ?_
    | refine i_and2 ?_
    | refine i_or2 ?_
    | refine i_not2 ?_
    | refine i_fif ?_
    | refine i_fand ?_
    | refine i_tup ?_
    | refine i_lst ?_
    | refine i_all (by repeat constructor) (by with_unfolding_all exact Nat.le_of_ble_eq_true rfl) ?_
    | refine i_ix (by assumption) (by with_unfolding_all exact rfl) ?_
    | refine i_ix (by with_unfolding_all exact rfl) (by with_unfolding_all exact rfl) ?_
    | refine i_call ?_
    | refine i_fn ?_
    | refine i_fnk ?_
    | refine i_pk1 ?_
    | refine i_pk2 ?_
    | refine i_pk3 ?_
    | refine i_pk4 ?_
    | refine i_abs ?_
    | refine i_toint ?_
    | refine i_gcd ?_
    | refine i_lcm3 ?_ ?_
    | refine i_chain ?_
    | refine i_max2 ?_
    | refine i_min2 ?_
    | refine i_isN ?_
    | refine i_notN ?_
    | refine i_len (by with_unfolding_all exact rfl) ?_
    | refine i_drop ?_
    | refine i_pop ?_
    | refine i_append ?_
    | refine i_sub ?_
    | refine i_raise ?_
    | refine i_one ?_
    | refine i_enum1 ?_
    | refine i_zip2 ?_
    | refine i_brk ?_
    | refine i_for ?_
    | refine i_range1 ?_
    | refine i_range2 ?_
    | refine i_isr2 ?_
    | refine i_next ?_
    | refine i_go (by assumption) ?_)

local macro_rules
  | `(tactic| decreasing_trivial_pre_omega) => `(tactic| (apply cmB; (repeat' (first | assumption | apply Bd.add | apply Bd.sub | apply Bd.mul | apply Bd.neg)); decide))

theorem wp_candidate {rest h : Ho} {Q : KD} {E : XD} (dh : Deal rest h) (k : ∀ p h', Cd p → Deal rest h' → Q (.d p) h') : M__law_candidate [.loc 1] h Q E := by
  refine i_mir rfl (by repeat constructor) (by repeat constructor) ?_
  unfold B__law_candidate
  repeat' array_get_dec
  refine wp_size dh fun t h1 ht dh => ?_
  repeat' array_get_dec
  refine wp_size dh fun b h2 hb dh => ?_
  repeat' array_get_dec
  refine wp_of (by simp) (by simp) dh fun m h3 hm dh => ?_
  have hm' : ∃ m' : Int, m = .int m' ∧ m'.natAbs < 2 ^ 4 := by
    simp only [List.mem_cons, List.not_mem_nil, or_false] at hm
    rcases hm with rfl | rfl | rfl | rfl | rfl | rfl
    all_goals exact ⟨_, rfl, by decide⟩
  obtain ⟨m, rfl, hm2⟩ := hm'
  have cm : ∀ (x : Int) (n : Nat), x.natAbs < 2 ^ n → (x * m).natAbs < 2 ^ (n + 4) := fun x n hx => by
    rw [Int.natAbs_mul]
    exact mul_lt_pow hx hm2
  repeat' array_get_dec
  refine wp_any (by decide) (by decide) dh fun f h4 f0 f1 dh => ?_
  repeat' array_get_dec
  refine i_ite (fun _ => ?_) (fun _ => ?_)
  · repeat' array_get_dec
    refine wp_thing dh fun p h5 hp dh => ?_
    exact k _ _ hp.cd dh
  repeat' array_get_dec
  refine i_ite (fun _ => ?_) (fun _ => ?_)
  · repeat' array_get_dec
    refine wp_thing dh fun p h5 hp dh => ?_
    repeat' array_get_dec
    exact k _ _ (cd_pair hp (Th.int (by omega))) dh
  repeat' array_get_dec
  refine i_ite (fun _ => ?_) (fun _ => ?_)
  · repeat' array_get_dec
    refine wp_thing dh fun p h5 hp dh => ?_
    repeat' array_get_dec
    exact k _ _ (cd_pair (Th.int (by omega)) hp) dh
  repeat' array_get_dec
  refine i_ite (fun _ => ?_) (fun _ => ?_)
  · repeat' array_get_dec
    · exact cmulw (n := 200) (by decide) (by omega) (by omega) (by decide)
    · exact cmulw (n := 200) (by decide) (by omega) (by omega) (by decide)
    · have a := cm t 67 ht
      have b := cm b 67 hb
      exact k _ _ (cd_ints (by omega) (by omega)) dh
  repeat' array_get_dec
  have e : (1 + if b < 0 then -b else b) = ((1 + b.natAbs : Nat) : Int) := by split <;> omega
  rw [e]
  refine wp_low (n := 70) (m := 70) (by omega) (by omega) (by omega) (by decide) (by decide) ?_
  have sz : Sz 70 (mkRat t (1 + b.natAbs)) := .mk' (by omega) (by omega) (by omega)
  generalize mkRat t (1 + b.natAbs) = q at sz
  have hn := sz.1
  have hd := sz.2
  repeat' array_get_dec
  refine i_ite (fun _ => ?_) (fun _ => ?_)
  · repeat' array_get_dec
    · exact cmulw (n := 200) (by decide) (by omega) (by omega) (by decide)
    · exact cmulw (n := 200) (by decide) (by rw [nab]; omega) (by omega) (by decide)
    · have a := cm _ 70 hn
      have b := cm ((q.den : Nat) : Int) 70 (by rw [nab]; omega)
      exact k _ _ (cd_ints (by omega) (by omega)) dh
  · repeat' array_get_dec
    exact k _ _ (cd_ints (by omega) (by rw [nab]; omega)) dh
end LW
set_option Elab.async false
set_option linter.all false
set_option maxRecDepth 100000
set_option maxHeartbeats 40000000
namespace LW
open PySem PySem.Spec PyProof.Rows L2 V2
local macro_rules
  | `(tactic| array_get_dec) => `(tactic| with_reducible first
    | refine i_seqg (fun _ _ => ?_)
    | refine i_asg2v (by repeat constructor) (by repeat constructor) (by repeat constructor) ?_
    | refine i_asgn ?_ (by with_unfolding_all exact Nat.le_of_ble_eq_true rfl)
    | refine i_set (by repeat constructor) ?_
    | refine i_par ?_ (by with_unfolding_all exact Nat.le_of_ble_eq_true rfl) (by with_unfolding_all exact Nat.le_of_ble_eq_true rfl)
    | refine i_pair (by repeat constructor) (by repeat constructor) ?_
    | refine i_par3 ?_ (by with_unfolding_all exact Nat.le_of_ble_eq_true rfl) (by with_unfolding_all exact Nat.le_of_ble_eq_true rfl) (by with_unfolding_all exact Nat.le_of_ble_eq_true rfl)
    | refine i_trip (by repeat constructor) (by repeat constructor) (by repeat constructor) ?_
    | refine i_ret ?_
    | refine i_if ?_
    | refine i_var (by repeat constructor) ?_
    | refine i_c ?_
    | refine i_cons ?_
    | refine i_nil ?_
    | refine i_bin ?_
    | refine i_ints0 ?_
    | refine i_ints ?_ ?_
    | refine i_add ?_
    | refine i_eqi ?_
    | refine i_nei ?_
    | refine i_eqsr ?_
    | refine i_eqs ?_
    | refine i_nesr ?_
    | refine i_nes ?_
    | refine i_un ?_
    | refine i_val ?_
    | refine i_isb ?_
    | refine i_isi ?_
    | refine i_isr ?_
    | refine i_and2 ?_
    | refine i_or2 ?_
    | refine i_not2 ?_
    | refine i_fif ?_
    | refine i_fand ?_
    | refine i_tup ?_
    | refine i_lst ?_
    | refine i_all (by repeat constructor) (by with_unfolding_all exact Nat.le_of_ble_eq_true rfl) ?_
    | refine i_ix (by assumption) (by with_unfolding_all exact rfl) ?_
    | refine i_ix (by with_unfolding_all exact rfl) (by with_unfolding_all exact rfl) ?_
    | refine i_call ?_
    | refine i_fn ?_
    | refine i_fnk ?_
    | refine i_pk1 ?_
    | refine i_pk2 ?_
    | refine i_pk3 ?_
    | refine i_pk4 ?_
    | refine i_abs ?_
    | refine i_toint ?_
    | refine i_gcd ?_
    | refine i_lcm3 ?_ ?_
    | refine i_chain ?_
    | refine i_max2 ?_
    | refine i_min2 ?_
    | refine i_isN ?_
    | refine i_notN ?_
    | refine i_len (by with_unfolding_all exact rfl) ?_
    | refine i_drop ?_
    | refine i_pop ?_
    | refine i_append ?_
    | refine i_sub ?_
    | refine i_raise ?_
    | refine i_one ?_
    | refine i_enum1 ?_
    | refine i_zip2 ?_
    | refine i_brk ?_
    | refine i_for ?_
    | refine i_range1 ?_
    | refine i_range2 ?_
    | refine i_isr2 ?_
    | refine i_next ?_
    | refine i_go (by assumption) ?_)

local macro_rules
  | `(tactic| decreasing_trivial_pre_omega) => `(tactic| (apply cmB; (repeat' (first | assumption | apply Bd.add | apply Bd.sub | apply Bd.mul | apply Bd.neg)); decide))

theorem wp_lis_int {p : PyData} {h : Ho} {Q : KD} {E : XD} (k : Q (.d (.bool (pureInt p))) h) : M__law_is_int [.d p] h Q E := by
  rw [← pureInt_eq] at k
  refine i_mir rfl (by repeat constructor) (by repeat constructor) ?_
  unfold B__law_is_int
  repeat' array_get_dec
  refine i_isiD (by repeat constructor) (kit_int p) ?_
  repeat' array_get_dec
  refine i_ite (fun c => ?_) (fun c => ?_)
  · rw [c, Bool.true_and] at k
    exact ⟨isBool p, kit_bool p, k⟩
  · rw [c] at k
    exact k
theorem pure_ex {p : PyData} (c : pureInt p = true) : ∃ a, p = .int a := by
  cases p with
  | int a => exact ⟨a, rfl⟩
  | _ => cases c
theorem wp_wrong {p : PyData} {h : Ho} {Q : KD} {E : XD} (hp : Cd p) (k : Q (.d (fault p)) h) : M__law_wrong [.d p] h Q E := by
  refine i_mir rfl (by repeat constructor) (by repeat constructor) ?_
  unfold B__law_wrong
  repeat' array_get_dec
  refine i_isiD (by repeat constructor) (kit_tup p) ?_
  repeat' array_get_dec
  cases p with
  | tuple xs =>
    refine i_ifF rfl ?_
    repeat' array_get_dec
    match xs, k, hp with
    | [], k, _ =>
      refine i_ifT rfl ?_
      refine i_ifT rfl ?_
      repeat' array_get_dec
      exact k
    | [_], k, _ =>
      rw [fault_f rfl] at k
      refine i_ifT rfl ?_
      refine i_ifT rfl ?_
      repeat' array_get_dec
      exact k
    | x1 :: x2 :: x3 :: l, k, _ =>
      rw [fault_f rfl] at k
      have e : decide ((((List.map D.d (x1 :: x2 :: x3 :: l)).length : Nat) : Int) = 2) = false := decide_eq_false (by simp only [List.length_map, List.length_cons]; omega)
      refine i_ifT (by rw [e]; rfl) ?_
      refine i_ifT rfl ?_
      repeat' array_get_dec
      exact k
    | [x, y], k, hp =>
      refine i_ifF rfl ?_
      repeat' array_get_dec
      refine wp_lis_int ?_
      repeat' array_get_dec
      by_cases cx : pureInt x = true
      · refine i_ifF (by rw [cx]; rfl) ?_
        repeat' array_get_dec
        refine wp_lis_int ?_
        repeat' array_get_dec
        by_cases cy : pureInt y = true
        · refine i_ifF (by rw [cy]; rfl) ?_
          obtain ⟨a, rfl⟩ := pure_ex cx
          obtain ⟨b, rfl⟩ := pure_ex cy
          have hb := hp.2 a b rfl
          unfold fault at k
          simp only at k
          repeat' array_get_dec
          refine i_ite (fun c1 => ?_) (fun c1 => ?_)
          · have c1 : b < 1 := of_decide_eq_true c1
            rw [if_pos (by omega)] at k
            repeat' array_get_dec
            exact k
          · have c1 : ¬ b < 1 := of_decide_eq_false c1
            rw [if_neg (by omega)] at k
            repeat' array_get_dec
            refine wp_common (n := 160) (m := 160) hb.1 hb.2 (by omega) ?_
            repeat' array_get_dec
            have gp : 0 < Nat.gcd a.natAbs b.natAbs := Nat.gcd_pos_of_pos_right _ (by omega)
            by_cases c2 : Nat.gcd a.natAbs b.natAbs = 1
            · rw [if_pos c2] at k
              refine i_ifF (by rw [c2]; rfl) ?_
              repeat' array_get_dec
              exact k
            · rw [if_neg c2] at k
              refine i_ifT (decide_eq_true (by omega)) ?_
              repeat' array_get_dec
              exact k
        · have cy : pureInt y = false := by simpa using cy
          rw [fault_f (by show (pureInt x && pureInt y) = false; rw [cy, Bool.and_false])] at k
          refine i_ifT (by rw [cy]; rfl) ?_
          repeat' array_get_dec
          exact k
      · have cx : pureInt x = false := by simpa using cx
        rw [fault_f (by show (pureInt x && pureInt y) = false; rw [cx, Bool.false_and])] at k
        refine i_ifT (by rw [cx]; rfl) ?_
        refine i_ifT rfl ?_
        repeat' array_get_dec
        exact k
  | none => refine i_ifT rfl ?_; refine i_ifT rfl ?_; repeat' array_get_dec; exact k
  | bool _ => refine i_ifT rfl ?_; refine i_ifT rfl ?_; repeat' array_get_dec; exact k
  | int _ => refine i_ifT rfl ?_; refine i_ifT rfl ?_; repeat' array_get_dec; exact k
  | str _ => refine i_ifT rfl ?_; refine i_ifT rfl ?_; repeat' array_get_dec; exact k
  | list _ => refine i_ifT rfl ?_; refine i_ifT rfl ?_; repeat' array_get_dec; exact k
  | dict _ => refine i_ifT rfl ?_; refine i_ifT rfl ?_; repeat' array_get_dec; exact k
theorem fault_kinds (p : PyData) : fault p = .none ∨ fault p = .int 1 ∨ fault p = .int 0 ∨ fault p = .int (-1) := by
  unfold fault
  split
  · split
    · exact .inr (.inl rfl)
    · split
      · exact .inl rfl
      · exact .inr (.inr (.inl rfl))
  · exact .inr (.inr (.inr rfl))
/-! ### errors as values -/
theorem wp_need {p : PyData} {h : Ho} {Q : KD} {E : XD} (k1 : fault p = .none → Q (.d .none) h) (k2 : fault p ≠ .none → E ⟨"InvalidFraction", some ("at", .d (fault p))⟩ h) : M_need_fraction [.d p] h Q E := by
  refine i_mir rfl (by repeat constructor) (by repeat constructor) ?_
  unfold B_need_fraction
  repeat' array_get_dec
  refine wp_fault ?_
  repeat' array_get_dec
  by_cases c : fault p = .none
  · rw [c]
    refine i_ifF rfl ?_
    repeat' array_get_dec
    exact k1 c
  · have e : isNon (.d (fault p)) = false := by
      rcases fault_kinds p with e | e | e | e
      · exact absurd e c
      all_goals rw [e]; rfl
    refine i_ifT (by rw [e]; rfl) ?_
    repeat' array_get_dec
    exact k2 c
theorem wp_told {p : PyData} {h : Ho} {Q : KD} {E : XD} (k : Q (.d (fault p)) h) : M__law_told [.d p] h Q E := by
  refine i_mir rfl (by repeat constructor) (by repeat constructor) ?_
  unfold B__law_told
  repeat' array_get_dec
  refine i_try ?_
  repeat' array_get_dec
  refine wp_need (fun c => ?_) (fun c => ?_)
  · repeat' array_get_dec
    refine i_ifF rfl ?_
    repeat' array_get_dec
    rw [c] at k
    exact k
  · refine ⟨by show 2 < 3; decide, ?_⟩
    refine i_ret ?_
    refine i_fif ?_
    refine i_or2 ?_
    refine i_not2 ?_
    refine i_val ?_
    refine ⟨rfl, rfl, i_isb (i_ifF rfl ?_)⟩
    refine i_or2 ?_
    refine i_val ?_
    refine ⟨rfl, rfl, i_isb (i_ifF rfl ?_)⟩
    refine i_val ?_
    refine ⟨rfl, rfl, i_isb (i_ifF rfl ?_)⟩
    exact ⟨rfl, _, rfl, k⟩
theorem wp_fraction0 {p : Int} {h : Ho} {Q : KD} {E : XD} (k : E ⟨"InvalidSize", some ("word", .d (.str "bottom"))⟩ h) : M_fraction [.d (.int p), .d (.int 0)] h Q E := by
  refine i_mir rfl (by repeat constructor) (by repeat constructor) ?_
  unfold B_fraction
  repeat' array_get_dec
  refine i_ifT rfl ?_
  repeat' array_get_dec
  exact k
theorem wp_quotient {p q : Int} {h : Ho} {Q : KD} {E : XD} (hq : q.natAbs < 2 ^ 200) (k : Q (.d (if q = 0 then .str "bottom" else fr (qt p q))) h) : M__law_quotient [.d (.int p), .d (.int q)] h Q E := by
  refine i_mir rfl (by repeat constructor) (by repeat constructor) ?_
  unfold B__law_quotient
  refine i_try ?_
  repeat' array_get_dec
  by_cases c : q = 0
  · subst c
    rw [if_pos rfl] at k
    refine wp_fraction0 ?_
    refine ⟨by show 2 < 3; decide, ?_⟩
    refine i_ret ?_
    exact ⟨rfl, _, rfl, k⟩
  · rw [if_neg c] at k
    exact wp_fractionI (n := 200) c hq (by decide) (by decide) k
theorem wp_whole {p : Int} {h : Ho} {Q : KD} {E : XD} (k : Q (.d (.tuple [.int p, .int 1])) h) : M_whole [.d (.int p)] h Q E := by
  refine i_mir rfl (by repeat constructor) (by repeat constructor) ?_
  unfold B_whole
  repeat' array_get_dec
  exact k
open SX (S S_tl S_inj S_len S_cat)
/-! ### texts of fractions -/
def cdx (i : Int) : List Nat := (Str.ofString (toString i)).cps.toList
theorem cdx_S (i : Int) : Str.ofString (toString i) = S (cdx i) := (S_tl _).symm
theorem cdx_len {i : Int} {n : Nat} (h0 : 0 < n) (h : i.natAbs < 2 ^ n) : (cdx i).length ≤ n + 1 := by
  have := shown_int_len h0 h
  have e : (PyData.int i).shown = S (cdx i) := cdx_S i
  rw [e, S_len] at this
  exact this
def ftx (q : Rat) : List Nat := if q.den = 1 then cdx q.num else cdx q.num ++ 47 :: cdx ((q.den : Nat) : Int)
theorem ftx_len {q : Rat} {n : Nat} (h0 : 0 < n) (s : Sz n q) : (ftx q).length ≤ 2 * n + 3 := by
  have a := cdx_len h0 s.1
  have b := cdx_len (i := ((q.den : Nat) : Int)) h0 (by rw [nab]; exact s.2)
  unfold ftx
  split
  · omega
  · rw [List.length_append, List.length_cons]
    omega
theorem cat_slash (a b : List Nat) : (S a ++ Str.ofString "/") ++ S b = S (a ++ 47 :: b) := by
  rw [ss, S_cat, S_cat, List.append_assoc]
  rfl
section
variable {q : Rat} {h : Ho} {Q : KD} {E : XD} (s : Sz 200 q) (k : Q (.d (.str (S (ftx q)))) h)
include s k
theorem wp_ltext : M__law_text [.d (fr q)] h Q E := by
  have hsl : sizeLine = 2 ^ 24 := rfl
  have l1 := log2_lt (by decide : 0 < 200) s.1
  have l2 := log2_lt (by decide : 0 < 200) s.2
  have a := cdx_len (by decide) s.1
  have b := cdx_len (i := ((q.den : Nat) : Int)) (by decide : 0 < 200) (by rw [nab]; exact s.2)
  unfold ftx at k
  refine i_mir rfl (by repeat constructor) (by repeat constructor) ?_
  unfold B__law_text
  repeat' array_get_dec
  by_cases c : q.den = 1
  · rw [if_pos c] at k
    refine i_ifT (decide_eq_true (by omega)) ?_
    repeat' array_get_dec
    refine ⟨by omega, ?_⟩
    rw [cdx_S]
    exact k
  · rw [if_neg c] at k
    refine i_ifF (decide_eq_false (by omega)) ?_
    repeat' array_get_dec
    refine ⟨by omega, ?_⟩
    repeat' array_get_dec
    rw [cdx_S]
    refine ⟨by rw [S_len, ss, S_len, hsl]; simp; omega, ?_⟩
    repeat' array_get_dec
    refine ⟨by rw [nab]; omega, ?_⟩
    repeat' array_get_dec
    rw [cdx_S]
    refine ⟨by rw [ss, S_cat, S_len, S_len, hsl]; simp; omega, ?_⟩
    rw [cat_slash]
    exact k
theorem wp_ftext : M_fraction_text [.d (fr q)] h Q E := by
  have hsl : sizeLine = 2 ^ 24 := rfl
  have l1 := log2_lt (by decide : 0 < 200) s.1
  have l2 := log2_lt (by decide : 0 < 200) s.2
  have a := cdx_len (by decide) s.1
  have b := cdx_len (i := ((q.den : Nat) : Int)) (by decide : 0 < 200) (by rw [nab]; exact s.2)
  unfold ftx at k
  refine i_mir rfl (by repeat constructor) (by repeat constructor) ?_
  unfold B_fraction_text
  repeat' array_get_dec
  by_cases c : q.den = 1
  · rw [if_pos c] at k
    refine i_ifT (decide_eq_true (by omega)) ?_
    repeat' array_get_dec
    refine ⟨by omega, ?_⟩
    rw [cdx_S]
    exact k
  · rw [if_neg c] at k
    refine i_ifF (decide_eq_false (by omega)) ?_
    repeat' array_get_dec
    unfold fJoin fJs fFmt
    repeat' array_get_dec
    refine ⟨by omega, ?_⟩
    rw [cdx_S]
    have e0 : (Str.empty ++ S (cdx q.num) : Str) = S (cdx q.num) := S_cat [] _
    dsimp only
    rw [e0]
    refine ⟨by rw [S_len]; omega, ?_⟩
    unfold fJs
    repeat' array_get_dec
    dsimp only
    refine ⟨by rw [ss, S_cat, S_len, hsl]; simp; omega, ?_⟩
    unfold fJs
    repeat' array_get_dec
    refine ⟨by rw [nab]; omega, ?_⟩
    dsimp only
    rw [cdx_S, cat_slash]
    refine ⟨by rw [S_len, hsl]; simp; omega, ?_⟩
    unfold fJs
    exact k
end
end LW
set_option Elab.async false
set_option linter.all false
set_option maxRecDepth 100000
set_option maxHeartbeats 40000000
namespace LW
open PySem PySem.Spec PyProof.Rows L2 V2
local macro_rules
  | `(tactic| array_get_dec) => `(tactic| with_reducible first
    | refine i_seqg (fun _ _ => ?_)
    | refine i_asg2v (by repeat constructor) (by repeat constructor) (by repeat constructor) ?_
    | refine i_asgn ?_ (by with_unfolding_all exact Nat.le_of_ble_eq_true rfl)
    | refine i_set (by repeat constructor) ?_
    | refine i_par ?_ (by with_unfolding_all exact Nat.le_of_ble_eq_true rfl) (by with_unfolding_all exact Nat.le_of_ble_eq_true rfl)
    | refine i_pair (by repeat constructor) (by repeat constructor) ?_
    | refine i_par3 ?_ (by with_unfolding_all exact Nat.le_of_ble_eq_true rfl) (by with_unfolding_all exact Nat.le_of_ble_eq_true rfl) (by with_unfolding_all exact Nat.le_of_ble_eq_true rfl)
    | refine i_trip (by repeat constructor) (by repeat constructor) (by repeat constructor) ?_
    | refine i_ret ?_
    | refine i_if ?_
    | refine i_var (by repeat constructor) ?_
    | refine i_c ?_
    | refine i_cons ?_
    | refine i_nil ?_
    | refine i_bin ?_
    | refine i_ints0 ?_
    | refine i_ints ?_ ?_
    | refine i_add ?_
    | refine i_eqi ?_
    | refine i_nei ?_
    | refine i_eqsr ?_
    | refine i_eqs ?_
    | refine i_nesr ?_
    | refine i_nes ?_
    | refine i_un ?_
    | refine i_val ?_
    | refine i_isb ?_
    | refine i_isi ?_
    | refine i_isr ?_
    | refine i_and2 ?_
    | refine i_or2 ?_
    | refine i_not2 ?_
    | refine i_fif ?_
    | refine i_fand ?_
    | refine i_tup ?_
    | refine i_lst ?_
    | refine i_all (by repeat constructor) (by with_unfolding_all exact Nat.le_of_ble_eq_true rfl) ?_
    | refine i_ix (by assumption) (by with_unfolding_all exact rfl) ?_
    | refine i_ix (by with_unfolding_all exact rfl) (by with_unfolding_all exact rfl) ?_
    | refine i_call ?_
    | refine i_fn ?_
    | refine i_fnk ?_
    | refine i_pk1 ?_
    | refine i_pk2 ?_
    | refine i_pk3 ?_
    | refine i_pk4 ?_
    | refine i_abs ?_
    | refine i_toint ?_
    | refine i_gcd ?_
    | refine i_lcm3 ?_ ?_
    | refine i_chain ?_
    | refine i_max2 ?_
    | refine i_min2 ?_
    | refine i_isN ?_
    | refine i_notN ?_
    | refine i_len (by with_unfolding_all exact rfl) ?_
    | refine i_drop ?_
    | refine i_pop ?_
    | refine i_append ?_
    | refine i_sub ?_
    | refine i_raise ?_
    | refine i_one ?_
    | refine i_enum1 ?_
    | refine i_zip2 ?_
    | refine i_brk ?_
    | refine i_for ?_
    | refine i_range1 ?_
    | refine i_range2 ?_
    | refine i_isr2 ?_
    | refine i_next ?_
    | refine i_go (by assumption) ?_)

local macro_rules
  | `(tactic| decreasing_trivial_pre_omega) => `(tactic| (apply cmB; (repeat' (first | assumption | apply Bd.add | apply Bd.sub | apply Bd.mul | apply Bd.neg)); decide))

open SX (S S_tl S_inj S_len S_cat)
theorem i_slV {ρ : En} {h : Ho} {Q : KD} {E : XD} {n m : Nat} {l : List Nat} {k : Nat} (e : GetAt n ρ (.d (.str (S l)))) (hl : l.length ≤ 600) (hj : GetAt m ρ (.d (.int (k : Int)))) (kk : Q (.d (.str (S (l.take k)))) h) : fSlS (fVar n) oNone (oSome (fVar m)) ρ h Q E := by
  refine i_var e ?_
  unfold oSome oNone
  refine i_var hj ?_
  refine ⟨by rw [S_len]; exact Nat.le_trans hl (by decide), ?_⟩
  rw [cutS_take]
  exact kk
theorem i_slVd {ρ : En} {h : Ho} {Q : KD} {E : XD} {n m : Nat} {l : List Nat} {k : Nat} (e : GetAt n ρ (.d (.str (S l)))) (hl : l.length ≤ 600) (hj : GetAt m ρ (.d (.int (k : Int)))) (kk : Q (.d (.str (S (l.drop k)))) h) : fSlS (fVar n) (oSome (fVar m)) oNone ρ h Q E := by
  refine i_var e ?_
  unfold oSome oNone
  refine i_var hj ?_
  refine ⟨by rw [S_len]; exact Nat.le_trans hl (by decide), ?_⟩
  rw [cutS_drop]
  exact kk
theorem i_slVd1 {ρ : En} {h : Ho} {Q : KD} {E : XD} {n m : Nat} {l : List Nat} {k : Nat} (e : GetAt n ρ (.d (.str (S l)))) (hl : l.length ≤ 600) (hj : GetAt m ρ (.d (.int (k : Int)))) (kk : Q (.d (.str (S (l.drop (k + 1))))) h) : fSlS (fVar n) (oSome (fBin rAdd2 (fVar m) (fC (.int 1)))) oNone ρ h Q E := by
  refine i_var e ?_
  unfold oSome oNone
  refine i_bin (i_var hj (i_c ?_))
  refine ⟨by rw [S_len]; exact Nat.le_trans hl (by decide), ?_⟩
  have e1 : ((k : Int) + 1) = ((k + 1 : Nat) : Int) := by omega
  rw [e1, cutS_drop]
  exact kk
theorem wp_bent {l : List Nat} {rest h : Ho} {Q : KD} {E : XD} (hl : l.length ≤ 500) (dh : Deal rest h) (k : ∀ l' h', l'.length ≤ l.length + 1 → Deal rest h' → Q (.d (.str (S l'))) h') : M__law_bent [.loc 1, .d (.str (S l))] h Q E := by
  have hsl : sizeLine = 2 ^ 24 := rfl
  refine i_mir rfl (by repeat constructor) (by repeat constructor) ?_
  unfold B__law_bent
  repeat' array_get_dec
  refine ⟨by rw [S_len]; omega, ?_⟩
  repeat' array_get_dec
  rw [S_len]
  refine wp_any (by omega) (by omega) dh fun v h1 v0 v1 dh => ?_
  repeat' array_get_dec
  have e0 : (Str.ofString "0123456789/-+. a") = S [48, 49, 50, 51, 52, 53, 54, 55, 56, 57, 47, 45, 43, 46, 32, 97] := by decide +kernel
  rw [e0]
  refine wp_ofS (by simp) (by simp) dh fun c h2 hc dh => ?_
  repeat' array_get_dec
  refine wp_any (by decide) (by decide) dh fun f h3 f0 f1 dh => ?_
  repeat' array_get_dec
  obtain ⟨n, rfl⟩ : ∃ n : Nat, v = n := ⟨v.toNat, by omega⟩
  refine i_slV (by repeat constructor) (by omega) (by repeat constructor) ?_
  have lt : (l.take n).length ≤ n := by rw [List.length_take]; omega
  have ld : (l.drop n).length = l.length - n := List.length_drop
  have ld1 : (l.drop (n + 1)).length = l.length - (n + 1) := List.length_drop
  repeat' array_get_dec
  have fin : ∀ m : List Nat, m.length ≤ 1 → (f = 1 → Q (.d (.str (S (l.take n ++ m ++ l.drop n)))) h3) ∧ Q (.d (.str (S (l.take n ++ m ++ l.drop (n + 1))))) h3 := fun m hm => by
    refine ⟨fun _ => k _ _ ?_ dh, k _ _ ?_ dh⟩
    · simp only [List.length_append]; omega
    · simp only [List.length_append]; omega
  refine i_ite (fun c1 => ?_) (fun c1 => ?_)
  · repeat' array_get_dec
    refine ⟨by rw [S_len, S_len]; simp only [List.length_singleton]; omega, ?_⟩
    rw [S_cat]
    repeat' array_get_dec
    refine i_ite (fun c2 => ?_) (fun c2 => ?_)
    · refine i_slVd (by repeat constructor) (by omega) (by repeat constructor) ?_
      refine ⟨by rw [S_len, S_len]; simp only [List.length_append, List.length_singleton]; omega, ?_⟩
      rw [S_cat]
      exact (fin [c] (Nat.le_refl _)).1 (of_decide_eq_true c2)
    · refine i_slVd1 (by repeat constructor) (by omega) (by repeat constructor) ?_
      refine ⟨by rw [S_len, S_len]; simp only [List.length_append, List.length_singleton]; omega, ?_⟩
      rw [S_cat]
      exact (fin [c] (Nat.le_refl _)).2
  · repeat' array_get_dec
    rw [se]
    refine ⟨by rw [S_len, S_len]; simp only [List.length_nil]; omega, ?_⟩
    rw [S_cat]
    repeat' array_get_dec
    refine i_ite (fun c2 => ?_) (fun c2 => ?_)
    · refine i_slVd (by repeat constructor) (by omega) (by repeat constructor) ?_
      refine ⟨by rw [S_len, S_len]; simp only [List.length_append, List.length_nil]; omega, ?_⟩
      rw [S_cat]
      exact (fin [] (Nat.zero_le _)).1 (of_decide_eq_true c2)
    · refine i_slVd1 (by repeat constructor) (by omega) (by repeat constructor) ?_
      refine ⟨by rw [S_len, S_len]; simp only [List.length_append, List.length_nil]; omega, ?_⟩
      rw [S_cat]
      exact (fin [] (Nat.zero_le _)).2
theorem wp_heard {l : List Nat} {h : Ho} {Q : KD} {E : XD} (hl : l.length ≤ 600) (k : Q (.d (match rd l with | none => .str "no0" | some ab => .tuple [.int ab.1, .int ab.2])) h) : M__law_heard [.d (.str (S l))] h Q E := by
  refine i_mir rfl (by repeat constructor) (by repeat constructor) ?_
  unfold B__law_heard
  refine i_try ?_
  repeat' array_get_dec
  refine wp_read hl (fun a b e => ?_) (fun e => ?_)
  · rw [e] at k
    exact k
  · rw [e] at k
    refine ⟨by show 1 < 2; decide, ?_⟩
    refine i_ret ?_
    refine i_bin ?_
    refine i_c ?_
    refine i_call ?_
    refine i_cons ?_
    refine ⟨rfl, _, rfl, ?_⟩
    refine i_nil ?_
    refine ⟨by decide, ?_⟩
    have e : (Str.ofString "no" ++ Str.ofString (toString (0 : Int)) : Str) = Str.ofString "no0" := by decide +kernel
    refine ⟨by decide +kernel, ?_⟩
    rw [e]
    exact k
theorem kit_strN {p : PyData} (hp : ∀ z, p ≠ .str z) : kitB (tyName p) "str" = some false := by
  cases p with
  | str z => exact absurd rfl (hp z)
  | none => rfl
  | bool _ => rfl
  | int _ => rfl
  | tuple _ => rfl
  | list _ => rfl
  | dict _ => rfl
theorem wp_heardN {p : PyData} (hp : ∀ z, p ≠ .str z) {h : Ho} {Q : KD} {E : XD} (k : Q (.d (.str "no-1")) h) : M__law_heard [.d p] h Q E := by
  refine i_mir rfl (by repeat constructor) (by repeat constructor) ?_
  unfold B__law_heard
  refine i_try ?_
  repeat' array_get_dec
  refine i_mir rfl (by repeat constructor) (by repeat constructor) ?_
  unfold B_read_fraction
  repeat' array_get_dec
  refine i_isiD (by repeat constructor) (kit_strN hp) ?_
  repeat' array_get_dec
  refine i_ifT rfl ?_
  repeat' array_get_dec
  refine ⟨by show 1 < 2; decide, ?_⟩
  refine i_ret ?_
  refine i_bin ?_
  refine i_c ?_
  refine i_call ?_
  refine i_cons ?_
  refine ⟨rfl, _, rfl, ?_⟩
  refine i_nil ?_
  refine ⟨by decide, ?_⟩
  have e : (Str.ofString "no" ++ Str.ofString (toString (-1 : Int)) : Str) = Str.ofString "no-1" := by decide +kernel
  refine ⟨by decide +kernel, ?_⟩
  rw [e]
  exact k
end LW
set_option Elab.async false
set_option linter.all false
set_option maxRecDepth 100000
set_option maxHeartbeats 40000000
namespace LW
open PySem PySem.Spec PyProof.Rows L2 V2
local macro_rules
  | `(tactic| array_get_dec) => `(tactic| with_reducible first
    | refine i_seqg (fun _ _ => ?_)
    | refine i_asg2v (by repeat constructor) (by repeat constructor) (by repeat constructor) ?_
    | refine i_asgn ?_ (by with_unfolding_all exact Nat.le_of_ble_eq_true rfl)
    | refine i_set (by repeat constructor) ?_
    | refine i_par ?_ (by with_unfolding_all exact Nat.le_of_ble_eq_true rfl) (by with_unfolding_all exact Nat.le_of_ble_eq_true rfl)
    | refine i_pair (by repeat constructor) (by repeat constructor) ?_
    | refine i_par3 ?_ (by with_unfolding_all exact Nat.le_of_ble_eq_true rfl) (by with_unfolding_all exact Nat.le_of_ble_eq_true rfl) (by with_unfolding_all exact Nat.le_of_ble_eq_true rfl)
    | refine i_trip (by repeat constructor) (by repeat constructor) (by repeat constructor) ?_
    | refine i_ret ?_
    | refine i_if ?_
    | refine i_var (by repeat constructor) ?_
    | refine i_c ?_
    | refine i_cons ?_
    | refine i_nil ?_
    | refine i_bin ?_
    | refine i_ints0 ?_
    | refine i_ints ?_ ?_
    | refine i_add ?_
    | refine i_eqi ?_
    | refine i_nei ?_
    | refine i_eqsr ?_
    | refine i_eqs ?_
    | refine i_nesr ?_
    | refine i_nes ?_
    | refine i_un ?_
    | refine i_val ?_
    | refine i_isb ?_
    | refine i_isi ?_
    | refine i_isr ?_
    | refine i_and2 ?_
    | refine i_or2 ?_
    | refine i_not2 ?_
    | refine i_fif ?_
    | refine i_fand ?_
    | refine i_tup ?_
    | refine i_lst ?_
    | refine i_all (by repeat constructor) (by with_unfolding_all exact Nat.le_of_ble_eq_true rfl) ?_
    | refine i_ix (by assumption) (by with_unfolding_all exact rfl) ?_
    | refine i_ix (by with_unfolding_all exact rfl) (by with_unfolding_all exact rfl) ?_
    | refine i_call ?_
    | refine i_fn ?_
    | refine i_fnk ?_
    | refine i_pk1 ?_
    | refine i_pk2 ?_
    | refine i_pk3 ?_
    | refine i_pk4 ?_
    | refine i_abs ?_
    | refine i_toint ?_
    | refine i_gcd ?_
    | refine i_lcm3 ?_ ?_
    | refine i_chain ?_
    | refine i_max2 ?_
    | refine i_min2 ?_
    | refine i_isN ?_
    | refine i_notN ?_
    | refine i_len (by with_unfolding_all exact rfl) ?_
    | refine i_drop ?_
    | refine i_pop ?_
    | refine i_append ?_
    | refine i_sub ?_
    | refine i_raise ?_
    | refine i_one ?_
    | refine i_enum1 ?_
    | refine i_zip2 ?_
    | refine i_brk ?_
    | refine i_for ?_
    | refine i_range1 ?_
    | refine i_range2 ?_
    | refine i_isr2 ?_
    | refine i_next ?_
    | refine i_go (by assumption) ?_)

local macro_rules
  | `(tactic| decreasing_trivial_pre_omega) => `(tactic| (apply cmB; (repeat' (first | assumption | apply Bd.add | apply Bd.sub | apply Bd.mul | apply Bd.neg)); decide))

open SX (S S_tl S_inj S_len S_cat)
/-! ### bounds, and data that is shown -/
theorem dv_bd {n : List Nat} {k : Nat} (h : n.all dig = true) (hl : n.length ≤ k) : dv n < 2 ^ (4 * k) := by
  have h1 := dv_lt n.length n rfl h
  have h2 : 10 ^ n.length ≤ 16 ^ n.length := Nat.pow_le_pow_left (by decide) _
  have h3 : (16 : Nat) ^ n.length = 2 ^ (4 * n.length) := by
    rw [Nat.pow_mul]
  have h4 : 2 ^ (4 * n.length) ≤ 2 ^ (4 * k) := Nat.pow_le_pow_right (by decide) (by omega)
  omega
theorem whole_num {l : List Nat} (h : wholeB l = true) : numB (bare l) = true := (whole_iff.1 h).1
theorem val_bd {l : List Nat} {k : Nat} (h : wholeB l = true) (hl : l.length ≤ k) : (val l).natAbs < 2 ^ (4 * k) := by
  rw [val_abs]
  exact dv_bd (num_facts (whole_num h)).2.1 (Nat.le_trans (bare_len l) hl)
theorem rd_bd {l : List Nat} {a b : Int} {k : Nat} (h : rd l = some (a, b)) (hk : 0 < k) (hl : l.length ≤ k) : a.natAbs < 2 ^ (4 * k) ∧ b.natAbs < 2 ^ (4 * k) := by
  have p1 : (1 : Nat) < 2 ^ (4 * k) := Nat.one_lt_two_pow (by omega)
  unfold rd at h
  split at h
  · split at h
    · rename_i c
      cases h
      exact ⟨val_bd c hl, p1⟩
    · cases h
  · rename_i p q e
    have le := par_len e
    split at h
    · cases h
    split at h
    · rename_i c
      rw [Bool.and_eq_true_iff] at c
      split at h
      · cases h
        refine ⟨val_bd c.1 (Nat.le_trans le.1 hl), ?_⟩
        rw [nab]
        exact dv_bd (num_facts c.2).2.1 (Nat.le_trans le.2 hl)
      · cases h
    · cases h
theorem small_repr {p : PyData} (hs : p = .none ∨ p = .int 1 ∨ p = .int 0 ∨ p = .int (-1)) {h : Ho} {Q : KD} (k : Q (.d (.str p.shown)) h) : rRepr [.d p] h Q := by
  rcases hs with rfl | rfl | rfl | rfl
  all_goals exact i_repr (by decide +kernel) (by decide) (by decide +kernel) k
theorem bool_repr {b : Bool} {h : Ho} {Q : KD} (k : Q (.d (.str (PyData.bool b).shown)) h) : rRepr [.d (.bool b)] h Q := by
  cases b
  all_goals exact i_repr (by decide +kernel) (by decide) (by decide +kernel) k
theorem i_neb {b : Bool} {h : Ho} {Q : KD} (k : Q (.d (.bool false)) h) : rNe2 (.d (.bool b)) (.d (.bool b)) h Q := by
  cases b
  · exact ⟨by decide +kernel, by decide +kernel, k⟩
  · exact ⟨by decide +kernel, by decide +kernel, k⟩
theorem i_ne2i {a b : Int} {h : Ho} {Q : KD} (k : Q (.d (.bool false)) h) : rNe2 (.d (.tuple [.int a, .int b])) (.d (.tuple [.int a, .int b])) h Q := by
  refine i_ned rfl rfl rfl rfl ni_tup ?_
  have e : PyData.eqv (.tuple [.int a, .int b]) (.tuple [.int a, .int b]) = true := by simp [PyData.eqv, PyData.eqvAll]
  rw [e]
  exact k
theorem same_ints {a b : Int} (ha : a.natAbs < 2 ^ 1000) (hb : b.natAbs < 2 ^ 1000) {h : Ho} {Q : KD} {E : XD} (k : Q (.d (.bool true)) h) : M__law_same [.d (.tuple [.int a, .int b]), .d (.tuple [.int a, .int b])] h Q E := by
  have s := int_sh ha
  have t := int_sh hb
  have f := shown_forms _ _ _ s.1 t.1 t.1
  have g := short_forms _ _ _ s.2.2.1 t.2.2.1 t.2.2.1
  have w : Sh 2 (.tuple [.int a, .int b]) := ⟨f.2.2.1, Nat.le_of_ble_eq_true rfl, g.2.2.1, Nat.le_of_ble_eq_true rfl⟩
  have l := w.len (by decide)
  exact wp_same l.1 l.2.1 l.2.2 k
/-- the quotient of two ints, or what is told of 0 -/
def quo (t b : Int) : PyData := if b = 0 then .str "bottom" else fr (qt t b)
theorem same_quo {t b : Int} (ht : t.natAbs < 2 ^ 200) (hb : b.natAbs < 2 ^ 200) {h : Ho} {Q : KD} {E : XD} (k : Q (.d (.bool true)) h) : M__law_same [.d (quo t b), .d (quo t b)] h Q E := by
  unfold quo
  by_cases c : b = 0
  · rw [if_pos c]
    exact wp_same rfl (by decide) (by decide +kernel) k
  · rw [if_neg c]
    exact wp_sameF (qt_sz (n := 200) c ht hb) (by decide) k
/-- what is heard of a text -/
def hrd (o : Option (Int × Int)) : PyData := match o with
  | none => .str "no0"
  | some ab => .tuple [.int ab.1, .int ab.2]
end LW
set_option Elab.async false
set_option linter.all false
set_option maxRecDepth 100000
set_option maxHeartbeats 40000000
namespace LW
open PySem PySem.Spec PyProof.Rows L2 V2
local macro_rules
  | `(tactic| array_get_dec) => `(tactic| with_reducible first
    | refine i_seqg (fun _ _ => ?_)
    | refine i_asg2v (by repeat constructor) (by repeat constructor) (by repeat constructor) ?_
    | refine i_asgn ?_ (by with_unfolding_all exact Nat.le_of_ble_eq_true rfl)
    | refine i_set (by repeat constructor) ?_
    | refine i_par ?_ (by with_unfolding_all exact Nat.le_of_ble_eq_true rfl) (by with_unfolding_all exact Nat.le_of_ble_eq_true rfl)
    | refine i_pair (by repeat constructor) (by repeat constructor) ?_
    | refine i_par3 ?_ (by with_unfolding_all exact Nat.le_of_ble_eq_true rfl) (by with_unfolding_all exact Nat.le_of_ble_eq_true rfl) (by with_unfolding_all exact Nat.le_of_ble_eq_true rfl)
    | refine i_trip (by repeat constructor) (by repeat constructor) (by repeat constructor) ?_
    | refine i_ret ?_
    | refine i_if ?_
    | refine i_var (by repeat constructor) ?_
    | refine i_c ?_
    | refine i_cons ?_
    | refine i_nil ?_
    | refine i_bin ?_
    | refine i_ints0 ?_
    | refine i_ints ?_ ?_
    | refine i_add ?_
    | refine i_eqi ?_
    | refine i_nei ?_
    | refine i_eqsr ?_
    | refine i_eqs ?_
    | refine i_nesr ?_
    | refine i_nes ?_
    | refine i_un ?_
    | refine i_val ?_
    | refine i_isb ?_
    | refine i_isi ?_
    | refine i_isr ?_
    | refine i_and2 ?_
    | refine i_or2 ?_
    | refine i_not2 ?_
    | refine i_fif ?_
    | refine i_fand ?_
    | refine i_tup ?_
    | refine i_lst ?_
    | refine i_all (by repeat constructor) (by with_unfolding_all exact Nat.le_of_ble_eq_true rfl) ?_
    | refine i_ix (by assumption) (by with_unfolding_all exact rfl) ?_
    | refine i_ix (by with_unfolding_all exact rfl) (by with_unfolding_all exact rfl) ?_
    | refine i_call ?_
    | refine i_fn ?_
    | refine i_fnk ?_
    | refine i_pk1 ?_
    | refine i_pk2 ?_
    | refine i_pk3 ?_
    | refine i_pk4 ?_
    | refine i_abs ?_
    | refine i_toint ?_
    | refine i_gcd ?_
    | refine i_lcm3 ?_ ?_
    | refine i_chain ?_
    | refine i_max2 ?_
    | refine i_min2 ?_
    | refine i_isN ?_
    | refine i_notN ?_
    | refine i_len (by with_unfolding_all exact rfl) ?_
    | refine i_drop ?_
    | refine i_pop ?_
    | refine i_append ?_
    | refine i_sub ?_
    | refine i_raise ?_
    | refine i_one ?_
    | refine i_enum1 ?_
    | refine i_zip2 ?_
    | refine i_brk ?_
    | refine i_for ?_
    | refine i_range1 ?_
    | refine i_range2 ?_
    | refine i_isr2 ?_
    | refine i_next ?_
    | refine i_go (by assumption) ?_)

local macro_rules
  | `(tactic| decreasing_trivial_pre_omega) => `(tactic| (apply cmB; (repeat' (first | assumption | apply Bd.add | apply Bd.sub | apply Bd.mul | apply Bd.neg)); decide))

open SX (S S_tl S_inj S_len S_cat)
theorem says (ns : List Int) (hl : ns.length ≤ 63) {P : Prop} (hb : P) : V2.Says M_law ns := by
  unfold Says scriptD
  refine i_mir rfl (by repeat constructor) (by repeat constructor) ?_
  unfold B_law
  repeat' array_get_dec
  refine wp_source hl fun h0 dh => ?_
  repeat' array_get_dec
  refine ⟨by decide, by decide, ?_⟩
  refine for_ind (fun i ρ h' => Deal [] h' ∧ ∃ (z2 z3 z4 z5 z6 z7 z8 z9 : Option D), ρ = [some (.d (.list (ns.map PyData.int))), some (.loc 1), z2, z3, z4, z5, z6, z7, z8, z9]) ?_ ?_ ⟨dh, _, _, _, _, _, _, _, _, rfl⟩
  case refine_2 =>
    rintro ρ h ⟨dh, z2, z3, z4, z5, z6, z7, z8, z9, rfl⟩
    repeat' array_get_dec
    refine wp_thing dh fun p h1 hp dh => ?_
    repeat' array_get_dec
    by_cases hs : ∃ z, p = .str z
    · obtain ⟨z, rfl⟩ := hs
      refine i_isiD (by repeat constructor) (kit_strT z) ?_
      repeat' array_get_dec
      refine i_ifF rfl ?_
      repeat' array_get_dec
      refine i_ifF rfl ?_
      repeat' array_get_dec
      refine same_ints (by decide) (by decide) ?_
      repeat' array_get_dec
      refine i_ifT rfl ?_
      repeat' array_get_dec
      exact same_ints (by decide) (by decide) rfl
    · refine i_isiD (by repeat constructor) (kit_strN fun z e => hs ⟨z, e⟩) ?_
      repeat' array_get_dec
      refine i_ifT rfl ?_
      repeat' array_get_dec
      refine wp_heardN (fun z e => hs ⟨z, e⟩) ?_
      repeat' array_get_dec
      refine i_ifF rfl ?_
      repeat' array_get_dec
      refine same_ints (by decide) (by decide) ?_
      repeat' array_get_dec
      refine i_ifT rfl ?_
      repeat' array_get_dec
      exact same_ints (by decide) (by decide) rfl
  rintro k x ρ h G - ⟨dh, z2, z3, z4, z5, z6, z7, z8, z9, rfl⟩ hG
  refine ⟨_, rfl, ?_⟩
  show (sSeq _ _) [some (.d (.list (ns.map PyData.int))), some (.loc 1), some x, z3, z4, z5, z6, z7, z8, z9] _ _
  repeat' array_get_dec
  refine wp_candidate dh fun p h1 hp dh => ?_
  repeat' array_get_dec
  have sp := hp.1.len (by decide)
  refine i_repr sp.1 sp.2.1 sp.2.2 ?_
  repeat' array_get_dec
  refine wp_wrong hp ?_
  have fk := fault_kinds p
  repeat' array_get_dec
  refine wp_told ?_
  repeat' array_get_dec
  refine small_repr fk ?_
  repeat' array_get_dec
  refine small_repr fk ?_
  repeat' array_get_dec
  refine i_ifF rfl ?_
  repeat' array_get_dec
  refine wp_is_fraction ?_
  repeat' array_get_dec
  refine bool_repr ?_
  repeat' array_get_dec
  rw [fault_ok]
  refine bool_repr ?_
  repeat' array_get_dec
  refine i_ifF rfl ?_
  repeat' array_get_dec
  refine i_repr sp.1 sp.2.1 sp.2.2 ?_
  repeat' array_get_dec
  refine i_ifF rfl ?_
  array_get_dec
  array_get_dec
  refine i_cutg (fun ρ' h' => Deal [] h' ∧ ∃ (z2 z3 z4 z5 z6 z7 z8 z9 : Option D), ρ' = [some (.d (.list (ns.map PyData.int))), some (.loc 1), z2, z3, z4, z5, z6, z7, z8, z9]) ?tail1 ?work1
  case work1 =>
    intro nx tl
    repeat' array_get_dec
    refine wp_is_fraction ?_
    repeat' array_get_dec
    refine wp_is_fraction ?_
    repeat' array_get_dec
    refine i_neb ?_
    repeat' array_get_dec
    refine i_ifF rfl ?_
    repeat' array_get_dec
    by_cases c : fault p = .none
    · refine i_ifT (by rw [c]; rfl) ?_
      repeat' array_get_dec
      refine wp_need (fun _ => ?_) (fun e => absurd c e)
      repeat' array_get_dec
      refine i_ifF rfl ?_
      repeat' array_get_dec
      exact tl _ _ ⟨dh, _, _, _, _, _, _, _, _, rfl⟩
    · have e : isNon (.d (fault p)) = false := by
        rcases fk with e | e | e | e
        · exact absurd e c
        all_goals rw [e]; rfl
      refine i_ifF e ?_
      refine i_ifF rfl ?_
      repeat' array_get_dec
      exact tl _ _ ⟨dh, _, _, _, _, _, _, _, _, rfl⟩
  case tail1 =>
  clear dh hp sp fk
  rintro ρ h ⟨dh, z2, z3, z4, z5, z6, z7, z8, z9, rfl⟩
  repeat' array_get_dec
  refine wp_size dh fun t h1 ht dh => ?_
  repeat' array_get_dec
  refine wp_size dh fun b1 h2 hb1 dh => ?_
  repeat' array_get_dec
  refine wp_size dh fun b2 h3 hb2 dh => ?_
  repeat' array_get_dec
  refine wp_of (by simp) (by simp) dh fun b h4 hb dh => ?_
  have hb : ∃ v : Int, b = .int v ∧ v.natAbs < 2 ^ 67 := by
    simp only [List.mem_cons, List.not_mem_nil, or_false] at hb
    rcases hb with rfl | rfl | rfl | rfl | rfl
    all_goals exact ⟨_, rfl, by omega⟩
  obtain ⟨b, rfl, hb⟩ := hb
  refine ⟨_, _, _, _, rfl, by repeat constructor, by repeat constructor, ?_⟩
  array_get_dec
  refine i_cutg (fun ρ' h' => h' = h4 ∧ ρ' = [some (.d (.list (ns.map PyData.int))), some (.loc 1), z2, z3, z4, some (.d (quo t b)), some (.d (.int t)), some (.d (.int b)), z8, z9]) ?tail2 ?work2
  case work2 =>
    intro nx tl
    repeat' array_get_dec
    by_cases c0 : b = 0
    · have e : quo t b = .str "bottom" := if_pos c0
      rw [e] at tl
      refine i_ifT (decide_eq_true c0) ?_
      repeat' array_get_dec
      exact tl _ _ ⟨rfl, rfl⟩
    have e : quo t b = fr (qt t b) := if_neg c0
    rw [e] at tl
    refine i_ifF (decide_eq_false c0) ?_
    repeat' array_get_dec
    by_cases c1 : 0 < b
    · refine i_ifT (decide_eq_true c1) ?_
      repeat' array_get_dec
      obtain ⟨q, rfl⟩ : ∃ q : Nat, b = q := ⟨b.toNat, by omega⟩
      refine wp_low (n := 70) (m := 70) (by omega) (by omega) (by omega) (by decide) (by decide) ?_
      repeat' array_get_dec
      rw [show mkRat t q = qt t q from qt_pos c1]
      exact tl _ _ ⟨rfl, rfl⟩
    · refine i_ifF (decide_eq_false c1) ?_
      repeat' array_get_dec
      have e1 : (0 - b) = ((b.natAbs : Nat) : Int) := by omega
      have e2 : (0 - t) = -t := by omega
      rw [e1, e2]
      refine wp_low (n := 70) (m := 70) (by omega) (by omega) (by omega) (by decide) (by decide) ?_
      repeat' array_get_dec
      rw [qt_neg (by omega)]
      exact tl _ _ ⟨rfl, rfl⟩
  case tail2 =>
  rintro ρ h ⟨rfl, rfl⟩
  have qz : ¬ b = 0 → quo t b = fr (qt t b) := fun c => if_neg c
  have qs : ¬ b = 0 → Sz 70 (qt t b) := fun c => qt_sz c (by show t.natAbs < _; omega) (by show b.natAbs < _; omega)
  refine i_cutg (fun ρ' h' => h' = h ∧ ρ' = [some (.d (.list (ns.map PyData.int))), some (.loc 1), z2, z3, z4, some (.d (quo t b)), some (.d (.int t)), some (.d (.int b)), z8, z9]) ?tail3 ?work3
  case work3 =>
    intro nx tl
    repeat' array_get_dec
    refine wp_quotient (by omega) ?_
    repeat' array_get_dec
    refine same_quo (by omega) (by omega) ?_
    repeat' array_get_dec
    refine i_ifF rfl ?_
    repeat' array_get_dec
    refine wp_whole ?_
    repeat' array_get_dec
    refine same_ints (by omega) (by decide) ?_
    repeat' array_get_dec
    refine i_ifF rfl ?_
    repeat' array_get_dec
    exact tl _ _ ⟨rfl, rfl⟩
  case tail3 =>
  rintro ρ h' ⟨rfl, rfl⟩
  refine i_cutg (fun ρ' h => h = h' ∧ ρ' = [some (.d (.list (ns.map PyData.int))), some (.loc 1), z2, z3, z4, some (.d (quo t b)), some (.d (.int t)), some (.d (.int b)), z8, z9]) ?tail4 ?work4
  case work4 =>
    intro nx tl
    repeat' array_get_dec
    by_cases c0 : b = 0
    · refine i_ifF (by rw [decide_eq_true c0]; rfl) ?_
      refine i_ifF rfl ?_
      repeat' array_get_dec
      refine wp_whole ?_
      repeat' array_get_dec
      refine i_ne2i ?_
      repeat' array_get_dec
      refine i_ifF rfl ?_
      repeat' array_get_dec
      exact tl _ _ ⟨rfl, rfl⟩
    · refine i_ifT (by rw [decide_eq_false c0]; rfl) ?_
      repeat' array_get_dec
      refine wp_fractionI (n := 200) c0 (by show b.natAbs < _; omega) (by decide) (by decide) ?_
      repeat' array_get_dec
      rw [qz c0]
      refine wp_sameF (qs c0) (by decide) ?_
      repeat' array_get_dec
      refine i_ifF rfl ?_
      repeat' array_get_dec
      refine wp_whole ?_
      repeat' array_get_dec
      refine i_ne2i ?_
      repeat' array_get_dec
      refine i_ifF rfl ?_
      repeat' array_get_dec
      rw [← qz c0]
      exact tl _ _ ⟨rfl, rfl⟩
  case tail4 =>
  rintro ρ h ⟨rfl, rfl⟩
  refine i_cutg (fun ρ' h' => h' = h ∧ ρ' = [some (.d (.list (ns.map PyData.int))), some (.loc 1), z2, z3, z4, some (.d (quo t b)), some (.d (.int t)), some (.d (.int b)), z8, z9]) ?tail5 ?work5
  case work5 =>
    intro nx tl
    repeat' array_get_dec
    by_cases c0 : b = 0
    · refine i_ifF (by rw [decide_eq_true c0]; rfl) ?_
      refine i_ifF rfl ?_
      repeat' array_get_dec
      exact tl _ _ ⟨rfl, rfl⟩
    · rw [qz c0] at tl ⊢
      refine i_ifT (by rw [decide_eq_false c0]; rfl) ?_
      have s2 := (qs c0).mono (m := 200) (by decide)
      repeat' array_get_dec
      refine wp_ftext s2 ?_
      repeat' array_get_dec
      refine wp_ltext s2 ?_
      repeat' array_get_dec
      refine i_ifF rfl ?_
      repeat' array_get_dec
      refine wp_ftext s2 ?_
      repeat' array_get_dec
      refine wp_ltext s2 ?_
      repeat' array_get_dec
      refine i_ifF rfl ?_
      repeat' array_get_dec
      exact tl _ _ ⟨rfl, rfl⟩
  case tail5 =>
  rintro ρ h' ⟨rfl, rfl⟩
  repeat' array_get_dec
  have e : (1 + if b < 0 then -b else b) = ((1 + b.natAbs : Nat) : Int) := by split <;> omega
  rw [e]
  refine wp_low (n := 70) (m := 70) (by omega) (by omega) (by omega) (by decide) (by decide) ?_
  have sz : Sz 70 (mkRat t (1 + b.natAbs)) := .mk' (by omega) (by omega) (by omega)
  generalize mkRat t (1 + b.natAbs) = q at sz
  repeat' array_get_dec
  refine wp_ltext (sz.mono (by decide)) ?_
  have lq := ftx_len (by decide) sz
  generalize ftx q = l0 at lq
  repeat' array_get_dec
  refine i_iseqG ?_
  repeat' array_get_dec
  refine wp_bent (by omega) dh fun l1 h5 ll1 dh => ?_
  repeat' array_get_dec
  refine wp_bent (by omega) dh fun l2 h6 ll2 dh => ?_
  repeat' array_get_dec
  refine wp_bent (by omega) dh fun l3 h7 ll3 dh => ?_
  repeat' array_get_dec
  refine ⟨_, rfl, ?_⟩
  generalize quo t b = z5
  refine for_ind (fun i ρ h' => h' = h7 ∧ ∃ (z5 z9 : Option D), ρ = [some (.d (.list (ns.map PyData.int))), some (.loc 1), z2, z3, z4, z5, some (.d (.int t)), some (.d (.int b)), some (.d (.str (S l0))), z9]) ?_ ?_ ⟨rfl, _, _, rfl⟩
  case refine_2 =>
    rintro ρ h ⟨rfl, z5, z9, rfl⟩
    repeat' array_get_dec
    exact ⟨trivial, hG _ _ ⟨dh, _, _, _, _, _, _, _, _, rfl⟩⟩
  rintro k y ρ h G2 ey ⟨rfl, z5, z9, rfl⟩ hG2
  have ey : ∃ l, y = .d (.str (S l)) ∧ l.length ≤ 150 := by
    have hm := List.mem_of_getElem? ey
    have hm : y ∈ [D.d (.str (S l0)), .d (.str (S l1)), .d (.str (S l3))] := hm
    simp only [List.mem_cons, List.not_mem_nil, or_false] at hm
    rcases hm with rfl | rfl | rfl
    · exact ⟨_, rfl, by omega⟩
    · exact ⟨_, rfl, by omega⟩
    · exact ⟨_, rfl, by omega⟩
  obtain ⟨l, rfl, hl5⟩ := ey
  refine ⟨_, rfl, ?_⟩
  show (sSeq _ _) [some (.d (.list (ns.map PyData.int))), some (.loc 1), z2, z3, z4, z5, some (.d (.int t)), some (.d (.int b)), some (.d (.str (S l0))), some (.d (.str (S l)))] _ _
  repeat' array_get_dec
  refine wp_lread (by omega) ?_
  repeat' array_get_dec
  refine wp_heard (by omega) ?_
  cases er : rd l with
  | none =>
    repeat' array_get_dec
    refine i_ifT rfl ?_
    repeat' array_get_dec
    refine wp_same rfl (by decide) (by decide +kernel) ?_
    repeat' array_get_dec
    refine i_ifF rfl ?_
    repeat' array_get_dec
    refine i_ifF rfl ?_
    refine i_ifF rfl ?_
    repeat' array_get_dec
    exact ⟨trivial, hG2 _ _ ⟨rfl, _, _, rfl⟩⟩
  | some ab =>
    obtain ⟨a, c⟩ := ab
    have bd := rd_bd er (k := 150) (by decide) hl5
    repeat' array_get_dec
    refine i_ifF rfl ?_
    repeat' array_get_dec
    refine same_ints (by omega) (by omega) ?_
    repeat' array_get_dec
    refine i_ifF rfl ?_
    repeat' array_get_dec
    refine i_ifT rfl ?_
    repeat' array_get_dec
    refine wp_read (by omega) (fun a2 c2 e2 => ?_) (fun e2 => ?_)
    · rw [er] at e2
      cases e2
      repeat' array_get_dec
      refine same_ints (by omega) (by omega) ?_
      repeat' array_get_dec
      refine i_ifF rfl ?_
      repeat' array_get_dec
      exact ⟨trivial, hG2 _ _ ⟨rfl, _, _, rfl⟩⟩
    · rw [er] at e2
      cases e2
end LW
set_option Elab.async false
set_option linter.all false
set_option maxRecDepth 100000
set_option maxHeartbeats 8000000
namespace LW
open PySem PySem.Spec PyProof.Rows L2 V2
open PySem.W (Frag)
def top (i : Nat) : Stmt := PySem.Challenge.pw_leastfield_k01_any_values_as_fractions_a.main.body.getD i (.Pass ⟨0, 0, 0, 0⟩)
abbrev s_is_number_text : Stmt := top 7
abbrev s_is_whole_text : Stmt := top 8
abbrev s_is_int : Stmt := top 10
abbrev s_is_tuple_of : Stmt := top 11
abbrev s_are_ints : Stmt := top 12
abbrev s__fault_of : Stmt := top 16
abbrev s_need_fraction : Stmt := top 17
abbrev s_is_fraction : Stmt := top 18
abbrev s_fraction : Stmt := top 19
abbrev s_whole : Stmt := top 20
abbrev s_fraction_text : Stmt := top 21
abbrev s_read_fraction : Stmt := top 22
abbrev s__law_source : Stmt := top 24
abbrev s__law_any : Stmt := top 25
abbrev s__law_of : Stmt := top 26
abbrev s__law_common : Stmt := top 27
abbrev s__law_low : Stmt := top 28
abbrev s__law_same : Stmt := top 29
abbrev s__law_size : Stmt := top 30
abbrev s__law_thing : Stmt := top 31
abbrev s__law_candidate : Stmt := top 32
abbrev s__law_is_int : Stmt := top 33
abbrev s__law_wrong : Stmt := top 34
abbrev s__law_told : Stmt := top 35
abbrev s__law_quotient : Stmt := top 36
abbrev s__law_read : Stmt := top 37
abbrev s__law_text : Stmt := top 38
abbrev s__law_bent : Stmt := top 39
abbrev s__law_heard : Stmt := top 40
abbrev s_law : Stmt := top 41
structure Ad where
  a_is_number_text : Addr
  fd_is_number_text : FuncData
  a_is_whole_text : Addr
  fd_is_whole_text : FuncData
  a_is_int : Addr
  fd_is_int : FuncData
  a_is_tuple_of : Addr
  fd_is_tuple_of : FuncData
  a_are_ints : Addr
  fd_are_ints : FuncData
  a__fault_of : Addr
  fd__fault_of : FuncData
  a_need_fraction : Addr
  fd_need_fraction : FuncData
  a_is_fraction : Addr
  fd_is_fraction : FuncData
  a_fraction : Addr
  fd_fraction : FuncData
  a_whole : Addr
  fd_whole : FuncData
  a_fraction_text : Addr
  fd_fraction_text : FuncData
  a_read_fraction : Addr
  fd_read_fraction : FuncData
  a__law_source : Addr
  fd__law_source : FuncData
  a__law_any : Addr
  fd__law_any : FuncData
  a__law_of : Addr
  fd__law_of : FuncData
  a__law_common : Addr
  fd__law_common : FuncData
  a__law_low : Addr
  fd__law_low : FuncData
  a__law_same : Addr
  fd__law_same : FuncData
  a__law_size : Addr
  fd__law_size : FuncData
  a__law_thing : Addr
  fd__law_thing : FuncData
  a__law_candidate : Addr
  fd__law_candidate : FuncData
  a__law_is_int : Addr
  fd__law_is_int : FuncData
  a__law_wrong : Addr
  fd__law_wrong : FuncData
  a__law_told : Addr
  fd__law_told : FuncData
  a__law_quotient : Addr
  fd__law_quotient : FuncData
  a__law_read : Addr
  fd__law_read : FuncData
  a__law_text : Addr
  fd__law_text : FuncData
  a__law_bent : Addr
  fd__law_bent : FuncData
  a__law_heard : Addr
  fd__law_heard : FuncData
  a_law : Addr
  fd_law : FuncData
  c_FieldError : Addr
  c_InvalidFraction : Addr
  c_InvalidSize : Addr
  c_InvalidText : Addr
  i_InvalidFraction : Addr
  i_InvalidSize : Addr
  i_InvalidText : Addr
  k_ONE : Addr
  k_ZERO : Addr
structure Txt (K : Frag) (mg : Str → Option Value) (z : Ad) : Prop where
  d_is_number_text : DefAt K mg "is_number_text" s_is_number_text z.a_is_number_text z.fd_is_number_text
  b_is_number_text : Binds K z.fd_is_number_text ["text"] []
  d_is_whole_text : DefAt K mg "is_whole_text" s_is_whole_text z.a_is_whole_text z.fd_is_whole_text
  b_is_whole_text : Binds K z.fd_is_whole_text ["text"] []
  d_is_int : DefAt K mg "is_int" s_is_int z.a_is_int z.fd_is_int
  b_is_int : Binds K z.fd_is_int ["value"] []
  d_is_tuple_of : DefAt K mg "is_tuple_of" s_is_tuple_of z.a_is_tuple_of z.fd_is_tuple_of
  b_is_tuple_of : Binds K z.fd_is_tuple_of ["value", "many"] []
  d_are_ints : DefAt K mg "are_ints" s_are_ints z.a_are_ints z.fd_are_ints
  b_are_ints : Binds K z.fd_are_ints ["value", "many"] []
  d__fault_of : DefAt K mg "_fault_of" s__fault_of z.a__fault_of z.fd__fault_of
  b__fault_of : Binds K z.fd__fault_of ["value"] []
  d_need_fraction : DefAt K mg "need_fraction" s_need_fraction z.a_need_fraction z.fd_need_fraction
  b_need_fraction : Binds K z.fd_need_fraction ["value"] []
  k_need_fraction_value : KwB K z.fd_need_fraction ["value"] ["value"] [0]
  d_is_fraction : DefAt K mg "is_fraction" s_is_fraction z.a_is_fraction z.fd_is_fraction
  b_is_fraction : Binds K z.fd_is_fraction ["value"] []
  k_is_fraction_value : KwB K z.fd_is_fraction ["value"] ["value"] [0]
  d_fraction : DefAt K mg "fraction" s_fraction z.a_fraction z.fd_fraction
  b_fraction : Binds K z.fd_fraction ["top", "bottom"] []
  k_fraction_bottom_top : KwB K z.fd_fraction ["top", "bottom"] ["bottom", "top"] [1, 0]
  d_whole : DefAt K mg "whole" s_whole z.a_whole z.fd_whole
  b_whole : Binds K z.fd_whole ["number"] []
  k_whole_number : KwB K z.fd_whole ["number"] ["number"] [0]
  d_fraction_text : DefAt K mg "fraction_text" s_fraction_text z.a_fraction_text z.fd_fraction_text
  b_fraction_text : Binds K z.fd_fraction_text ["one"] []
  k_fraction_text_one : KwB K z.fd_fraction_text ["one"] ["one"] [0]
  d_read_fraction : DefAt K mg "read_fraction" s_read_fraction z.a_read_fraction z.fd_read_fraction
  b_read_fraction : Binds K z.fd_read_fraction ["value"] []
  k_read_fraction_value : KwB K z.fd_read_fraction ["value"] ["value"] [0]
  d__law_source : DefAt K mg "_law_source" s__law_source z.a__law_source z.fd__law_source
  b__law_source : Binds K z.fd__law_source ["_law_script"] []
  d__law_any : DefAt K mg "_law_any" s__law_any z.a__law_any z.fd__law_any
  b__law_any : Binds K z.fd__law_any ["_law_deal", "_law_bound"] []
  d__law_of : DefAt K mg "_law_of" s__law_of z.a__law_of z.fd__law_of
  b__law_of : Binds K z.fd__law_of ["_law_deal", "_law_some"] []
  d__law_common : DefAt K mg "_law_common" s__law_common z.a__law_common z.fd__law_common
  b__law_common : Binds K z.fd__law_common ["_law_one", "_law_other"] []
  d__law_low : DefAt K mg "_law_low" s__law_low z.a__law_low z.fd__law_low
  b__law_low : Binds K z.fd__law_low ["_law_top", "_law_bottom"] []
  d__law_same : DefAt K mg "_law_same" s__law_same z.a__law_same z.fd__law_same
  b__law_same : Binds K z.fd__law_same ["_law_told_here", "_law_due"] []
  d__law_size : DefAt K mg "_law_size" s__law_size z.a__law_size z.fd__law_size
  b__law_size : Binds K z.fd__law_size ["_law_deal"] []
  d__law_thing : DefAt K mg "_law_thing" s__law_thing z.a__law_thing z.fd__law_thing
  b__law_thing : Binds K z.fd__law_thing ["_law_deal"] []
  d__law_candidate : DefAt K mg "_law_candidate" s__law_candidate z.a__law_candidate z.fd__law_candidate
  b__law_candidate : Binds K z.fd__law_candidate ["_law_deal"] []
  d__law_is_int : DefAt K mg "_law_is_int" s__law_is_int z.a__law_is_int z.fd__law_is_int
  b__law_is_int : Binds K z.fd__law_is_int ["_law_value"] []
  d__law_wrong : DefAt K mg "_law_wrong" s__law_wrong z.a__law_wrong z.fd__law_wrong
  b__law_wrong : Binds K z.fd__law_wrong ["_law_value"] []
  d__law_told : DefAt K mg "_law_told" s__law_told z.a__law_told z.fd__law_told
  b__law_told : Binds K z.fd__law_told ["_law_value"] []
  d__law_quotient : DefAt K mg "_law_quotient" s__law_quotient z.a__law_quotient z.fd__law_quotient
  b__law_quotient : Binds K z.fd__law_quotient ["_law_top", "_law_bottom"] []
  d__law_read : DefAt K mg "_law_read" s__law_read z.a__law_read z.fd__law_read
  b__law_read : Binds K z.fd__law_read ["_law_text_here"] []
  d__law_text : DefAt K mg "_law_text" s__law_text z.a__law_text z.fd__law_text
  b__law_text : Binds K z.fd__law_text ["_law_pair"] []
  d__law_bent : DefAt K mg "_law_bent" s__law_bent z.a__law_bent z.fd__law_bent
  b__law_bent : Binds K z.fd__law_bent ["_law_deal", "_law_text_here"] []
  d__law_heard : DefAt K mg "_law_heard" s__law_heard z.a__law_heard z.fd__law_heard
  b__law_heard : Binds K z.fd__law_heard ["_law_value"] []
  d_law : DefAt K mg "law" s_law z.a_law z.fd_law
  b_law : Binds K z.fd_law ["_law_script"] []
  n_abs : mg "abs" = none
  n_all : mg "all" = none
  n_bool : mg "bool" = none
  m_gcd : mg "gcd" = some (.builtin "math.gcd")
  n_int : mg "int" = none
  n_isinstance : mg "isinstance" = none
  n_len : mg "len" = none
  n_range : mg "range" = none
  n_repr : mg "repr" = none
  n_str : mg "str" = none
  n_tuple : mg "tuple" = none
  g_FieldError : mg "FieldError" = some (.ref z.c_FieldError)
  g_InvalidFraction : mg "InvalidFraction" = some (.ref z.c_InvalidFraction)
  g_InvalidSize : mg "InvalidSize" = some (.ref z.c_InvalidSize)
  g_InvalidText : mg "InvalidText" = some (.ref z.c_InvalidText)
  x_InvalidFraction : XOwn K mg "InvalidFraction" z.c_InvalidFraction z.i_InvalidFraction "at"
  x_InvalidSize : XOwn K mg "InvalidSize" z.c_InvalidSize z.i_InvalidSize "word"
  x_InvalidText : XOwn K mg "InvalidText" z.c_InvalidText z.i_InvalidText "at"
  f_InvalidFraction : XfC K z.c_InvalidFraction
  f_InvalidSize : XfC K z.c_InvalidSize
  f_InvalidText : XfC K z.c_InvalidText
  nf_InvalidFraction_at : PySem.W.findIn K (.ref z.c_InvalidFraction) "at" = some none
  nf_InvalidSize_word : PySem.W.findIn K (.ref z.c_InvalidSize) "word" = some none
  nf_InvalidText_at : PySem.W.findIn K (.ref z.c_InvalidText) "at" = some none
  is_InvalidFraction : XIs K z.c_InvalidFraction
  is_InvalidFraction_FieldError : PySem.W.kitOne K (.ref z.c_InvalidFraction) (.ref z.c_FieldError) = some true
  is_InvalidFraction_InvalidSize : PySem.W.kitOne K (.ref z.c_InvalidFraction) (.ref z.c_InvalidSize) = some false
  is_InvalidFraction_InvalidText : PySem.W.kitOne K (.ref z.c_InvalidFraction) (.ref z.c_InvalidText) = some false
  t_InvalidFraction : ∀ nm C b, mg nm = some (.ref C) → only "InvalidFraction" nm = some b → PySem.W.exmOne K (.ref C) (.ref z.c_InvalidFraction) = some b
  t_InvalidSize : ∀ nm C b, mg nm = some (.ref C) → only "InvalidSize" nm = some b → PySem.W.exmOne K (.ref C) (.ref z.c_InvalidSize) = some b
  t_InvalidText : ∀ nm C b, mg nm = some (.ref C) → only "InvalidText" nm = some b → PySem.W.exmOne K (.ref C) (.ref z.c_InvalidText) = some b
  m_ONE : mg "ONE" = some (.ref z.k_ONE)
  c_ONE : ∀ as H, Dv K as H (.ref z.k_ONE) (.tuple [(.int 1), (.int 1)])
  m_ZERO : mg "ZERO" = some (.ref z.k_ZERO)
  c_ZERO : ∀ as H, Dv K as H (.ref z.k_ZERO) (.tuple [(.int 0), (.int 1)])
section
variable {P : Program} {w : World} {K : Frag} {mg : Str → Option Value} {base : Heap} {z : Ad}
theorem sc_is_number_text : FnScope ["text"] ["text"] (defScope s_is_number_text) := ⟨rfl, rfl, rfl, by decide +kernel, rfl, by decide +kernel, by decide +kernel⟩
theorem g_is_number_text (T : Txt K mg z) : FnG P w K mg base 1 z.a_is_number_text z.fd_is_number_text ["text"] M_is_number_text := by
  refine fnG_of (N := ["text"]) T.d_is_number_text.F sc_is_number_text fun cdv A outer s H E hr hgu => ?_
  have hu := hr.units
  exact (SB.one (SS.ret (SE.and (SE.isascii (SE.var 0)) (SE.and (SE.isdigit (SE.var 0)) (SE.one (SE.or (SE.eq hu (SE.var 0) SE.str) (SE.one (SE.not (SE.startswith (SE.var 0) SE.str)))))))))
theorem sc_is_int : FnScope ["value"] ["value"] (defScope s_is_int) := ⟨rfl, rfl, rfl, by decide +kernel, rfl, by decide +kernel, by decide +kernel⟩
theorem g_is_int (T : Txt K mg z) : FnG P w K mg base 1 z.a_is_int z.fd_is_int ["value"] M_is_int := by
  refine fnG_of (N := ["value"]) T.d_is_int.F sc_is_int fun cdv A outer s H E hr hgu => ?_
  have hu := hr.units
  exact (SB.one (SS.ret (SE.and (SE.isi (p2 := ⟨0, 0, 0, 0⟩) (T := "int") (by rfl) T.n_isinstance (by rfl) T.n_int (by decide +kernel) (SE.var 0)) (SE.one (SE.not (SE.isi (p2 := ⟨0, 0, 0, 0⟩) (T := "bool") (by rfl) T.n_isinstance (by rfl) T.n_bool (by decide +kernel) (SE.var 0)))))))
theorem sc_is_tuple_of : FnScope ["value", "many"] ["value", "many"] (defScope s_is_tuple_of) := ⟨rfl, rfl, rfl, by decide +kernel, rfl, by decide +kernel, by decide +kernel⟩
theorem g_is_tuple_of (T : Txt K mg z) : FnG P w K mg base 1 z.a_is_tuple_of z.fd_is_tuple_of ["value", "many"] M_is_tuple_of := by
  refine fnG_of (N := ["value", "many"]) T.d_is_tuple_of.F sc_is_tuple_of fun cdv A outer s H E hr hgu => ?_
  have hu := hr.units
  exact (SB.one (SS.ret (SE.and (SE.isi (p2 := ⟨0, 0, 0, 0⟩) (T := "tuple") (by rfl) T.n_isinstance (by rfl) T.n_tuple (by decide +kernel) (SE.var 0)) (SE.one (SE.eq hu (SE.len (by rfl) T.n_len (SA.cons (SE.var 0) SA.nil)) (SE.var 1))))))
theorem sc_fraction : FnScope ["top", "bottom", "common"] ["top", "bottom"] (defScope s_fraction) := ⟨rfl, rfl, rfl, by decide +kernel, rfl, by decide +kernel, by decide +kernel⟩
theorem g_fraction (T : Txt K mg z) : FnG P w K mg base 1 z.a_fraction z.fd_fraction ["top", "bottom"] M_fraction := by
  refine fnG_of (N := ["top", "bottom", "common"]) T.d_fraction.F sc_fraction fun cdv A outer s H E hr hgu => ?_
  have hu := hr.units
  exact (SB.cons (SS.ifS (ST.eq hu (SE.var 1) SE.int) (SB.one (SS.raise (by rfl) T.x_InvalidSize hr tkD (SA.cons SE.str SA.nil) (by rfl))) SB.nil)
    (SB.cons (SS.set 2 sc_fraction.nd (by rfl) (Or.inl (by rfl)) (SE.gcd (by rfl) T.m_gcd (SA.cons (SE.var 0) (SA.cons (SE.var 1) SA.nil))))
    (SB.cons (SS.ifS (ST.lt (SE.var 1) SE.int) (SB.one (SS.set 2 sc_fraction.nd (by rfl) (Or.inl (by rfl)) (SE.neg (SE.var 2)))) SB.nil)
    (SB.one (SS.ret (SE.tup (SA.cons (SE.div (SE.var 0) (SE.var 2)) (SA.cons (SE.div (SE.var 1) (SE.var 2)) SA.nil))))))))
theorem sc_whole : FnScope ["number"] ["number"] (defScope s_whole) := ⟨rfl, rfl, rfl, by decide +kernel, rfl, by decide +kernel, by decide +kernel⟩
theorem g_whole (T : Txt K mg z) : FnG P w K mg base 1 z.a_whole z.fd_whole ["number"] M_whole := by
  refine fnG_of (N := ["number"]) T.d_whole.F sc_whole fun cdv A outer s H E hr hgu => ?_
  have hu := hr.units
  exact (SB.one (SS.ret (SE.tup (SA.cons (SE.var 0) (SA.cons SE.int SA.nil)))))
theorem sc_fraction_text : FnScope ["one", "top", "bottom"] ["one"] (defScope s_fraction_text) := ⟨rfl, rfl, rfl, by decide +kernel, rfl, by decide +kernel, by decide +kernel⟩
theorem g_fraction_text (T : Txt K mg z) : FnG P w K mg base 1 z.a_fraction_text z.fd_fraction_text ["one"] M_fraction_text := by
  refine fnG_of (N := ["one", "top", "bottom"]) T.d_fraction_text.F sc_fraction_text fun cdv A outer s H E hr hgu => ?_
  have hu := hr.units
  exact (SB.cons (SS.asg (SE.var 0) (SG.tup (by rfl) (SGs.cons (SG.name 1 sc_fraction_text.nd (by rfl) (Or.inl (by rfl))) (SGs.cons (SG.name 2 sc_fraction_text.nd (by rfl) (Or.inl (by rfl))) SGs.nil))))
    (SB.cons (SS.ifS (ST.eq hu (SE.var 2) SE.int) (SB.one (SS.ret (SE.str1 (by rfl) T.n_str (SA.cons (SE.var 1) SA.nil)))) SB.nil)
    (SB.one (SS.ret (SE.join (SJ.cons (SE.fmt (SE.var 1)) (SJ.cons SE.str (SJ.cons (SE.fmt (SE.var 2)) SJ.nil))))))))
theorem sc__law_source : FnScope ["_law_script", "_law_cells", "_law_cell", "_law_blend"] ["_law_script"] (defScope s__law_source) := ⟨rfl, rfl, rfl, by decide +kernel, rfl, by decide +kernel, by decide +kernel⟩
theorem g__law_source (T : Txt K mg z) : FnG P w K mg base 1 z.a__law_source z.fd__law_source ["_law_script"] M__law_source := by
  refine fnG_of (N := ["_law_script", "_law_cells", "_law_cell", "_law_blend"]) T.d__law_source.F sc__law_source fun cdv A outer s H E hr hgu => ?_
  have hu := hr.units
  exact (SB.cons (SS.setLcV (i := 1) (own := [("_law_cell", 2)]) (by rfl) sc__law_source.nd (SI.seq (SE.slice (SE.var 0) SO.none (SO.some SE.int))) (blkOk_by (N := ["_law_script", "_law_cells", "_law_cell", "_law_blend"]) (sc := defScope s__law_source) (by decide +kernel)) (by decide) (fun _ _ _ _ _ => (SG.name 2 sc__law_source.nd (by rfl) (Or.inl (by rfl)))) (fun _ _ _ _ _ => STs.nil) (fun _ _ _ _ _ => (SE.abs (by rfl) T.n_abs (SA.cons (SE.int1 (by rfl) T.n_int (SA.cons (SE.var 2) SA.nil)) SA.nil))) (by rfl) (by rfl) (sw_true (by rfl) (by rfl) (by rfl) (by decide +kernel)))
    (SB.cons (SS.set 3 sc__law_source.nd (by rfl) (Or.inl (by rfl)) SE.int)
    (SB.cons (SS.forS poD (by rfl) (SI.seq (SE.var 1)) (SG.name 2 sc__law_source.nd (by rfl) (Or.inl (by rfl))) (SB.one (SS.set 3 sc__law_source.nd (by rfl) (Or.inl (by rfl)) (SE.mod (SE.int1 (by rfl) T.n_int (SA.cons (SE.add (SE.add (SE.mul (SE.var 3) SE.int) (SE.mod (SE.var 2) SE.int)) SE.int) SA.nil)) SE.int))))
    (SB.one (SS.ret (SE.loc (SA.cons (SE.revLoc (SE.lcV (own := [("_law_cell", 2)]) (by rfl) sc__law_source.nd (SI.seq (SE.var 1)) (blkOk_by (N := ["_law_script", "_law_cells", "_law_cell", "_law_blend"]) (sc := defScope s__law_source) (by decide +kernel)) (by decide) (fun _ _ _ _ _ => (SG.name 2 sc__law_source.nd (by rfl) (Or.inl (by rfl)))) (fun _ _ _ _ _ => (STs.one (ST.ge (SE.var 2) (SE.pow SE.int SE.int)))) (fun _ _ _ _ _ => (SE.var 2)))) (SA.cons (SE.var 3) SA.nil))))))))
theorem sc__law_any : FnScope ["_law_deal", "_law_bound", "_law_rest"] ["_law_deal", "_law_bound"] (defScope s__law_any) := ⟨rfl, rfl, rfl, by decide +kernel, rfl, by decide +kernel, by decide +kernel⟩
theorem g__law_any (T : Txt K mg z) : FnG P w K mg base 1 z.a__law_any z.fd__law_any ["_law_deal", "_law_bound"] M__law_any := by
  refine fnG_of (N := ["_law_deal", "_law_bound", "_law_rest"]) T.d__law_any.F sc__law_any fun cdv A outer s H E hr hgu => ?_
  have hu := hr.units
  exact (SB.cons (SS.whileS poD (SW.pt (SW.and (ST.ne hu (SE.ix (SE.var 0) SE.int) (SE.lst SA.nil)) (SW.and1 (ST.eq hu (SE.ix (SE.ix (SE.var 0) SE.int) (SE.neg SE.int)) SE.int)))) (SB.one (SS.expr (SE.pop (SE.ix (SE.var 0) SE.int)))))
    (SB.cons (SS.ifS (ST.ne hu (SE.ix (SE.var 0) SE.int) (SE.lst SA.nil)) (SB.cons (SS.set 2 sc__law_any.nd (by rfl) (Or.inl (by rfl)) (SE.int1 (by rfl) T.n_int (SA.cons (SE.pop (SE.ix (SE.var 0) SE.int)) SA.nil)))
    (SB.cons (SS.expr (SE.append (SE.ix (SE.var 0) SE.int) (SA.cons (SE.div (SE.var 2) (SE.var 1)) SA.nil)))
    (SB.one (SS.ret (SE.mod (SE.var 2) (SE.var 1)))))) SB.nil)
    (SB.cons (SS.sub (SE.mod (SE.int1 (by rfl) T.n_int (SA.cons (SE.add (SE.mul (SE.ix (SE.var 0) SE.int) SE.int) SE.int) SA.nil)) SE.int) (SE.var 0) SE.int)
    (SB.one (SS.ret (SE.mod (SE.int1 (by rfl) T.n_int (SA.cons (SE.div (SE.ix (SE.var 0) SE.int) SE.int) SA.nil)) (SE.var 1)))))))
theorem sc__law_common : FnScope ["_law_one", "_law_other", "_law_step"] ["_law_one", "_law_other"] (defScope s__law_common) := ⟨rfl, rfl, rfl, by decide +kernel, rfl, by decide +kernel, by decide +kernel⟩
theorem g__law_common (T : Txt K mg z) : FnG P w K mg base 1 z.a__law_common z.fd__law_common ["_law_one", "_law_other"] M__law_common := by
  refine fnG_of (N := ["_law_one", "_law_other", "_law_step"]) T.d__law_common.F sc__law_common fun cdv A outer s H E hr hgu => ?_
  have hu := hr.units
  exact (SB.cons (SS.par 0 1 (by rfl) sc__law_common.nd (by rfl) (by rfl) (by decide) (by rfl) (by rfl) (SA.cons (SE.abs (by rfl) T.n_abs (SA.cons (SE.int1 (by rfl) T.n_int (SA.cons (SE.var 0) SA.nil)) SA.nil)) (SA.cons (SE.abs (by rfl) T.n_abs (SA.cons (SE.int1 (by rfl) T.n_int (SA.cons (SE.var 1) SA.nil)) SA.nil)) SA.nil)) (by rfl))
    (SB.cons (SS.forS poD (by rfl) (SI.range1 (by rfl) T.n_range (SA.cons SE.int SA.nil)) (SG.name 2 sc__law_common.nd (by rfl) (Or.inl (by rfl))) (SB.cons (SS.ifS (ST.eq hu (SE.var 1) SE.int) (SB.one SS.brk) SB.nil)
    (SB.one (SS.par 0 1 (by rfl) sc__law_common.nd (by rfl) (by rfl) (by decide) (by rfl) (by rfl) (SA.cons (SE.var 1) (SA.cons (SE.mod (SE.int1 (by rfl) T.n_int (SA.cons (SE.var 0) SA.nil)) (SE.var 1)) SA.nil)) (by rfl)))))
    (SB.one (SS.ret (SE.var 0)))))
theorem sc__law_same : FnScope ["_law_told_here", "_law_due"] ["_law_told_here", "_law_due"] (defScope s__law_same) := ⟨rfl, rfl, rfl, by decide +kernel, rfl, by decide +kernel, by decide +kernel⟩
theorem g__law_same (T : Txt K mg z) : FnG P w K mg base 1 z.a__law_same z.fd__law_same ["_law_told_here", "_law_due"] M__law_same := by
  refine fnG_of (N := ["_law_told_here", "_law_due"]) T.d__law_same.F sc__law_same fun cdv A outer s H E hr hgu => ?_
  have hu := hr.units
  exact (SB.one (SS.ret (SE.eq hu (SE.repr hgu hu (by rfl) T.n_repr (SA.cons (SE.var 0) SA.nil)) (SE.repr hgu hu (by rfl) T.n_repr (SA.cons (SE.var 1) SA.nil)))))
theorem sc__law_is_int : FnScope ["_law_value"] ["_law_value"] (defScope s__law_is_int) := ⟨rfl, rfl, rfl, by decide +kernel, rfl, by decide +kernel, by decide +kernel⟩
theorem g__law_is_int (T : Txt K mg z) : FnG P w K mg base 1 z.a__law_is_int z.fd__law_is_int ["_law_value"] M__law_is_int := by
  refine fnG_of (N := ["_law_value"]) T.d__law_is_int.F sc__law_is_int fun cdv A outer s H E hr hgu => ?_
  have hu := hr.units
  exact (SB.one (SS.ret (SE.and (SE.isi (p2 := ⟨0, 0, 0, 0⟩) (T := "int") (by rfl) T.n_isinstance (by rfl) T.n_int (by decide +kernel) (SE.var 0)) (SE.one (SE.not (SE.isi (p2 := ⟨0, 0, 0, 0⟩) (T := "bool") (by rfl) T.n_isinstance (by rfl) T.n_bool (by decide +kernel) (SE.var 0)))))))
theorem sc__law_text : FnScope ["_law_pair"] ["_law_pair"] (defScope s__law_text) := ⟨rfl, rfl, rfl, by decide +kernel, rfl, by decide +kernel, by decide +kernel⟩
theorem g__law_text (T : Txt K mg z) : FnG P w K mg base 1 z.a__law_text z.fd__law_text ["_law_pair"] M__law_text := by
  refine fnG_of (N := ["_law_pair"]) T.d__law_text.F sc__law_text fun cdv A outer s H E hr hgu => ?_
  have hu := hr.units
  exact (SB.one (SS.ret (SE.ifExp (ST.eq hu (SE.ix (SE.var 0) SE.int) SE.int) (SE.str1 (by rfl) T.n_str (SA.cons (SE.ix (SE.var 0) SE.int) SA.nil)) (SE.add (SE.add (SE.str1 (by rfl) T.n_str (SA.cons (SE.ix (SE.var 0) SE.int) SA.nil)) SE.str) (SE.str1 (by rfl) T.n_str (SA.cons (SE.ix (SE.var 0) SE.int) SA.nil))))))
theorem sc_is_whole_text : FnScope ["text"] ["text"] (defScope s_is_whole_text) := ⟨rfl, rfl, rfl, by decide +kernel, rfl, by decide +kernel, by decide +kernel⟩
theorem g_is_whole_text (T : Txt K mg z) : FnG P w K mg base 2 z.a_is_whole_text z.fd_is_whole_text ["text"] M_is_whole_text := by
  refine fnG_of (N := ["text"]) T.d_is_whole_text.F sc_is_whole_text fun cdv A outer s H E hr hgu => ?_
  have hu := hr.units
  exact (SB.one (SS.ret (SE.and (SE.ne hu (SE.var 0) SE.str) (SE.one (SE.fn T.d_is_number_text (g_is_number_text T) mir_len hr (by decide) hgu tkD (by rfl) T.b_is_number_text (SA.cons (SE.removeprefix (SE.var 0) SE.str) SA.nil))))))
theorem sc_are_ints : FnScope ["value", "many", "thing"] ["value", "many"] (defScope s_are_ints) := ⟨rfl, rfl, rfl, by decide +kernel, rfl, by decide +kernel, by decide +kernel⟩
theorem g_are_ints (T : Txt K mg z) : FnG P w K mg base 2 z.a_are_ints z.fd_are_ints ["value", "many"] M_are_ints := by
  refine fnG_of (N := ["value", "many", "thing"]) T.d_are_ints.F sc_are_ints fun cdv A outer s H E hr hgu => ?_
  have hu := hr.units
  exact (SB.one (SS.ret (SE.and (SE.fn T.d_is_tuple_of (g_is_tuple_of T) mir_len hr (by decide) hgu tkD (by rfl) T.b_is_tuple_of (SA.cons (SE.var 0) (SA.cons (SE.var 1) SA.nil))) (SE.one (SE.all (by rfl) T.n_all (by rfl) (SA.cons (SE.lcV (own := [("thing", 2)]) (by rfl) sc_are_ints.nd (SI.seq (SE.var 0)) (blkOk_by (N := ["value", "many", "thing"]) (sc := defScope s_are_ints) (by decide +kernel)) (by decide) (fun _ _ _ _ _ => (SG.name 2 sc_are_ints.nd (by rfl) (Or.inl (by rfl)))) (fun _ _ _ _ _ => STs.nil) (fun _ _ _ _ _ => (SE.fn T.d_is_int (g_is_int T) mir_len hr (by decide) hgu tk0 (by rfl) T.b_is_int (SA.cons (SE.var 2) SA.nil)))) SA.nil))))))
theorem sc__law_of : FnScope ["_law_deal", "_law_some"] ["_law_deal", "_law_some"] (defScope s__law_of) := ⟨rfl, rfl, rfl, by decide +kernel, rfl, by decide +kernel, by decide +kernel⟩
theorem g__law_of (T : Txt K mg z) : FnG P w K mg base 2 z.a__law_of z.fd__law_of ["_law_deal", "_law_some"] M__law_of := by
  refine fnG_of (N := ["_law_deal", "_law_some"]) T.d__law_of.F sc__law_of fun cdv A outer s H E hr hgu => ?_
  have hu := hr.units
  exact (SB.one (SS.ret (SE.ixS (SE.var 1) (SE.fn T.d__law_any (g__law_any T) mir_len hr (by decide) hgu tkD (by rfl) T.b__law_any (SA.cons (SE.var 0) (SA.cons (SE.lenS (by rfl) T.n_len (SA.cons (SE.var 1) SA.nil)) SA.nil))))))
theorem sc__law_low : FnScope ["_law_top", "_law_bottom", "_law_common_here"] ["_law_top", "_law_bottom"] (defScope s__law_low) := ⟨rfl, rfl, rfl, by decide +kernel, rfl, by decide +kernel, by decide +kernel⟩
theorem g__law_low (T : Txt K mg z) : FnG P w K mg base 2 z.a__law_low z.fd__law_low ["_law_top", "_law_bottom"] M__law_low := by
  refine fnG_of (N := ["_law_top", "_law_bottom", "_law_common_here"]) T.d__law_low.F sc__law_low fun cdv A outer s H E hr hgu => ?_
  have hu := hr.units
  exact (SB.cons (SS.set 2 sc__law_low.nd (by rfl) (Or.inl (by rfl)) (SE.fn T.d__law_common (g__law_common T) mir_len hr (by decide) hgu tkD (by rfl) T.b__law_common (SA.cons (SE.var 0) (SA.cons (SE.var 1) SA.nil))))
    (SB.one (SS.ret (SE.tup (SA.cons (SE.div (SE.int1 (by rfl) T.n_int (SA.cons (SE.var 0) SA.nil)) (SE.var 2)) (SA.cons (SE.div (SE.int1 (by rfl) T.n_int (SA.cons (SE.var 1) SA.nil)) (SE.var 2)) SA.nil))))))
theorem sc__law_wrong : FnScope ["_law_value"] ["_law_value"] (defScope s__law_wrong) := ⟨rfl, rfl, rfl, by decide +kernel, rfl, by decide +kernel, by decide +kernel⟩
theorem g__law_wrong (T : Txt K mg z) : FnG P w K mg base 2 z.a__law_wrong z.fd__law_wrong ["_law_value"] M__law_wrong := by
  refine fnG_of (N := ["_law_value"]) T.d__law_wrong.F sc__law_wrong fun cdv A outer s H E hr hgu => ?_
  have hu := hr.units
  exact (SB.cons (SS.ifS (SW.pt (SW.or (ST.not (ST.val (SE.isi (p2 := ⟨0, 0, 0, 0⟩) (T := "tuple") (by rfl) T.n_isinstance (by rfl) T.n_tuple (by decide +kernel) (SE.var 0)))) (SW.or (ST.ne hu (SE.len (by rfl) T.n_len (SA.cons (SE.var 0) SA.nil)) SE.int) (SW.or (ST.not (ST.val (SE.fn T.d__law_is_int (g__law_is_int T) mir_len hr (by decide) hgu tkD (by rfl) T.b__law_is_int (SA.cons (SE.ix (SE.var 0) SE.int) SA.nil)))) (SW.or1 (ST.not (ST.val (SE.fn T.d__law_is_int (g__law_is_int T) mir_len hr (by decide) hgu tkD (by rfl) T.b__law_is_int (SA.cons (SE.ix (SE.var 0) SE.int) SA.nil))))))))) (SB.one (SS.ret (SE.neg SE.int))) SB.nil)
    (SB.cons (SS.ifS (ST.lt (SE.ix (SE.var 0) SE.int) SE.int) (SB.one (SS.ret SE.int)) SB.nil)
    (SB.one (SS.ret (SE.ifExp (ST.gt (SE.fn T.d__law_common (g__law_common T) mir_len hr (by decide) hgu tkD (by rfl) T.b__law_common (SA.cons (SE.ix (SE.var 0) SE.int) (SA.cons (SE.ix (SE.var 0) SE.int) SA.nil))) SE.int) SE.int SE.non)))))
theorem sc__law_quotient : FnScope ["_law_top", "_law_bottom", "e"] ["_law_top", "_law_bottom"] (defScope s__law_quotient) := ⟨rfl, rfl, rfl, by decide +kernel, rfl, by decide +kernel, by decide +kernel⟩
theorem g__law_quotient (T : Txt K mg z) : FnG P w K mg base 2 z.a__law_quotient z.fd__law_quotient ["_law_top", "_law_bottom"] M__law_quotient := by
  refine fnG_of (N := ["_law_top", "_law_bottom", "e"]) T.d__law_quotient.F sc__law_quotient fun cdv A outer s H E hr hgu => ?_
  have hu := hr.units
  exact (SB.one (SS.tryAs (i := 2) (by rfl) (by rfl) sc__law_quotient.nd (by rfl) (by rfl) ⟨by rfl, by decide, .inl T.g_InvalidSize⟩ tkD T.t_InvalidSize (fun _ _ _ tkt _ => (SB.one (SS.ret (SE.fn T.d_fraction (g_fraction T) mir_len hr (by decide) hgu tkt (by rfl) T.b_fraction (SA.cons (SE.var 0) (SA.cons (SE.var 1) SA.nil)))))) (suite_ret (SXE.fld T.f_InvalidSize T.g_InvalidSize "word" T.nf_InvalidSize_word (by rfl) (.inl (by rfl))))))
theorem sc__law_read : FnScope ["_law_text_here", "_law_body", "_law_names", "_law_name", "_law_sign", "_law_top", "_law_bottom"] ["_law_text_here"] (defScope s__law_read) := ⟨rfl, rfl, rfl, by decide +kernel, rfl, by decide +kernel, by decide +kernel⟩
theorem g__law_read (T : Txt K mg z) : FnG P w K mg base 2 z.a__law_read z.fd__law_read ["_law_text_here"] M__law_read := by
  refine fnG_of (N := ["_law_text_here", "_law_body", "_law_names", "_law_name", "_law_sign", "_law_top", "_law_bottom"]) T.d__law_read.F sc__law_read fun cdv A outer s H E hr hgu => ?_
  have hu := hr.units
  exact (SB.cons (SS.set 1 sc__law_read.nd (by rfl) (Or.inl (by rfl)) (SE.ifExp (ST.eq hu (SE.sliceS (SE.var 0) SO.none (SO.some SE.int)) SE.str) (SE.sliceS (SE.var 0) (SO.some SE.int) SO.none) (SE.var 0)))
    (SB.cons (SS.set 2 sc__law_read.nd (by rfl) (Or.inl (by rfl)) (SE.split (SE.var 1) SE.str))
    (SB.cons (SS.ifS (ST.gt (SE.len (by rfl) T.n_len (SA.cons (SE.var 2) SA.nil)) SE.int) (SB.one (SS.ret SE.non)) SB.nil)
    (SB.cons (SS.forS poD (by rfl) (SI.seq (SE.var 2)) (SG.name 3 sc__law_read.nd (by rfl) (Or.inl (by rfl))) (SB.one (SS.ifS (SW.pt (SW.or (ST.eq hu (SE.var 3) SE.str) (SW.or (ST.lt (SE.len (by rfl) T.n_len (SA.cons (SE.lcV (own := [("_law_sign", 4)]) (by rfl) sc__law_read.nd (SI.signs (SE.var 3)) (blkOk_by (N := ["_law_text_here", "_law_body", "_law_names", "_law_name", "_law_sign", "_law_top", "_law_bottom"]) (sc := defScope s__law_read) (by decide +kernel)) (by decide) (fun _ _ _ _ _ => (SG.name 4 sc__law_read.nd (by rfl) (Or.inl (by rfl)))) (fun _ _ _ _ _ => (STs.one (ST.inS (SE.var 4) SE.str))) (fun _ _ _ _ _ => (SE.var 4))) SA.nil)) (SE.lenS (by rfl) T.n_len (SA.cons (SE.var 3) SA.nil))) (SW.or1 (SW.pt (SW.and (ST.eq hu (SE.ixS (SE.var 3) SE.int) SE.str) (SW.and1 (ST.ne hu (SE.var 3) SE.str)))))))) (SB.one (SS.ret SE.non)) SB.nil)))
    (SB.cons (SS.par 5 6 (by rfl) sc__law_read.nd (by rfl) (by rfl) (by decide) (by rfl) (by rfl) (SA.cons (SE.intS (by rfl) T.n_int (SA.cons (SE.ix (SE.var 2) SE.int) SA.nil)) (SA.cons (SE.ifExp (ST.eq hu (SE.len (by rfl) T.n_len (SA.cons (SE.var 2) SA.nil)) SE.int) (SE.intS (by rfl) T.n_int (SA.cons (SE.ix (SE.var 2) (SE.neg SE.int)) SA.nil)) SE.int) SA.nil)) (by rfl))
    (SB.cons (SS.ifS (SW.pt (SW.or (SW.pt (SW.and (ST.eq hu (SE.len (by rfl) T.n_len (SA.cons (SE.var 2) SA.nil)) SE.int) (SW.and1 (ST.lt (SE.var 6) SE.int)))) (SW.or (SW.pt (SW.and (ST.eq hu (SE.var 5) SE.int) (SW.and1 (ST.ne hu (SE.var 1) (SE.var 0))))) (SW.or1 (ST.ne hu (SE.fn T.d__law_common (g__law_common T) mir_len hr (by decide) hgu tkD (by rfl) T.b__law_common (SA.cons (SE.var 5) (SA.cons (SE.var 6) SA.nil))) SE.int))))) (SB.one (SS.ret SE.non)) SB.nil)
    (SB.one (SS.ret (SE.tup (SA.cons (SE.ifExp (ST.ne hu (SE.var 1) (SE.var 0)) (SE.sub SE.int (SE.var 5)) (SE.var 5)) (SA.cons (SE.var 6) SA.nil)))))))))))
theorem sc__fault_of : FnScope ["value", "top", "bottom"] ["value"] (defScope s__fault_of) := ⟨rfl, rfl, rfl, by decide +kernel, rfl, by decide +kernel, by decide +kernel⟩
theorem g__fault_of (T : Txt K mg z) : FnG P w K mg base 3 z.a__fault_of z.fd__fault_of ["value"] M__fault_of := by
  refine fnG_of (N := ["value", "top", "bottom"]) T.d__fault_of.F sc__fault_of fun cdv A outer s H E hr hgu => ?_
  have hu := hr.units
  exact (SB.cons (SS.ifS (ST.not (ST.val (SE.fn T.d_are_ints (g_are_ints T) mir_len hr (by decide) hgu tkD (by rfl) T.b_are_ints (SA.cons (SE.var 0) (SA.cons SE.int SA.nil))))) (SB.one (SS.ret (SE.neg SE.int))) SB.nil)
    (SB.cons (SS.asg (SE.var 0) (SG.tup (by rfl) (SGs.cons (SG.name 1 sc__fault_of.nd (by rfl) (Or.inl (by rfl))) (SGs.cons (SG.name 2 sc__fault_of.nd (by rfl) (Or.inl (by rfl))) SGs.nil))))
    (SB.cons (SS.ifS (ST.le (SE.var 2) SE.int) (SB.one (SS.ret SE.int)) SB.nil)
    (SB.cons (SS.ifS (ST.ne hu (SE.gcd (by rfl) T.m_gcd (SA.cons (SE.var 1) (SA.cons (SE.var 2) SA.nil))) SE.int) (SB.one (SS.ret SE.int)) SB.nil)
    (SB.one (SS.ret SE.non))))))
theorem sc__law_size : FnScope ["_law_deal", "_law_number"] ["_law_deal"] (defScope s__law_size) := ⟨rfl, rfl, rfl, by decide +kernel, rfl, by decide +kernel, by decide +kernel⟩
theorem g__law_size (T : Txt K mg z) : FnG P w K mg base 3 z.a__law_size z.fd__law_size ["_law_deal"] M__law_size := by
  refine fnG_of (N := ["_law_deal", "_law_number"]) T.d__law_size.F sc__law_size fun cdv A outer s H E hr hgu => ?_
  have hu := hr.units
  exact (SB.cons (SS.set 1 sc__law_size.nd (by rfl) (Or.inl (by rfl)) (SE.fn T.d__law_of (g__law_of T) mir_len hr (by decide) hgu tkD (by rfl) T.b__law_of (SA.cons (SE.var 0) (SA.cons (SE.lst (SA.cons SE.int (SA.cons SE.int (SA.cons SE.int (SA.cons SE.int (SA.cons SE.int (SA.cons (SE.fn T.d__law_any (g__law_any T) mir_len hr (by decide) hgu tkD (by rfl) T.b__law_any (SA.cons (SE.var 0) (SA.cons SE.int SA.nil))) (SA.cons (SE.fn T.d__law_any (g__law_any T) mir_len hr (by decide) hgu tkD (by rfl) T.b__law_any (SA.cons (SE.var 0) (SA.cons SE.int SA.nil))) (SA.cons (SE.fn T.d__law_any (g__law_any T) mir_len hr (by decide) hgu tkD (by rfl) T.b__law_any (SA.cons (SE.var 0) (SA.cons (SE.pow SE.int SE.int) SA.nil))) (SA.cons (SE.add (SE.pow SE.int SE.int) (SE.fn T.d__law_any (g__law_any T) mir_len hr (by decide) hgu tkD (by rfl) T.b__law_any (SA.cons (SE.var 0) (SA.cons (SE.pow SE.int SE.int) SA.nil)))) SA.nil)))))))))) SA.nil))))
    (SB.one (SS.ret (SE.ifExp (ST.eq hu (SE.fn T.d__law_any (g__law_any T) mir_len hr (by decide) hgu tkD (by rfl) T.b__law_any (SA.cons (SE.var 0) (SA.cons SE.int SA.nil))) SE.int) (SE.sub SE.int (SE.var 1)) (SE.var 1)))))
theorem sc__law_bent : FnScope ["_law_deal", "_law_text_here", "_law_at", "_law_sign", "_law_form"] ["_law_deal", "_law_text_here"] (defScope s__law_bent) := ⟨rfl, rfl, rfl, by decide +kernel, rfl, by decide +kernel, by decide +kernel⟩
theorem g__law_bent (T : Txt K mg z) : FnG P w K mg base 3 z.a__law_bent z.fd__law_bent ["_law_deal", "_law_text_here"] M__law_bent := by
  refine fnG_of (N := ["_law_deal", "_law_text_here", "_law_at", "_law_sign", "_law_form"]) T.d__law_bent.F sc__law_bent fun cdv A outer s H E hr hgu => ?_
  have hu := hr.units
  exact (SB.cons (SS.par 2 3 (by rfl) sc__law_bent.nd (by rfl) (by rfl) (by decide) (by rfl) (by rfl) (SA.cons (SE.fn T.d__law_any (g__law_any T) mir_len hr (by decide) hgu tkD (by rfl) T.b__law_any (SA.cons (SE.var 0) (SA.cons (SE.add (SE.lenS (by rfl) T.n_len (SA.cons (SE.var 1) SA.nil)) SE.int) SA.nil))) (SA.cons (SE.fn T.d__law_of (g__law_of T) mir_len hr (by decide) hgu tkD (by rfl) T.b__law_of (SA.cons (SE.var 0) (SA.cons SE.str SA.nil))) SA.nil)) (by rfl))
    (SB.cons (SS.set 4 sc__law_bent.nd (by rfl) (Or.inl (by rfl)) (SE.fn T.d__law_any (g__law_any T) mir_len hr (by decide) hgu tkD (by rfl) T.b__law_any (SA.cons (SE.var 0) (SA.cons SE.int SA.nil))))
    (SB.one (SS.ret (SE.add (SE.add (SE.sliceS (SE.var 1) SO.none (SO.some (SE.var 2))) (SE.ifExp (ST.gt (SE.var 4) SE.int) (SE.var 3) SE.str)) (SE.ifExp (ST.eq hu (SE.var 4) SE.int) (SE.sliceS (SE.var 1) (SO.some (SE.var 2)) SO.none) (SE.sliceS (SE.var 1) (SO.some (SE.add (SE.var 2) SE.int)) SO.none)))))))
theorem sc_need_fraction : FnScope ["value", "fault"] ["value"] (defScope s_need_fraction) := ⟨rfl, rfl, rfl, by decide +kernel, rfl, by decide +kernel, by decide +kernel⟩
theorem g_need_fraction (T : Txt K mg z) : FnG P w K mg base 4 z.a_need_fraction z.fd_need_fraction ["value"] M_need_fraction := by
  refine fnG_of (N := ["value", "fault"]) T.d_need_fraction.F sc_need_fraction fun cdv A outer s H E hr hgu => ?_
  have hu := hr.units
  exact (SB.cons (SS.set 1 sc_need_fraction.nd (by rfl) (Or.inl (by rfl)) (SE.fn T.d__fault_of (g__fault_of T) mir_len hr (by decide) hgu tkD (by rfl) T.b__fault_of (SA.cons (SE.var 0) SA.nil)))
    (SB.one (SS.ifS (ST.notN (SE.var 1) SE.non) (SB.one (SS.raise (by rfl) T.x_InvalidFraction hr tkD (SA.cons (SE.var 1) SA.nil) (by rfl))) SB.nil)))
theorem sc_is_fraction : FnScope ["value"] ["value"] (defScope s_is_fraction) := ⟨rfl, rfl, rfl, by decide +kernel, rfl, by decide +kernel, by decide +kernel⟩
theorem g_is_fraction (T : Txt K mg z) : FnG P w K mg base 4 z.a_is_fraction z.fd_is_fraction ["value"] M_is_fraction := by
  refine fnG_of (N := ["value"]) T.d_is_fraction.F sc_is_fraction fun cdv A outer s H E hr hgu => ?_
  have hu := hr.units
  exact (SB.one (SS.ret (SE.isN (SE.fn T.d__fault_of (g__fault_of T) mir_len hr (by decide) hgu tkD (by rfl) T.b__fault_of (SA.cons (SE.var 0) SA.nil)) SE.non)))
theorem sc__law_thing : FnScope ["_law_deal", "_law_number", "_law_pair"] ["_law_deal"] (defScope s__law_thing) := ⟨rfl, rfl, rfl, by decide +kernel, rfl, by decide +kernel, by decide +kernel⟩
theorem g__law_thing (T : Txt K mg z) : FnG P w K mg base 4 z.a__law_thing z.fd__law_thing ["_law_deal"] M__law_thing := by
  refine fnG_of (N := ["_law_deal", "_law_number", "_law_pair"]) T.d__law_thing.F sc__law_thing fun cdv A outer s H E hr hgu => ?_
  have hu := hr.units
  exact (SB.cons (SS.set 1 sc__law_thing.nd (by rfl) (Or.inl (by rfl)) (SE.fn T.d__law_size (g__law_size T) mir_len hr (by decide) hgu tkD (by rfl) T.b__law_size (SA.cons (SE.var 0) SA.nil)))
    (SB.cons (SS.set 2 sc__law_thing.nd (by rfl) (Or.inl (by rfl)) (SE.tup (SA.cons (SE.var 1) (SA.cons (SE.add SE.int (SE.abs (by rfl) T.n_abs (SA.cons (SE.fn T.d__law_size (g__law_size T) mir_len hr (by decide) hgu tkD (by rfl) T.b__law_size (SA.cons (SE.var 0) SA.nil)) SA.nil))) SA.nil))))
    (SB.one (SS.ret (SE.fn T.d__law_of (g__law_of T) mir_len hr (by decide) hgu tkD (by rfl) T.b__law_of (SA.cons (SE.var 0) (SA.cons (SE.lst (SA.cons SE.non (SA.cons SE.bl (SA.cons SE.bl (SA.cons (SE.var 1) (SA.cons SE.str (SA.cons SE.str (SA.cons SE.str (SA.cons (SE.lst (SA.cons (SE.var 1) (SA.cons SE.int SA.nil))) (SA.cons (SE.tup SA.nil) (SA.cons (SE.tup (SA.cons (SE.var 1) SA.nil)) (SA.cons (SE.var 2) (SA.cons (SE.tup (SA.cons (SE.var 2) (SA.cons (SE.var 2) SA.nil))) (SA.cons (SE.tup (SA.cons (SE.var 1) (SA.cons SE.int (SA.cons SE.int SA.nil)))) SA.nil)))))))))))))) SA.nil)))))))
theorem sc_read_fraction : FnScope ["value", "top", "slash", "bottom", "found"] ["value"] (defScope s_read_fraction) := ⟨rfl, rfl, rfl, by decide +kernel, rfl, by decide +kernel, by decide +kernel⟩
theorem g_read_fraction (T : Txt K mg z) : FnG P w K mg base 5 z.a_read_fraction z.fd_read_fraction ["value"] M_read_fraction := by
  refine fnG_of (N := ["value", "top", "slash", "bottom", "found"]) T.d_read_fraction.F sc_read_fraction fun cdv A outer s H E hr hgu => ?_
  have hu := hr.units
  exact (SB.cons (SS.ifS (ST.not (ST.val (SE.isi (p2 := ⟨0, 0, 0, 0⟩) (T := "str") (by rfl) T.n_isinstance (by rfl) T.n_str (by decide +kernel) (SE.var 0)))) (SB.one (SS.raise (by rfl) T.x_InvalidText hr tkD (SA.cons (SE.neg SE.int) SA.nil) (by rfl))) SB.nil)
    (SB.cons (SS.asg (SE.partition (SE.var 0) SE.str) (SG.tup (by rfl) (SGs.cons (SG.name 1 sc_read_fraction.nd (by rfl) (Or.inl (by rfl))) (SGs.cons (SG.name 2 sc_read_fraction.nd (by rfl) (Or.inl (by rfl))) (SGs.cons (SG.name 3 sc_read_fraction.nd (by rfl) (Or.inl (by rfl))) SGs.nil)))))
    (SB.cons (SS.ifS (ST.eq hu (SE.var 2) SE.str) (SB.one (SS.set 3 sc_read_fraction.nd (by rfl) (Or.inl (by rfl)) SE.str)) (SB.one (SS.ifS (ST.eq hu (SE.var 3) SE.str) (SB.one (SS.raise (by rfl) T.x_InvalidText hr tkD (SA.cons SE.int SA.nil) (by rfl))) SB.nil)))
    (SB.cons (SS.ifS (ST.not (SW.pt (SW.and (ST.val (SE.fn T.d_is_whole_text (g_is_whole_text T) mir_len hr (by decide) hgu tkD (by rfl) T.b_is_whole_text (SA.cons (SE.var 1) SA.nil))) (SW.and1 (ST.val (SE.fn T.d_is_number_text (g_is_number_text T) mir_len hr (by decide) hgu tkD (by rfl) T.b_is_number_text (SA.cons (SE.var 3) SA.nil))))))) (SB.one (SS.raise (by rfl) T.x_InvalidText hr tkD (SA.cons SE.int SA.nil) (by rfl))) SB.nil)
    (SB.cons (SS.set 4 sc_read_fraction.nd (by rfl) (Or.inl (by rfl)) (SE.tup (SA.cons (SE.intS (by rfl) T.n_int (SA.cons (SE.var 1) SA.nil)) (SA.cons (SE.intS (by rfl) T.n_int (SA.cons (SE.var 3) SA.nil)) SA.nil))))
    (SB.cons (SS.ifS (ST.not (ST.val (SE.fn T.d_is_fraction (g_is_fraction T) mir_len hr (by decide) hgu tkD (by rfl) T.b_is_fraction (SA.cons (SE.var 4) SA.nil)))) (SB.one (SS.raise (by rfl) T.x_InvalidText hr tkD (SA.cons SE.int SA.nil) (by rfl))) SB.nil)
    (SB.one (SS.ret (SE.var 4)))))))))
theorem sc__law_candidate : FnScope ["_law_deal", "_law_top", "_law_bottom", "_law_many", "_law_form", "_law_low_here"] ["_law_deal"] (defScope s__law_candidate) := ⟨rfl, rfl, rfl, by decide +kernel, rfl, by decide +kernel, by decide +kernel⟩
theorem g__law_candidate (T : Txt K mg z) : FnG P w K mg base 5 z.a__law_candidate z.fd__law_candidate ["_law_deal"] M__law_candidate := by
  refine fnG_of (N := ["_law_deal", "_law_top", "_law_bottom", "_law_many", "_law_form", "_law_low_here"]) T.d__law_candidate.F sc__law_candidate fun cdv A outer s H E hr hgu => ?_
  have hu := hr.units
  exact (SB.cons (SS.par3 1 2 3 (by rfl) sc__law_candidate.nd (by rfl) (by rfl) (by rfl) (by decide) (by decide) (by decide) (by rfl) (by rfl) (by rfl) (SA.cons (SE.fn T.d__law_size (g__law_size T) mir_len hr (by decide) hgu tkD (by rfl) T.b__law_size (SA.cons (SE.var 0) SA.nil)) (SA.cons (SE.fn T.d__law_size (g__law_size T) mir_len hr (by decide) hgu tkD (by rfl) T.b__law_size (SA.cons (SE.var 0) SA.nil)) (SA.cons (SE.fn T.d__law_of (g__law_of T) mir_len hr (by decide) hgu tkD (by rfl) T.b__law_of (SA.cons (SE.var 0) (SA.cons (SE.lst (SA.cons SE.int (SA.cons SE.int (SA.cons SE.int (SA.cons SE.int (SA.cons SE.int (SA.cons SE.int SA.nil))))))) SA.nil))) SA.nil))) (by rfl))
    (SB.cons (SS.set 4 sc__law_candidate.nd (by rfl) (Or.inl (by rfl)) (SE.fn T.d__law_any (g__law_any T) mir_len hr (by decide) hgu tkD (by rfl) T.b__law_any (SA.cons (SE.var 0) (SA.cons SE.int SA.nil))))
    (SB.cons (SS.ifS (ST.eq hu (SE.var 4) SE.int) (SB.one (SS.ret (SE.fn T.d__law_thing (g__law_thing T) mir_len hr (by decide) hgu tkD (by rfl) T.b__law_thing (SA.cons (SE.var 0) SA.nil)))) SB.nil)
    (SB.cons (SS.ifS (ST.eq hu (SE.var 4) SE.int) (SB.one (SS.ret (SE.tup (SA.cons (SE.fn T.d__law_thing (g__law_thing T) mir_len hr (by decide) hgu tkD (by rfl) T.b__law_thing (SA.cons (SE.var 0) SA.nil)) (SA.cons (SE.var 2) SA.nil))))) SB.nil)
    (SB.cons (SS.ifS (ST.eq hu (SE.var 4) SE.int) (SB.one (SS.ret (SE.tup (SA.cons (SE.var 1) (SA.cons (SE.fn T.d__law_thing (g__law_thing T) mir_len hr (by decide) hgu tkD (by rfl) T.b__law_thing (SA.cons (SE.var 0) SA.nil)) SA.nil))))) SB.nil)
    (SB.cons (SS.ifS (ST.eq hu (SE.var 4) SE.int) (SB.one (SS.ret (SE.tup (SA.cons (SE.mul (SE.var 1) (SE.var 3)) (SA.cons (SE.mul (SE.var 2) (SE.var 3)) SA.nil))))) SB.nil)
    (SB.cons (SS.set 5 sc__law_candidate.nd (by rfl) (Or.inl (by rfl)) (SE.fn T.d__law_low (g__law_low T) mir_len hr (by decide) hgu tkD (by rfl) T.b__law_low (SA.cons (SE.var 1) (SA.cons (SE.add SE.int (SE.abs (by rfl) T.n_abs (SA.cons (SE.var 2) SA.nil))) SA.nil))))
    (SB.one (SS.ret (SE.ifExp (ST.lt (SE.var 4) SE.int) (SE.tup (SA.cons (SE.mul (SE.ix (SE.var 5) SE.int) (SE.var 3)) (SA.cons (SE.mul (SE.ix (SE.var 5) SE.int) (SE.var 3)) SA.nil))) (SE.var 5)))))))))))
theorem sc__law_told : FnScope ["_law_value", "_law_answer", "e"] ["_law_value"] (defScope s__law_told) := ⟨rfl, rfl, rfl, by decide +kernel, rfl, by decide +kernel, by decide +kernel⟩
theorem g__law_told (T : Txt K mg z) : FnG P w K mg base 5 z.a__law_told z.fd__law_told ["_law_value"] M__law_told := by
  refine fnG_of (N := ["_law_value", "_law_answer", "e"]) T.d__law_told.F sc__law_told fun cdv A outer s H E hr hgu => ?_
  have hu := hr.units
  exact (SB.cons (SS.tryAs (i := 2) (by rfl) (by rfl) sc__law_told.nd (by rfl) (by rfl) ⟨by rfl, by decide, .inl T.g_InvalidFraction⟩ tkD T.t_InvalidFraction (fun _ _ _ tkt _ => (SB.one (SS.set 1 sc__law_told.nd (by rfl) (Or.inl (by rfl)) (SE.fn T.d_need_fraction (g_need_fraction T) mir_len hr (by decide) hgu tkt (by rfl) T.b_need_fraction (SA.cons (SE.var 0) SA.nil))))) (suite_ifret (SXW.pt (SXW.or (SXT.not (SXT.val (SXE.isi (vc := .ref z.c_FieldError) T.is_InvalidFraction T.g_InvalidFraction (by rfl) T.n_isinstance (by rfl) T.g_FieldError rfl (fun _ z => z) T.is_InvalidFraction_FieldError (by rfl) (.inl (by rfl))))) (SXW.or (SXT.val (SXE.isi (vc := .ref z.c_InvalidSize) T.is_InvalidFraction T.g_InvalidFraction (by rfl) T.n_isinstance (by rfl) T.g_InvalidSize rfl (fun _ z => z) T.is_InvalidFraction_InvalidSize (by rfl) (.inl (by rfl)))) (SXW.or1 (SXT.val (SXE.isi (vc := .ref z.c_InvalidText) T.is_InvalidFraction T.g_InvalidFraction (by rfl) T.n_isinstance (by rfl) T.g_InvalidText rfl (fun _ z => z) T.is_InvalidFraction_InvalidText (by rfl) (.inl (by rfl)))))))) (SXE.lift fun _ _ _ => (SE.lst (SA.cons SE.str SA.nil))) (SXE.fld T.f_InvalidFraction T.g_InvalidFraction "at" T.nf_InvalidFraction_at (by rfl) (.inl (by rfl)))))
    (SB.one (SS.ret (SE.ifExp (ST.notN (SE.var 1) SE.non) SE.str SE.non))))
theorem sc__law_heard : FnScope ["_law_value", "e"] ["_law_value"] (defScope s__law_heard) := ⟨rfl, rfl, rfl, by decide +kernel, rfl, by decide +kernel, by decide +kernel⟩
theorem g__law_heard (T : Txt K mg z) : FnG P w K mg base 6 z.a__law_heard z.fd__law_heard ["_law_value"] M__law_heard := by
  refine fnG_of (N := ["_law_value", "e"]) T.d__law_heard.F sc__law_heard fun cdv A outer s H E hr hgu => ?_
  have hu := hr.units
  exact (SB.one (SS.tryAs (i := 1) (by rfl) (by rfl) sc__law_heard.nd (by rfl) (by rfl) ⟨by rfl, by decide, .inl T.g_InvalidText⟩ tkD T.t_InvalidText (fun _ _ _ tkt _ => (SB.one (SS.ret (SE.fn T.d_read_fraction (g_read_fraction T) mir_len hr (by decide) hgu tkt (by rfl) T.b_read_fraction (SA.cons (SE.var 0) SA.nil))))) (suite_ret (SXE.add (SXE.lift fun _ _ _ => SE.str) (SXE.str1 (by rfl) T.n_str (SXA.cons (SXE.fld T.f_InvalidText T.g_InvalidText "at" T.nf_InvalidText_at (by rfl) (.inl (by rfl))) SXA.nil))))))
theorem sc_law : FnScope ["_law_script", "_law_deal", "_law_turn", "_law_value", "_law_shown", "_law_due", "_law_top", "_law_bottom", "_law_text_here", "_law_string"] ["_law_script"] (defScope s_law) := ⟨rfl, rfl, rfl, by decide +kernel, rfl, by decide +kernel, by decide +kernel⟩
theorem g_law (T : Txt K mg z) : FnG P w K mg base 7 z.a_law z.fd_law ["_law_script"] M_law := by
  refine fnG_of (N := ["_law_script", "_law_deal", "_law_turn", "_law_value", "_law_shown", "_law_due", "_law_top", "_law_bottom", "_law_text_here", "_law_string"]) T.d_law.F sc_law fun cdv A outer s H E hr hgu => ?_
  have hu := hr.units
  exact (SB.cons (SS.set 1 sc_law.nd (by rfl) (Or.inl (by rfl)) (SE.fn T.d__law_source (g__law_source T) mir_len hr (by decide) hgu tkD (by rfl) T.b__law_source (SA.cons (SE.var 0) SA.nil)))
    (SB.cons (SS.forS poD (by rfl) (SI.range1 (by rfl) T.n_range (SA.cons SE.int SA.nil)) (SG.name 2 sc_law.nd (by rfl) (Or.inl (by rfl))) (SB.cons (SS.set 3 sc_law.nd (by rfl) (Or.inl (by rfl)) (SE.fn T.d__law_candidate (g__law_candidate T) mir_len hr (by decide) hgu tkD (by rfl) T.b__law_candidate (SA.cons (SE.var 1) SA.nil)))
    (SB.cons (SS.set 4 sc_law.nd (by rfl) (Or.inl (by rfl)) (SE.repr hgu hu (by rfl) T.n_repr (SA.cons (SE.var 3) SA.nil)))
    (SB.cons (SS.set 5 sc_law.nd (by rfl) (Or.inl (by rfl)) (SE.fn T.d__law_wrong (g__law_wrong T) mir_len hr (by decide) hgu tkD (by rfl) T.b__law_wrong (SA.cons (SE.var 3) SA.nil)))
    (SB.cons (SS.ifS (SW.pt (SW.or (ST.ne hu (SE.repr hgu hu (by rfl) T.n_repr (SA.cons (SE.fn T.d__law_told (g__law_told T) mir_len hr (by decide) hgu tkD (by rfl) T.b__law_told (SA.cons (SE.var 3) SA.nil)) SA.nil)) (SE.repr hgu hu (by rfl) T.n_repr (SA.cons (SE.var 5) SA.nil))) (SW.or (ST.ne hu (SE.repr hgu hu (by rfl) T.n_repr (SA.cons (SE.fn T.d_is_fraction (g_is_fraction T) mir_len hr (by decide) hgu tkD (by rfl) T.b_is_fraction (SA.cons (SE.var 3) SA.nil)) SA.nil)) (SE.repr hgu hu (by rfl) T.n_repr (SA.cons (SE.isN (SE.var 5) SE.non) SA.nil))) (SW.or1 (ST.ne hu (SE.repr hgu hu (by rfl) T.n_repr (SA.cons (SE.var 3) SA.nil)) (SE.var 4)))))) (SB.one (SS.ret SE.bl)) SB.nil)
    (SB.cons (SS.ifS (SW.pt (SW.or (ST.ne hu (SE.fnK T.d_is_fraction (g_is_fraction T) mir_len hr (by decide) hgu tkD (by rfl) T.k_is_fraction_value (SKw.cons (SE.var 3) SKw.nil)) (SE.fn T.d_is_fraction (g_is_fraction T) mir_len hr (by decide) hgu tkD (by rfl) T.b_is_fraction (SA.cons (SE.var 3) SA.nil))) (SW.or1 (SW.pt (SW.and (ST.isN (SE.var 5) SE.non) (SW.and1 (ST.notN (SE.fnK T.d_need_fraction (g_need_fraction T) mir_len hr (by decide) hgu tkD (by rfl) T.k_need_fraction_value (SKw.cons (SE.var 3) SKw.nil)) SE.non))))))) (SB.one (SS.ret SE.bl)) SB.nil)
    (SB.cons (SS.par 6 7 (by rfl) sc_law.nd (by rfl) (by rfl) (by decide) (by rfl) (by rfl) (SA.cons (SE.fn T.d__law_size (g__law_size T) mir_len hr (by decide) hgu tkD (by rfl) T.b__law_size (SA.cons (SE.var 1) SA.nil)) (SA.cons (SE.fn T.d__law_of (g__law_of T) mir_len hr (by decide) hgu tkD (by rfl) T.b__law_of (SA.cons (SE.var 1) (SA.cons (SE.lst (SA.cons SE.int (SA.cons SE.int (SA.cons (SE.neg SE.int) (SA.cons (SE.fn T.d__law_size (g__law_size T) mir_len hr (by decide) hgu tkD (by rfl) T.b__law_size (SA.cons (SE.var 1) SA.nil)) (SA.cons (SE.fn T.d__law_size (g__law_size T) mir_len hr (by decide) hgu tkD (by rfl) T.b__law_size (SA.cons (SE.var 1) SA.nil)) SA.nil)))))) SA.nil))) SA.nil)) (by rfl))
    (SB.cons (SS.set 5 sc_law.nd (by rfl) (Or.inl (by rfl)) (SE.ifExp (ST.eq hu (SE.var 7) SE.int) SE.str (SE.ifExp (ST.gt (SE.var 7) SE.int) (SE.fn T.d__law_low (g__law_low T) mir_len hr (by decide) hgu tkD (by rfl) T.b__law_low (SA.cons (SE.var 6) (SA.cons (SE.var 7) SA.nil))) (SE.fn T.d__law_low (g__law_low T) mir_len hr (by decide) hgu tkD (by rfl) T.b__law_low (SA.cons (SE.sub SE.int (SE.var 6)) (SA.cons (SE.sub SE.int (SE.var 7)) SA.nil))))))
    (SB.cons (SS.ifS (SW.pt (SW.or (ST.not (ST.val (SE.fn T.d__law_same (g__law_same T) mir_len hr (by decide) hgu tkD (by rfl) T.b__law_same (SA.cons (SE.fn T.d__law_quotient (g__law_quotient T) mir_len hr (by decide) hgu tkD (by rfl) T.b__law_quotient (SA.cons (SE.var 6) (SA.cons (SE.var 7) SA.nil))) (SA.cons (SE.var 5) SA.nil))))) (SW.or1 (ST.not (ST.val (SE.fn T.d__law_same (g__law_same T) mir_len hr (by decide) hgu tkD (by rfl) T.b__law_same (SA.cons (SE.fn T.d_whole (g_whole T) mir_len hr (by decide) hgu tkD (by rfl) T.b_whole (SA.cons (SE.var 6) SA.nil)) (SA.cons (SE.tup (SA.cons (SE.var 6) (SA.cons SE.int SA.nil))) SA.nil)))))))) (SB.one (SS.ret SE.bl)) SB.nil)
    (SB.cons (SS.ifS (SW.pt (SW.or (SW.pt (SW.and (ST.ne hu (SE.var 7) SE.int) (SW.and1 (ST.not (ST.val (SE.fn T.d__law_same (g__law_same T) mir_len hr (by decide) hgu tkD (by rfl) T.b__law_same (SA.cons (SE.fnK T.d_fraction (g_fraction T) mir_len hr (by decide) hgu tkD (by rfl) T.k_fraction_bottom_top (SKw.cons (SE.var 7) (SKw.cons (SE.var 6) SKw.nil))) (SA.cons (SE.var 5) SA.nil)))))))) (SW.or1 (ST.ne hu (SE.fnK T.d_whole (g_whole T) mir_len hr (by decide) hgu tkD (by rfl) T.k_whole_number (SKw.cons (SE.var 6) SKw.nil)) (SE.tup (SA.cons (SE.var 6) (SA.cons SE.int SA.nil))))))) (SB.one (SS.ret SE.bl)) SB.nil)
    (SB.cons (SS.ifS (SW.pt (SW.and (ST.ne hu (SE.var 7) SE.int) (SW.and1 (SW.pt (SW.or (ST.ne hu (SE.fn T.d_fraction_text (g_fraction_text T) mir_len hr (by decide) hgu tkD (by rfl) T.b_fraction_text (SA.cons (SE.var 5) SA.nil)) (SE.fn T.d__law_text (g__law_text T) mir_len hr (by decide) hgu tkD (by rfl) T.b__law_text (SA.cons (SE.var 5) SA.nil))) (SW.or1 (ST.ne hu (SE.fnK T.d_fraction_text (g_fraction_text T) mir_len hr (by decide) hgu tkD (by rfl) T.k_fraction_text_one (SKw.cons (SE.var 5) SKw.nil)) (SE.fn T.d__law_text (g__law_text T) mir_len hr (by decide) hgu tkD (by rfl) T.b__law_text (SA.cons (SE.var 5) SA.nil))))))))) (SB.one (SS.ret SE.bl)) SB.nil)
    (SB.cons (SS.set 8 sc_law.nd (by rfl) (Or.inl (by rfl)) (SE.fn T.d__law_text (g__law_text T) mir_len hr (by decide) hgu tkD (by rfl) T.b__law_text (SA.cons (SE.fn T.d__law_low (g__law_low T) mir_len hr (by decide) hgu tkD (by rfl) T.b__law_low (SA.cons (SE.var 6) (SA.cons (SE.add SE.int (SE.abs (by rfl) T.n_abs (SA.cons (SE.var 7) SA.nil))) SA.nil))) SA.nil)))
    (SB.one (SS.forS poD (by rfl) (SI.seq (SE.tup (SA.cons (SE.var 8) (SA.cons (SE.fn T.d__law_bent (g__law_bent T) mir_len hr (by decide) hgu tkD (by rfl) T.b__law_bent (SA.cons (SE.var 1) (SA.cons (SE.var 8) SA.nil))) (SA.cons (SE.fn T.d__law_bent (g__law_bent T) mir_len hr (by decide) hgu tkD (by rfl) T.b__law_bent (SA.cons (SE.var 1) (SA.cons (SE.fn T.d__law_bent (g__law_bent T) mir_len hr (by decide) hgu tkD (by rfl) T.b__law_bent (SA.cons (SE.var 1) (SA.cons (SE.var 8) SA.nil))) SA.nil))) SA.nil))))) (SG.name 9 sc_law.nd (by rfl) (Or.inl (by rfl))) (SB.cons (SS.set 5 sc_law.nd (by rfl) (Or.inl (by rfl)) (SE.fn T.d__law_read (g__law_read T) mir_len hr (by decide) hgu tkD (by rfl) T.b__law_read (SA.cons (SE.var 9) SA.nil)))
    (SB.cons (SS.ifS (ST.not (ST.val (SE.fn T.d__law_same (g__law_same T) mir_len hr (by decide) hgu tkD (by rfl) T.b__law_same (SA.cons (SE.fn T.d__law_heard (g__law_heard T) mir_len hr (by decide) hgu tkD (by rfl) T.b__law_heard (SA.cons (SE.var 9) SA.nil)) (SA.cons (SE.ifExp (ST.isN (SE.var 5) SE.non) SE.str (SE.var 5)) SA.nil))))) (SB.one (SS.ret SE.bl)) SB.nil)
    (SB.one (SS.ifS (SW.pt (SW.and (ST.notN (SE.var 5) SE.non) (SW.and1 (ST.not (ST.val (SE.fn T.d__law_same (g__law_same T) mir_len hr (by decide) hgu tkD (by rfl) T.b__law_same (SA.cons (SE.fnK T.d_read_fraction (g_read_fraction T) mir_len hr (by decide) hgu tkD (by rfl) T.k_read_fraction_value (SKw.cons (SE.var 9) SKw.nil)) (SA.cons (SE.var 5) SA.nil)))))))) (SB.one (SS.ret SE.bl)) SB.nil))))))))))))))))))
    (SB.cons (SS.set 3 sc_law.nd (by rfl) (Or.inl (by rfl)) (SE.fn T.d__law_thing (g__law_thing T) mir_len hr (by decide) hgu tkD (by rfl) T.b__law_thing (SA.cons (SE.var 1) SA.nil)))
    (SB.cons (SS.ifS (SW.pt (SW.and (ST.not (ST.val (SE.isi (p2 := ⟨0, 0, 0, 0⟩) (T := "str") (by rfl) T.n_isinstance (by rfl) T.n_str (by decide +kernel) (SE.var 3)))) (SW.and1 (ST.ne hu (SE.fn T.d__law_heard (g__law_heard T) mir_len hr (by decide) hgu tkD (by rfl) T.b__law_heard (SA.cons (SE.var 3) SA.nil)) SE.str)))) (SB.one (SS.ret SE.bl)) SB.nil)
    (SB.one (SS.ret (SE.and (SE.fn T.d__law_same (g__law_same T) mir_len hr (by decide) hgu tkD (by rfl) T.b__law_same (SA.cons (SE.glob (v := .ref z.k_ZERO) (by rfl) T.m_ZERO rfl T.c_ZERO) (SA.cons (SE.tup (SA.cons SE.int (SA.cons SE.int SA.nil))) SA.nil))) (SE.one (SE.fn T.d__law_same (g__law_same T) mir_len hr (by decide) hgu tkD (by rfl) T.b__law_same (SA.cons (SE.glob (v := .ref z.k_ONE) (by rfl) T.m_ONE rfl T.c_ONE) (SA.cons (SE.tup (SA.cons SE.int (SA.cons SE.int SA.nil))) SA.nil)))))))))))
end
end LW
set_option Elab.async false
set_option linter.all false
set_option maxRecDepth 100000
set_option maxHeartbeats 8000000
namespace LW
open PySem PySem.Spec PyProof.Rows L2 V2
open PySem.W (Frag)
theorem all_mk {l : PySem.W.OpenLaw} {w : World} {K : Frag} {h : Heap} {mg : Str → Option Value} {fa : Addr} (X : K.In h) (G : h.Ns mainGlobals mg) (hfa : mg "law" = some (.ref fa))
    {f0 : Addr} {od0 an0 : Option Addr} {sl0 : Array (Option Value)} {oc0 kV0 dc0 pm0 cd0 ct0 : Value}
    {f1 : Addr} {od1 an1 : Option Addr} {sl1 : Array (Option Value)} {oc1 kV1 dc1 pm1 cd1 ct1 : Value}
    {f2 : Addr} {od2 an2 : Option Addr} {sl2 : Array (Option Value)} {oc2 kV2 dc2 pm2 cd2 ct2 : Value}
    {f3 : Addr} {od3 an3 : Option Addr} {sl3 : Array (Option Value)} {oc3 kV3 dc3 pm3 cd3 ct3 : Value}
    {f4 : Addr} {od4 an4 : Option Addr} {sl4 : Array (Option Value)} {oc4 kV4 dc4 pm4 cd4 ct4 : Value}
    {f5 : Addr} {od5 an5 : Option Addr} {sl5 : Array (Option Value)} {oc5 kV5 dc5 pm5 cd5 ct5 : Value}
    {f6 : Addr} {od6 an6 : Option Addr} {sl6 : Array (Option Value)} {oc6 kV6 dc6 pm6 cd6 ct6 : Value}
    {f7 : Addr} {od7 an7 : Option Addr} {sl7 : Array (Option Value)} {oc7 kV7 dc7 pm7 cd7 ct7 : Value}
    {f8 : Addr} {od8 an8 : Option Addr} {sl8 : Array (Option Value)} {oc8 kV8 dc8 pm8 cd8 ct8 : Value}
    {f9 : Addr} {od9 an9 : Option Addr} {sl9 : Array (Option Value)} {oc9 kV9 dc9 pm9 cd9 ct9 : Value}
    {f10 : Addr} {od10 an10 : Option Addr} {sl10 : Array (Option Value)} {oc10 kV10 dc10 pm10 cd10 ct10 : Value}
    {f11 : Addr} {od11 an11 : Option Addr} {sl11 : Array (Option Value)} {oc11 kV11 dc11 pm11 cd11 ct11 : Value}
    {f12 : Addr} {od12 an12 : Option Addr} {sl12 : Array (Option Value)} {oc12 kV12 dc12 pm12 cd12 ct12 : Value}
    {f13 : Addr} {od13 an13 : Option Addr} {sl13 : Array (Option Value)} {oc13 kV13 dc13 pm13 cd13 ct13 : Value}
    {f14 : Addr} {od14 an14 : Option Addr} {sl14 : Array (Option Value)} {oc14 kV14 dc14 pm14 cd14 ct14 : Value}
    {f15 : Addr} {od15 an15 : Option Addr} {sl15 : Array (Option Value)} {oc15 kV15 dc15 pm15 cd15 ct15 : Value}
    {f16 : Addr} {od16 an16 : Option Addr} {sl16 : Array (Option Value)} {oc16 kV16 dc16 pm16 cd16 ct16 : Value}
    {f17 : Addr} {od17 an17 : Option Addr} {sl17 : Array (Option Value)} {oc17 kV17 dc17 pm17 cd17 ct17 : Value}
    {f18 : Addr} {od18 an18 : Option Addr} {sl18 : Array (Option Value)} {oc18 kV18 dc18 pm18 cd18 ct18 : Value}
    {f19 : Addr} {od19 an19 : Option Addr} {sl19 : Array (Option Value)} {oc19 kV19 dc19 pm19 cd19 ct19 : Value}
    {f20 : Addr} {od20 an20 : Option Addr} {sl20 : Array (Option Value)} {oc20 kV20 dc20 pm20 cd20 ct20 : Value}
    {f21 : Addr} {od21 an21 : Option Addr} {sl21 : Array (Option Value)} {oc21 kV21 dc21 pm21 cd21 ct21 : Value}
    {f22 : Addr} {od22 an22 : Option Addr} {sl22 : Array (Option Value)} {oc22 kV22 dc22 pm22 cd22 ct22 : Value}
    {f23 : Addr} {od23 an23 : Option Addr} {sl23 : Array (Option Value)} {oc23 kV23 dc23 pm23 cd23 ct23 : Value}
    {f24 : Addr} {od24 an24 : Option Addr} {sl24 : Array (Option Value)} {oc24 kV24 dc24 pm24 cd24 ct24 : Value}
    {f25 : Addr} {od25 an25 : Option Addr} {sl25 : Array (Option Value)} {oc25 kV25 dc25 pm25 cd25 ct25 : Value}
    {f26 : Addr} {od26 an26 : Option Addr} {sl26 : Array (Option Value)} {oc26 kV26 dc26 pm26 cd26 ct26 : Value}
    {f27 : Addr} {od27 an27 : Option Addr} {sl27 : Array (Option Value)} {oc27 kV27 dc27 pm27 cd27 ct27 : Value}
    {f28 : Addr} {od28 an28 : Option Addr} {sl28 : Array (Option Value)} {oc28 kV28 dc28 pm28 cd28 ct28 : Value}
    {f29 : Addr} {od29 an29 : Option Addr} {sl29 : Array (Option Value)} {oc29 kV29 dc29 pm29 cd29 ct29 : Value}
    {C_FieldError : Addr}
    {C_InvalidFraction : Addr}
    {C_InvalidSize : Addr}
    {C_InvalidText : Addr}
    {I_InvalidFraction N_InvalidFraction : Addr} {nm_InvalidFraction qn_InvalidFraction : Str} {bs_InvalidFraction bm_InvalidFraction sub_InvalidFraction : List Value} {sn_InvalidFraction : List Str} {ab_InvalidFraction : Bool} {co_InvalidFraction : Option Bool} {dd_InvalidFraction od_InvalidFraction an_InvalidFraction : Option Addr} {m0_InvalidFraction m1_InvalidFraction m2_InvalidFraction m3_InvalidFraction m5_InvalidFraction : Option Value} {oc_InvalidFraction dc_InvalidFraction pm_InvalidFraction cd_InvalidFraction ct_InvalidFraction : Value} {sl_InvalidFraction : Array (Option Value)}
    {I_InvalidSize N_InvalidSize : Addr} {nm_InvalidSize qn_InvalidSize : Str} {bs_InvalidSize bm_InvalidSize sub_InvalidSize : List Value} {sn_InvalidSize : List Str} {ab_InvalidSize : Bool} {co_InvalidSize : Option Bool} {dd_InvalidSize od_InvalidSize an_InvalidSize : Option Addr} {m0_InvalidSize m1_InvalidSize m2_InvalidSize m3_InvalidSize m5_InvalidSize : Option Value} {oc_InvalidSize dc_InvalidSize pm_InvalidSize cd_InvalidSize ct_InvalidSize : Value} {sl_InvalidSize : Array (Option Value)}
    {I_InvalidText N_InvalidText : Addr} {nm_InvalidText qn_InvalidText : Str} {bs_InvalidText bm_InvalidText sub_InvalidText : List Value} {sn_InvalidText : List Str} {ab_InvalidText : Bool} {co_InvalidText : Option Bool} {dd_InvalidText od_InvalidText an_InvalidText : Option Addr} {m0_InvalidText m1_InvalidText m2_InvalidText m3_InvalidText m5_InvalidText : Option Value} {oc_InvalidText dc_InvalidText pm_InvalidText cd_InvalidText ct_InvalidText : Value} {sl_InvalidText : Array (Option Value)}
    {Q_ONE : Addr} {qd_ONE : Option Addr} {qs_ONE : Array (Option Value)} {qn_c_ONE : Nat} {qt0_ONE : Tok} {qt1_ONE : Tok}
    {Q_ZERO : Addr} {qd_ZERO : Option Addr} {qs_ZERO : Array (Option Value)} {qn_c_ZERO : Nat} {qt0_ZERO : Tok} {qt1_ZERO : Tok}
    (a0 : PySem.W.nsIn K mainGlobals "is_number_text" = some (some (.ref f0)))
    (l0 : K.lookup f0 = some ⟨oc0, od0, .func (PySem.W.fnOf "is_number_text" "is_number_text" (defArgs s_is_number_text) (defBody s_is_number_text) (defScope s_is_number_text) .none kV0 dc0 pm0 an0 cd0 ct0), sl0⟩)
    (c0 : PySem.W.codeIn K cd0 "is_number_text" = true)
    (k0 : PySem.W.keepIn K (.ref f0) = true)
    (a1 : PySem.W.nsIn K mainGlobals "is_whole_text" = some (some (.ref f1)))
    (l1 : K.lookup f1 = some ⟨oc1, od1, .func (PySem.W.fnOf "is_whole_text" "is_whole_text" (defArgs s_is_whole_text) (defBody s_is_whole_text) (defScope s_is_whole_text) .none kV1 dc1 pm1 an1 cd1 ct1), sl1⟩)
    (c1 : PySem.W.codeIn K cd1 "is_whole_text" = true)
    (k1 : PySem.W.keepIn K (.ref f1) = true)
    (a2 : PySem.W.nsIn K mainGlobals "is_int" = some (some (.ref f2)))
    (l2 : K.lookup f2 = some ⟨oc2, od2, .func (PySem.W.fnOf "is_int" "is_int" (defArgs s_is_int) (defBody s_is_int) (defScope s_is_int) .none kV2 dc2 pm2 an2 cd2 ct2), sl2⟩)
    (c2 : PySem.W.codeIn K cd2 "is_int" = true)
    (k2 : PySem.W.keepIn K (.ref f2) = true)
    (a3 : PySem.W.nsIn K mainGlobals "is_tuple_of" = some (some (.ref f3)))
    (l3 : K.lookup f3 = some ⟨oc3, od3, .func (PySem.W.fnOf "is_tuple_of" "is_tuple_of" (defArgs s_is_tuple_of) (defBody s_is_tuple_of) (defScope s_is_tuple_of) .none kV3 dc3 pm3 an3 cd3 ct3), sl3⟩)
    (c3 : PySem.W.codeIn K cd3 "is_tuple_of" = true)
    (k3 : PySem.W.keepIn K (.ref f3) = true)
    (a4 : PySem.W.nsIn K mainGlobals "are_ints" = some (some (.ref f4)))
    (l4 : K.lookup f4 = some ⟨oc4, od4, .func (PySem.W.fnOf "are_ints" "are_ints" (defArgs s_are_ints) (defBody s_are_ints) (defScope s_are_ints) .none kV4 dc4 pm4 an4 cd4 ct4), sl4⟩)
    (c4 : PySem.W.codeIn K cd4 "are_ints" = true)
    (k4 : PySem.W.keepIn K (.ref f4) = true)
    (a5 : PySem.W.nsIn K mainGlobals "_fault_of" = some (some (.ref f5)))
    (l5 : K.lookup f5 = some ⟨oc5, od5, .func (PySem.W.fnOf "_fault_of" "_fault_of" (defArgs s__fault_of) (defBody s__fault_of) (defScope s__fault_of) .none kV5 dc5 pm5 an5 cd5 ct5), sl5⟩)
    (c5 : PySem.W.codeIn K cd5 "_fault_of" = true)
    (k5 : PySem.W.keepIn K (.ref f5) = true)
    (a6 : PySem.W.nsIn K mainGlobals "need_fraction" = some (some (.ref f6)))
    (l6 : K.lookup f6 = some ⟨oc6, od6, .func (PySem.W.fnOf "need_fraction" "need_fraction" (defArgs s_need_fraction) (defBody s_need_fraction) (defScope s_need_fraction) .none kV6 dc6 pm6 an6 cd6 ct6), sl6⟩)
    (c6 : PySem.W.codeIn K cd6 "need_fraction" = true)
    (k6 : PySem.W.keepIn K (.ref f6) = true)
    (a7 : PySem.W.nsIn K mainGlobals "is_fraction" = some (some (.ref f7)))
    (l7 : K.lookup f7 = some ⟨oc7, od7, .func (PySem.W.fnOf "is_fraction" "is_fraction" (defArgs s_is_fraction) (defBody s_is_fraction) (defScope s_is_fraction) .none kV7 dc7 pm7 an7 cd7 ct7), sl7⟩)
    (c7 : PySem.W.codeIn K cd7 "is_fraction" = true)
    (k7 : PySem.W.keepIn K (.ref f7) = true)
    (a8 : PySem.W.nsIn K mainGlobals "fraction" = some (some (.ref f8)))
    (l8 : K.lookup f8 = some ⟨oc8, od8, .func (PySem.W.fnOf "fraction" "fraction" (defArgs s_fraction) (defBody s_fraction) (defScope s_fraction) .none kV8 dc8 pm8 an8 cd8 ct8), sl8⟩)
    (c8 : PySem.W.codeIn K cd8 "fraction" = true)
    (k8 : PySem.W.keepIn K (.ref f8) = true)
    (a9 : PySem.W.nsIn K mainGlobals "whole" = some (some (.ref f9)))
    (l9 : K.lookup f9 = some ⟨oc9, od9, .func (PySem.W.fnOf "whole" "whole" (defArgs s_whole) (defBody s_whole) (defScope s_whole) .none kV9 dc9 pm9 an9 cd9 ct9), sl9⟩)
    (c9 : PySem.W.codeIn K cd9 "whole" = true)
    (k9 : PySem.W.keepIn K (.ref f9) = true)
    (a10 : PySem.W.nsIn K mainGlobals "fraction_text" = some (some (.ref f10)))
    (l10 : K.lookup f10 = some ⟨oc10, od10, .func (PySem.W.fnOf "fraction_text" "fraction_text" (defArgs s_fraction_text) (defBody s_fraction_text) (defScope s_fraction_text) .none kV10 dc10 pm10 an10 cd10 ct10), sl10⟩)
    (c10 : PySem.W.codeIn K cd10 "fraction_text" = true)
    (k10 : PySem.W.keepIn K (.ref f10) = true)
    (a11 : PySem.W.nsIn K mainGlobals "read_fraction" = some (some (.ref f11)))
    (l11 : K.lookup f11 = some ⟨oc11, od11, .func (PySem.W.fnOf "read_fraction" "read_fraction" (defArgs s_read_fraction) (defBody s_read_fraction) (defScope s_read_fraction) .none kV11 dc11 pm11 an11 cd11 ct11), sl11⟩)
    (c11 : PySem.W.codeIn K cd11 "read_fraction" = true)
    (k11 : PySem.W.keepIn K (.ref f11) = true)
    (a12 : PySem.W.nsIn K mainGlobals "_law_source" = some (some (.ref f12)))
    (l12 : K.lookup f12 = some ⟨oc12, od12, .func (PySem.W.fnOf "_law_source" "_law_source" (defArgs s__law_source) (defBody s__law_source) (defScope s__law_source) .none kV12 dc12 pm12 an12 cd12 ct12), sl12⟩)
    (c12 : PySem.W.codeIn K cd12 "_law_source" = true)
    (k12 : PySem.W.keepIn K (.ref f12) = true)
    (a13 : PySem.W.nsIn K mainGlobals "_law_any" = some (some (.ref f13)))
    (l13 : K.lookup f13 = some ⟨oc13, od13, .func (PySem.W.fnOf "_law_any" "_law_any" (defArgs s__law_any) (defBody s__law_any) (defScope s__law_any) .none kV13 dc13 pm13 an13 cd13 ct13), sl13⟩)
    (c13 : PySem.W.codeIn K cd13 "_law_any" = true)
    (k13 : PySem.W.keepIn K (.ref f13) = true)
    (a14 : PySem.W.nsIn K mainGlobals "_law_of" = some (some (.ref f14)))
    (l14 : K.lookup f14 = some ⟨oc14, od14, .func (PySem.W.fnOf "_law_of" "_law_of" (defArgs s__law_of) (defBody s__law_of) (defScope s__law_of) .none kV14 dc14 pm14 an14 cd14 ct14), sl14⟩)
    (c14 : PySem.W.codeIn K cd14 "_law_of" = true)
    (k14 : PySem.W.keepIn K (.ref f14) = true)
    (a15 : PySem.W.nsIn K mainGlobals "_law_common" = some (some (.ref f15)))
    (l15 : K.lookup f15 = some ⟨oc15, od15, .func (PySem.W.fnOf "_law_common" "_law_common" (defArgs s__law_common) (defBody s__law_common) (defScope s__law_common) .none kV15 dc15 pm15 an15 cd15 ct15), sl15⟩)
    (c15 : PySem.W.codeIn K cd15 "_law_common" = true)
    (k15 : PySem.W.keepIn K (.ref f15) = true)
    (a16 : PySem.W.nsIn K mainGlobals "_law_low" = some (some (.ref f16)))
    (l16 : K.lookup f16 = some ⟨oc16, od16, .func (PySem.W.fnOf "_law_low" "_law_low" (defArgs s__law_low) (defBody s__law_low) (defScope s__law_low) .none kV16 dc16 pm16 an16 cd16 ct16), sl16⟩)
    (c16 : PySem.W.codeIn K cd16 "_law_low" = true)
    (k16 : PySem.W.keepIn K (.ref f16) = true)
    (a17 : PySem.W.nsIn K mainGlobals "_law_same" = some (some (.ref f17)))
    (l17 : K.lookup f17 = some ⟨oc17, od17, .func (PySem.W.fnOf "_law_same" "_law_same" (defArgs s__law_same) (defBody s__law_same) (defScope s__law_same) .none kV17 dc17 pm17 an17 cd17 ct17), sl17⟩)
    (c17 : PySem.W.codeIn K cd17 "_law_same" = true)
    (k17 : PySem.W.keepIn K (.ref f17) = true)
    (a18 : PySem.W.nsIn K mainGlobals "_law_size" = some (some (.ref f18)))
    (l18 : K.lookup f18 = some ⟨oc18, od18, .func (PySem.W.fnOf "_law_size" "_law_size" (defArgs s__law_size) (defBody s__law_size) (defScope s__law_size) .none kV18 dc18 pm18 an18 cd18 ct18), sl18⟩)
    (c18 : PySem.W.codeIn K cd18 "_law_size" = true)
    (k18 : PySem.W.keepIn K (.ref f18) = true)
    (a19 : PySem.W.nsIn K mainGlobals "_law_thing" = some (some (.ref f19)))
    (l19 : K.lookup f19 = some ⟨oc19, od19, .func (PySem.W.fnOf "_law_thing" "_law_thing" (defArgs s__law_thing) (defBody s__law_thing) (defScope s__law_thing) .none kV19 dc19 pm19 an19 cd19 ct19), sl19⟩)
    (c19 : PySem.W.codeIn K cd19 "_law_thing" = true)
    (k19 : PySem.W.keepIn K (.ref f19) = true)
    (a20 : PySem.W.nsIn K mainGlobals "_law_candidate" = some (some (.ref f20)))
    (l20 : K.lookup f20 = some ⟨oc20, od20, .func (PySem.W.fnOf "_law_candidate" "_law_candidate" (defArgs s__law_candidate) (defBody s__law_candidate) (defScope s__law_candidate) .none kV20 dc20 pm20 an20 cd20 ct20), sl20⟩)
    (c20 : PySem.W.codeIn K cd20 "_law_candidate" = true)
    (k20 : PySem.W.keepIn K (.ref f20) = true)
    (a21 : PySem.W.nsIn K mainGlobals "_law_is_int" = some (some (.ref f21)))
    (l21 : K.lookup f21 = some ⟨oc21, od21, .func (PySem.W.fnOf "_law_is_int" "_law_is_int" (defArgs s__law_is_int) (defBody s__law_is_int) (defScope s__law_is_int) .none kV21 dc21 pm21 an21 cd21 ct21), sl21⟩)
    (c21 : PySem.W.codeIn K cd21 "_law_is_int" = true)
    (k21 : PySem.W.keepIn K (.ref f21) = true)
    (a22 : PySem.W.nsIn K mainGlobals "_law_wrong" = some (some (.ref f22)))
    (l22 : K.lookup f22 = some ⟨oc22, od22, .func (PySem.W.fnOf "_law_wrong" "_law_wrong" (defArgs s__law_wrong) (defBody s__law_wrong) (defScope s__law_wrong) .none kV22 dc22 pm22 an22 cd22 ct22), sl22⟩)
    (c22 : PySem.W.codeIn K cd22 "_law_wrong" = true)
    (k22 : PySem.W.keepIn K (.ref f22) = true)
    (a23 : PySem.W.nsIn K mainGlobals "_law_told" = some (some (.ref f23)))
    (l23 : K.lookup f23 = some ⟨oc23, od23, .func (PySem.W.fnOf "_law_told" "_law_told" (defArgs s__law_told) (defBody s__law_told) (defScope s__law_told) .none kV23 dc23 pm23 an23 cd23 ct23), sl23⟩)
    (c23 : PySem.W.codeIn K cd23 "_law_told" = true)
    (k23 : PySem.W.keepIn K (.ref f23) = true)
    (a24 : PySem.W.nsIn K mainGlobals "_law_quotient" = some (some (.ref f24)))
    (l24 : K.lookup f24 = some ⟨oc24, od24, .func (PySem.W.fnOf "_law_quotient" "_law_quotient" (defArgs s__law_quotient) (defBody s__law_quotient) (defScope s__law_quotient) .none kV24 dc24 pm24 an24 cd24 ct24), sl24⟩)
    (c24 : PySem.W.codeIn K cd24 "_law_quotient" = true)
    (k24 : PySem.W.keepIn K (.ref f24) = true)
    (a25 : PySem.W.nsIn K mainGlobals "_law_read" = some (some (.ref f25)))
    (l25 : K.lookup f25 = some ⟨oc25, od25, .func (PySem.W.fnOf "_law_read" "_law_read" (defArgs s__law_read) (defBody s__law_read) (defScope s__law_read) .none kV25 dc25 pm25 an25 cd25 ct25), sl25⟩)
    (c25 : PySem.W.codeIn K cd25 "_law_read" = true)
    (k25 : PySem.W.keepIn K (.ref f25) = true)
    (a26 : PySem.W.nsIn K mainGlobals "_law_text" = some (some (.ref f26)))
    (l26 : K.lookup f26 = some ⟨oc26, od26, .func (PySem.W.fnOf "_law_text" "_law_text" (defArgs s__law_text) (defBody s__law_text) (defScope s__law_text) .none kV26 dc26 pm26 an26 cd26 ct26), sl26⟩)
    (c26 : PySem.W.codeIn K cd26 "_law_text" = true)
    (k26 : PySem.W.keepIn K (.ref f26) = true)
    (a27 : PySem.W.nsIn K mainGlobals "_law_bent" = some (some (.ref f27)))
    (l27 : K.lookup f27 = some ⟨oc27, od27, .func (PySem.W.fnOf "_law_bent" "_law_bent" (defArgs s__law_bent) (defBody s__law_bent) (defScope s__law_bent) .none kV27 dc27 pm27 an27 cd27 ct27), sl27⟩)
    (c27 : PySem.W.codeIn K cd27 "_law_bent" = true)
    (k27 : PySem.W.keepIn K (.ref f27) = true)
    (a28 : PySem.W.nsIn K mainGlobals "_law_heard" = some (some (.ref f28)))
    (l28 : K.lookup f28 = some ⟨oc28, od28, .func (PySem.W.fnOf "_law_heard" "_law_heard" (defArgs s__law_heard) (defBody s__law_heard) (defScope s__law_heard) .none kV28 dc28 pm28 an28 cd28 ct28), sl28⟩)
    (c28 : PySem.W.codeIn K cd28 "_law_heard" = true)
    (k28 : PySem.W.keepIn K (.ref f28) = true)
    (a29 : PySem.W.nsIn K mainGlobals "law" = some (some (.ref f29)))
    (l29 : K.lookup f29 = some ⟨oc29, od29, .func (PySem.W.fnOf "law" "law" (defArgs s_law) (defBody s_law) (defScope s_law) .none kV29 dc29 pm29 an29 cd29 ct29), sl29⟩)
    (c29 : PySem.W.codeIn K cd29 "law" = true)
    (k29 : PySem.W.keepIn K (.ref f29) = true)
    (z_abs : PySem.W.nsIn K mainGlobals "abs" = some none)
    (z_all : PySem.W.nsIn K mainGlobals "all" = some none)
    (z_bool : PySem.W.nsIn K mainGlobals "bool" = some none)
    (m_gcd : PySem.W.nsIn K mainGlobals "gcd" = some (some (.builtin "math.gcd")))
    (z_int : PySem.W.nsIn K mainGlobals "int" = some none)
    (z_isinstance : PySem.W.nsIn K mainGlobals "isinstance" = some none)
    (z_len : PySem.W.nsIn K mainGlobals "len" = some none)
    (z_range : PySem.W.nsIn K mainGlobals "range" = some none)
    (z_repr : PySem.W.nsIn K mainGlobals "repr" = some none)
    (z_str : PySem.W.nsIn K mainGlobals "str" = some none)
    (z_tuple : PySem.W.nsIn K mainGlobals "tuple" = some none)
    (g_FieldError : PySem.W.nsIn K mainGlobals "FieldError" = some (some (.ref C_FieldError)))
    (g_InvalidFraction : PySem.W.nsIn K mainGlobals "InvalidFraction" = some (some (.ref C_InvalidFraction)))
    (g_InvalidSize : PySem.W.nsIn K mainGlobals "InvalidSize" = some (some (.ref C_InvalidSize)))
    (g_InvalidText : PySem.W.nsIn K mainGlobals "InvalidText" = some (some (.ref C_InvalidText)))
    (xl_InvalidFraction : K.lookup C_InvalidFraction = some (excClassObj nm_InvalidFraction qn_InvalidFraction C_InvalidFraction N_InvalidFraction bs_InvalidFraction bm_InvalidFraction true sn_InvalidFraction sub_InvalidFraction ab_InvalidFraction co_InvalidFraction dd_InvalidFraction m0_InvalidFraction m1_InvalidFraction m2_InvalidFraction m3_InvalidFraction m5_InvalidFraction "Exception.__new__"))
    (xr_InvalidFraction : Refs bm_InvalidFraction)
    (xk_InvalidFraction : PySem.W.keepIn K (.ref C_InvalidFraction) = true)
    (xe_InvalidFraction : PySem.W.subIn K (.ref C_InvalidFraction) (.type "BaseException") = some true)
    (xt_InvalidFraction : PySem.W.typeIn K (.ref C_InvalidFraction) = some (.type "type"))
    (xh_InvalidFraction : PySem.W.hasDictIn K C_InvalidFraction = true)
    (xs_InvalidFraction : PySem.W.findIn K (.ref C_InvalidFraction) "__setattr__" = some (some (.builtin "object.__setattr__")))
    (xn_InvalidFraction : PySem.W.findIn K (.ref C_InvalidFraction) "at" = some none)
    (xi_InvalidFraction : PySem.W.findIn K (.ref C_InvalidFraction) "__init__" = some (some (.ref I_InvalidFraction)))
    (xu_InvalidFraction : PySem.W.typeIn K (.ref I_InvalidFraction) = some (.type "function"))
    (xf_InvalidFraction : K.lookup I_InvalidFraction = some ⟨oc_InvalidFraction, od_InvalidFraction, .func (PySem.W.fnOf "__init__" "InvalidFraction.__init__" (XI.iA "at" ⟨7, 17, 7, 21⟩ ⟨7, 23, 7, 25⟩) (XI.iB "at" ⟨8, 8, 8, 12⟩ ⟨8, 8, 8, 15⟩ ⟨8, 18, 8, 20⟩ ⟨8, 8, 8, 20⟩) (XI.iS "at") .none .none dc_InvalidFraction pm_InvalidFraction an_InvalidFraction cd_InvalidFraction ct_InvalidFraction), sl_InvalidFraction⟩)
    (xc_InvalidFraction : PySem.W.codeIn K cd_InvalidFraction "InvalidFraction.__init__" = true)
    (xl_InvalidSize : K.lookup C_InvalidSize = some (excClassObj nm_InvalidSize qn_InvalidSize C_InvalidSize N_InvalidSize bs_InvalidSize bm_InvalidSize true sn_InvalidSize sub_InvalidSize ab_InvalidSize co_InvalidSize dd_InvalidSize m0_InvalidSize m1_InvalidSize m2_InvalidSize m3_InvalidSize m5_InvalidSize "Exception.__new__"))
    (xr_InvalidSize : Refs bm_InvalidSize)
    (xk_InvalidSize : PySem.W.keepIn K (.ref C_InvalidSize) = true)
    (xe_InvalidSize : PySem.W.subIn K (.ref C_InvalidSize) (.type "BaseException") = some true)
    (xt_InvalidSize : PySem.W.typeIn K (.ref C_InvalidSize) = some (.type "type"))
    (xh_InvalidSize : PySem.W.hasDictIn K C_InvalidSize = true)
    (xs_InvalidSize : PySem.W.findIn K (.ref C_InvalidSize) "__setattr__" = some (some (.builtin "object.__setattr__")))
    (xn_InvalidSize : PySem.W.findIn K (.ref C_InvalidSize) "word" = some none)
    (xi_InvalidSize : PySem.W.findIn K (.ref C_InvalidSize) "__init__" = some (some (.ref I_InvalidSize)))
    (xu_InvalidSize : PySem.W.typeIn K (.ref I_InvalidSize) = some (.type "function"))
    (xf_InvalidSize : K.lookup I_InvalidSize = some ⟨oc_InvalidSize, od_InvalidSize, .func (PySem.W.fnOf "__init__" "InvalidSize.__init__" (XI.iA "word" ⟨15, 17, 15, 21⟩ ⟨15, 23, 15, 27⟩) (XI.iB "word" ⟨16, 8, 16, 12⟩ ⟨16, 8, 16, 17⟩ ⟨16, 20, 16, 24⟩ ⟨16, 8, 16, 24⟩) (XI.iS "word") .none .none dc_InvalidSize pm_InvalidSize an_InvalidSize cd_InvalidSize ct_InvalidSize), sl_InvalidSize⟩)
    (xc_InvalidSize : PySem.W.codeIn K cd_InvalidSize "InvalidSize.__init__" = true)
    (xl_InvalidText : K.lookup C_InvalidText = some (excClassObj nm_InvalidText qn_InvalidText C_InvalidText N_InvalidText bs_InvalidText bm_InvalidText true sn_InvalidText sub_InvalidText ab_InvalidText co_InvalidText dd_InvalidText m0_InvalidText m1_InvalidText m2_InvalidText m3_InvalidText m5_InvalidText "Exception.__new__"))
    (xr_InvalidText : Refs bm_InvalidText)
    (xk_InvalidText : PySem.W.keepIn K (.ref C_InvalidText) = true)
    (xe_InvalidText : PySem.W.subIn K (.ref C_InvalidText) (.type "BaseException") = some true)
    (xt_InvalidText : PySem.W.typeIn K (.ref C_InvalidText) = some (.type "type"))
    (xh_InvalidText : PySem.W.hasDictIn K C_InvalidText = true)
    (xs_InvalidText : PySem.W.findIn K (.ref C_InvalidText) "__setattr__" = some (some (.builtin "object.__setattr__")))
    (xn_InvalidText : PySem.W.findIn K (.ref C_InvalidText) "at" = some none)
    (xi_InvalidText : PySem.W.findIn K (.ref C_InvalidText) "__init__" = some (some (.ref I_InvalidText)))
    (xu_InvalidText : PySem.W.typeIn K (.ref I_InvalidText) = some (.type "function"))
    (xf_InvalidText : K.lookup I_InvalidText = some ⟨oc_InvalidText, od_InvalidText, .func (PySem.W.fnOf "__init__" "InvalidText.__init__" (XI.iA "at" ⟨11, 17, 11, 21⟩ ⟨11, 23, 11, 25⟩) (XI.iB "at" ⟨12, 8, 12, 12⟩ ⟨12, 8, 12, 15⟩ ⟨12, 18, 12, 20⟩ ⟨12, 8, 12, 20⟩) (XI.iS "at") .none .none dc_InvalidText pm_InvalidText an_InvalidText cd_InvalidText ct_InvalidText), sl_InvalidText⟩)
    (xc_InvalidText : PySem.W.codeIn K cd_InvalidText "InvalidText.__init__" = true)
    (ga_InvalidFraction : PySem.W.findIn K (.ref C_InvalidFraction) "__getattribute__" = some (some (.builtin "BaseException.__getattribute__")))
    (gg_InvalidFraction : PySem.W.findIn K (.ref C_InvalidFraction) "__getattr__" = some none)
    (ge_InvalidFraction : PySem.W.subIn K (.ref C_InvalidFraction) (.type "BaseException") = some true)
    (gh_InvalidFraction : PySem.W.hasDictIn K C_InvalidFraction = true)
    (ga_InvalidSize : PySem.W.findIn K (.ref C_InvalidSize) "__getattribute__" = some (some (.builtin "BaseException.__getattribute__")))
    (gg_InvalidSize : PySem.W.findIn K (.ref C_InvalidSize) "__getattr__" = some none)
    (ge_InvalidSize : PySem.W.subIn K (.ref C_InvalidSize) (.type "BaseException") = some true)
    (gh_InvalidSize : PySem.W.hasDictIn K C_InvalidSize = true)
    (ga_InvalidText : PySem.W.findIn K (.ref C_InvalidText) "__getattribute__" = some (some (.builtin "BaseException.__getattribute__")))
    (gg_InvalidText : PySem.W.findIn K (.ref C_InvalidText) "__getattr__" = some none)
    (ge_InvalidText : PySem.W.subIn K (.ref C_InvalidText) (.type "BaseException") = some true)
    (gh_InvalidText : PySem.W.hasDictIn K C_InvalidText = true)
    (nf_InvalidFraction_at : PySem.W.findIn K (.ref C_InvalidFraction) "at" = some none)
    (nf_InvalidSize_word : PySem.W.findIn K (.ref C_InvalidSize) "word" = some none)
    (nf_InvalidText_at : PySem.W.findIn K (.ref C_InvalidText) "at" = some none)
    (oc_get : PySem.W.specialIn K (.builtin "object.__class__") "__get__" = some (some (.builtin "getset_descriptor.__get__")))
    (oc_tak : PySem.W.takesIn K (.builtin "object.__class__") = some true)
    (ja_InvalidFraction : PySem.W.findIn K (.ref C_InvalidFraction) "__class__" = some (some (.builtin "object.__class__")))
    (jm_InvalidFraction : PySem.W.mroIn K C_InvalidFraction (.type "object") = some true)
    (js_InvalidFraction_FieldError : PySem.W.kitOne K (.ref C_InvalidFraction) (.ref C_FieldError) = some true)
    (js_InvalidFraction_InvalidSize : PySem.W.kitOne K (.ref C_InvalidFraction) (.ref C_InvalidSize) = some false)
    (js_InvalidFraction_InvalidText : PySem.W.kitOne K (.ref C_InvalidFraction) (.ref C_InvalidText) = some false)
    (te_InvalidFraction : PySem.W.exmOne K (.ref C_InvalidFraction) (.ref C_InvalidFraction) = some true)
    (te_InvalidSize : PySem.W.exmOne K (.ref C_InvalidSize) (.ref C_InvalidSize) = some true)
    (te_InvalidText : PySem.W.exmOne K (.ref C_InvalidText) (.ref C_InvalidText) = some true)
    (q_ONE : PySem.W.nsIn K mainGlobals "ONE" = some (some (.ref Q_ONE)))
    (ql_ONE : K.lookup Q_ONE = some ⟨.type "tuple", qd_ONE, .seq #[.int 1 qt0_ONE, .int 1 qt1_ONE] qn_c_ONE, qs_ONE⟩)
    (q_ZERO : PySem.W.nsIn K mainGlobals "ZERO" = some (some (.ref Q_ZERO)))
    (ql_ZERO : K.lookup Q_ZERO = some ⟨.type "tuple", qd_ZERO, .seq #[.int 0 qt0_ZERO, .int 1 qt1_ZERO] qn_c_ZERO, qs_ZERO⟩) :
    ∃ fd : FuncData, (∀ (s : Shared) (v : Value), BindsTo s fd ⟨[v], []⟩ [("_law_script", v)]) ∧ ∀ base : Heap, K.In base → base.Ns mainGlobals mg → FnG l.prog w K mg base 7 fa fd ["_law_script"] M_law := by
  have e := hfa.symm.trans (PySem.W.mg_of X G a29)
  cases e
  have F0 := fun_mk (st := s_is_number_text) l0 c0 k0
  have F1 := fun_mk (st := s_is_whole_text) l1 c1 k1
  have F2 := fun_mk (st := s_is_int) l2 c2 k2
  have F3 := fun_mk (st := s_is_tuple_of) l3 c3 k3
  have F4 := fun_mk (st := s_are_ints) l4 c4 k4
  have F5 := fun_mk (st := s__fault_of) l5 c5 k5
  have F6 := fun_mk (st := s_need_fraction) l6 c6 k6
  have F7 := fun_mk (st := s_is_fraction) l7 c7 k7
  have F8 := fun_mk (st := s_fraction) l8 c8 k8
  have F9 := fun_mk (st := s_whole) l9 c9 k9
  have F10 := fun_mk (st := s_fraction_text) l10 c10 k10
  have F11 := fun_mk (st := s_read_fraction) l11 c11 k11
  have F12 := fun_mk (st := s__law_source) l12 c12 k12
  have F13 := fun_mk (st := s__law_any) l13 c13 k13
  have F14 := fun_mk (st := s__law_of) l14 c14 k14
  have F15 := fun_mk (st := s__law_common) l15 c15 k15
  have F16 := fun_mk (st := s__law_low) l16 c16 k16
  have F17 := fun_mk (st := s__law_same) l17 c17 k17
  have F18 := fun_mk (st := s__law_size) l18 c18 k18
  have F19 := fun_mk (st := s__law_thing) l19 c19 k19
  have F20 := fun_mk (st := s__law_candidate) l20 c20 k20
  have F21 := fun_mk (st := s__law_is_int) l21 c21 k21
  have F22 := fun_mk (st := s__law_wrong) l22 c22 k22
  have F23 := fun_mk (st := s__law_told) l23 c23 k23
  have F24 := fun_mk (st := s__law_quotient) l24 c24 k24
  have F25 := fun_mk (st := s__law_read) l25 c25 k25
  have F26 := fun_mk (st := s__law_text) l26 c26 k26
  have F27 := fun_mk (st := s__law_bent) l27 c27 k27
  have F28 := fun_mk (st := s__law_heard) l28 c28 k28
  have F29 := fun_mk (st := s_law) l29 c29 k29
  have X_InvalidFraction : XCls K mg "InvalidFraction" C_InvalidFraction := ⟨PySem.W.mg_of X G g_InvalidFraction, ⟨nm_InvalidFraction, qn_InvalidFraction, N_InvalidFraction, bs_InvalidFraction, _, sn_InvalidFraction, sub_InvalidFraction, ab_InvalidFraction, co_InvalidFraction, dd_InvalidFraction, m0_InvalidFraction, m1_InvalidFraction, m2_InvalidFraction, m3_InvalidFraction, m5_InvalidFraction, xl_InvalidFraction, xr_InvalidFraction⟩, xk_InvalidFraction, xe_InvalidFraction, xt_InvalidFraction, xh_InvalidFraction⟩
  have X_InvalidSize : XCls K mg "InvalidSize" C_InvalidSize := ⟨PySem.W.mg_of X G g_InvalidSize, ⟨nm_InvalidSize, qn_InvalidSize, N_InvalidSize, bs_InvalidSize, _, sn_InvalidSize, sub_InvalidSize, ab_InvalidSize, co_InvalidSize, dd_InvalidSize, m0_InvalidSize, m1_InvalidSize, m2_InvalidSize, m3_InvalidSize, m5_InvalidSize, xl_InvalidSize, xr_InvalidSize⟩, xk_InvalidSize, xe_InvalidSize, xt_InvalidSize, xh_InvalidSize⟩
  have X_InvalidText : XCls K mg "InvalidText" C_InvalidText := ⟨PySem.W.mg_of X G g_InvalidText, ⟨nm_InvalidText, qn_InvalidText, N_InvalidText, bs_InvalidText, _, sn_InvalidText, sub_InvalidText, ab_InvalidText, co_InvalidText, dd_InvalidText, m0_InvalidText, m1_InvalidText, m2_InvalidText, m3_InvalidText, m5_InvalidText, xl_InvalidText, xr_InvalidText⟩, xk_InvalidText, xe_InvalidText, xt_InvalidText, xh_InvalidText⟩
  have T : Txt K mg { a_is_number_text := f0, fd_is_number_text := _, a_is_whole_text := f1, fd_is_whole_text := _, a_is_int := f2, fd_is_int := _, a_is_tuple_of := f3, fd_is_tuple_of := _, a_are_ints := f4, fd_are_ints := _, a__fault_of := f5, fd__fault_of := _, a_need_fraction := f6, fd_need_fraction := _, a_is_fraction := f7, fd_is_fraction := _, a_fraction := f8, fd_fraction := _, a_whole := f9, fd_whole := _, a_fraction_text := f10, fd_fraction_text := _, a_read_fraction := f11, fd_read_fraction := _, a__law_source := f12, fd__law_source := _, a__law_any := f13, fd__law_any := _, a__law_of := f14, fd__law_of := _, a__law_common := f15, fd__law_common := _, a__law_low := f16, fd__law_low := _, a__law_same := f17, fd__law_same := _, a__law_size := f18, fd__law_size := _, a__law_thing := f19, fd__law_thing := _, a__law_candidate := f20, fd__law_candidate := _, a__law_is_int := f21, fd__law_is_int := _, a__law_wrong := f22, fd__law_wrong := _, a__law_told := f23, fd__law_told := _, a__law_quotient := f24, fd__law_quotient := _, a__law_read := f25, fd__law_read := _, a__law_text := f26, fd__law_text := _, a__law_bent := f27, fd__law_bent := _, a__law_heard := f28, fd__law_heard := _, a_law := fa, fd_law := _, c_FieldError := C_FieldError, c_InvalidFraction := C_InvalidFraction, c_InvalidSize := C_InvalidSize, c_InvalidText := C_InvalidText, i_InvalidFraction := I_InvalidFraction, i_InvalidSize := I_InvalidSize, i_InvalidText := I_InvalidText, k_ONE := Q_ONE, k_ZERO := Q_ZERO } := {
    d_is_number_text := ⟨F0, PySem.W.mg_of X G a0, k0⟩
    b_is_number_text := F0.binds fun _ _ _ _ _ _  us hl => match us, hl with | [_], _ => rfl
    d_is_whole_text := ⟨F1, PySem.W.mg_of X G a1, k1⟩
    b_is_whole_text := F1.binds fun _ _ _ _ _ _  us hl => match us, hl with | [_], _ => rfl
    d_is_int := ⟨F2, PySem.W.mg_of X G a2, k2⟩
    b_is_int := F2.binds fun _ _ _ _ _ _  us hl => match us, hl with | [_], _ => rfl
    d_is_tuple_of := ⟨F3, PySem.W.mg_of X G a3, k3⟩
    b_is_tuple_of := F3.binds fun _ _ _ _ _ _  us hl => match us, hl with | [_, _], _ => rfl
    d_are_ints := ⟨F4, PySem.W.mg_of X G a4, k4⟩
    b_are_ints := F4.binds fun _ _ _ _ _ _  us hl => match us, hl with | [_, _], _ => rfl
    d__fault_of := ⟨F5, PySem.W.mg_of X G a5, k5⟩
    b__fault_of := F5.binds fun _ _ _ _ _ _  us hl => match us, hl with | [_], _ => rfl
    d_need_fraction := ⟨F6, PySem.W.mg_of X G a6, k6⟩
    b_need_fraction := F6.binds fun _ _ _ _ _ _  us hl => match us, hl with | [_], _ => rfl
    k_need_fraction_value := fun s us _ hl => match us, hl with | [_], _ => .of_eq rfl
    d_is_fraction := ⟨F7, PySem.W.mg_of X G a7, k7⟩
    b_is_fraction := F7.binds fun _ _ _ _ _ _  us hl => match us, hl with | [_], _ => rfl
    k_is_fraction_value := fun s us _ hl => match us, hl with | [_], _ => .of_eq rfl
    d_fraction := ⟨F8, PySem.W.mg_of X G a8, k8⟩
    b_fraction := F8.binds fun _ _ _ _ _ _  us hl => match us, hl with | [_, _], _ => rfl
    k_fraction_bottom_top := fun s us _ hl => match us, hl with | [_, _], _ => .of_eq rfl
    d_whole := ⟨F9, PySem.W.mg_of X G a9, k9⟩
    b_whole := F9.binds fun _ _ _ _ _ _  us hl => match us, hl with | [_], _ => rfl
    k_whole_number := fun s us _ hl => match us, hl with | [_], _ => .of_eq rfl
    d_fraction_text := ⟨F10, PySem.W.mg_of X G a10, k10⟩
    b_fraction_text := F10.binds fun _ _ _ _ _ _  us hl => match us, hl with | [_], _ => rfl
    k_fraction_text_one := fun s us _ hl => match us, hl with | [_], _ => .of_eq rfl
    d_read_fraction := ⟨F11, PySem.W.mg_of X G a11, k11⟩
    b_read_fraction := F11.binds fun _ _ _ _ _ _  us hl => match us, hl with | [_], _ => rfl
    k_read_fraction_value := fun s us _ hl => match us, hl with | [_], _ => .of_eq rfl
    d__law_source := ⟨F12, PySem.W.mg_of X G a12, k12⟩
    b__law_source := F12.binds fun _ _ _ _ _ _  us hl => match us, hl with | [_], _ => rfl
    d__law_any := ⟨F13, PySem.W.mg_of X G a13, k13⟩
    b__law_any := F13.binds fun _ _ _ _ _ _  us hl => match us, hl with | [_, _], _ => rfl
    d__law_of := ⟨F14, PySem.W.mg_of X G a14, k14⟩
    b__law_of := F14.binds fun _ _ _ _ _ _  us hl => match us, hl with | [_, _], _ => rfl
    d__law_common := ⟨F15, PySem.W.mg_of X G a15, k15⟩
    b__law_common := F15.binds fun _ _ _ _ _ _  us hl => match us, hl with | [_, _], _ => rfl
    d__law_low := ⟨F16, PySem.W.mg_of X G a16, k16⟩
    b__law_low := F16.binds fun _ _ _ _ _ _  us hl => match us, hl with | [_, _], _ => rfl
    d__law_same := ⟨F17, PySem.W.mg_of X G a17, k17⟩
    b__law_same := F17.binds fun _ _ _ _ _ _  us hl => match us, hl with | [_, _], _ => rfl
    d__law_size := ⟨F18, PySem.W.mg_of X G a18, k18⟩
    b__law_size := F18.binds fun _ _ _ _ _ _  us hl => match us, hl with | [_], _ => rfl
    d__law_thing := ⟨F19, PySem.W.mg_of X G a19, k19⟩
    b__law_thing := F19.binds fun _ _ _ _ _ _  us hl => match us, hl with | [_], _ => rfl
    d__law_candidate := ⟨F20, PySem.W.mg_of X G a20, k20⟩
    b__law_candidate := F20.binds fun _ _ _ _ _ _  us hl => match us, hl with | [_], _ => rfl
    d__law_is_int := ⟨F21, PySem.W.mg_of X G a21, k21⟩
    b__law_is_int := F21.binds fun _ _ _ _ _ _  us hl => match us, hl with | [_], _ => rfl
    d__law_wrong := ⟨F22, PySem.W.mg_of X G a22, k22⟩
    b__law_wrong := F22.binds fun _ _ _ _ _ _  us hl => match us, hl with | [_], _ => rfl
    d__law_told := ⟨F23, PySem.W.mg_of X G a23, k23⟩
    b__law_told := F23.binds fun _ _ _ _ _ _  us hl => match us, hl with | [_], _ => rfl
    d__law_quotient := ⟨F24, PySem.W.mg_of X G a24, k24⟩
    b__law_quotient := F24.binds fun _ _ _ _ _ _  us hl => match us, hl with | [_, _], _ => rfl
    d__law_read := ⟨F25, PySem.W.mg_of X G a25, k25⟩
    b__law_read := F25.binds fun _ _ _ _ _ _  us hl => match us, hl with | [_], _ => rfl
    d__law_text := ⟨F26, PySem.W.mg_of X G a26, k26⟩
    b__law_text := F26.binds fun _ _ _ _ _ _  us hl => match us, hl with | [_], _ => rfl
    d__law_bent := ⟨F27, PySem.W.mg_of X G a27, k27⟩
    b__law_bent := F27.binds fun _ _ _ _ _ _  us hl => match us, hl with | [_, _], _ => rfl
    d__law_heard := ⟨F28, PySem.W.mg_of X G a28, k28⟩
    b__law_heard := F28.binds fun _ _ _ _ _ _  us hl => match us, hl with | [_], _ => rfl
    d_law := ⟨F29, PySem.W.mg_of X G a29, k29⟩
    b_law := F29.binds fun _ _ _ _ _ _  us hl => match us, hl with | [_], _ => rfl
    n_abs := PySem.W.mg_none_of X G z_abs
    n_all := PySem.W.mg_none_of X G z_all
    n_bool := PySem.W.mg_none_of X G z_bool
    m_gcd := PySem.W.mg_of X G m_gcd
    n_int := PySem.W.mg_none_of X G z_int
    n_isinstance := PySem.W.mg_none_of X G z_isinstance
    n_len := PySem.W.mg_none_of X G z_len
    n_range := PySem.W.mg_none_of X G z_range
    n_repr := PySem.W.mg_none_of X G z_repr
    n_str := PySem.W.mg_none_of X G z_str
    n_tuple := PySem.W.mg_none_of X G z_tuple
    g_FieldError := PySem.W.mg_of X G g_FieldError
    g_InvalidFraction := PySem.W.mg_of X G g_InvalidFraction
    g_InvalidSize := PySem.W.mg_of X G g_InvalidSize
    g_InvalidText := PySem.W.mg_of X G g_InvalidText
    x_InvalidFraction := XOwn.mk' X_InvalidFraction xs_InvalidFraction xn_InvalidFraction xi_InvalidFraction xu_InvalidFraction ⟨_, _, _, _, _, _, _, _, _, _, _, _, _, _, xf_InvalidFraction, xc_InvalidFraction⟩ xbind_at (by decide) (by decide)
    x_InvalidSize := XOwn.mk' X_InvalidSize xs_InvalidSize xn_InvalidSize xi_InvalidSize xu_InvalidSize ⟨_, _, _, _, _, _, _, _, _, _, _, _, _, _, xf_InvalidSize, xc_InvalidSize⟩ xbind_word (by decide) (by decide)
    x_InvalidText := XOwn.mk' X_InvalidText xs_InvalidText xn_InvalidText xi_InvalidText xu_InvalidText ⟨_, _, _, _, _, _, _, _, _, _, _, _, _, _, xf_InvalidText, xc_InvalidText⟩ xbind_at (by decide) (by decide)
    f_InvalidFraction := ⟨ga_InvalidFraction, gg_InvalidFraction, ge_InvalidFraction, gh_InvalidFraction⟩
    f_InvalidSize := ⟨ga_InvalidSize, gg_InvalidSize, ge_InvalidSize, gh_InvalidSize⟩
    f_InvalidText := ⟨ga_InvalidText, gg_InvalidText, ge_InvalidText, gh_InvalidText⟩
    nf_InvalidFraction_at := nf_InvalidFraction_at
    nf_InvalidSize_word := nf_InvalidSize_word
    nf_InvalidText_at := nf_InvalidText_at
    is_InvalidFraction := ⟨ga_InvalidFraction, gg_InvalidFraction, ge_InvalidFraction, gh_InvalidFraction, ja_InvalidFraction, oc_get, oc_tak, jm_InvalidFraction⟩
    is_InvalidFraction_FieldError := js_InvalidFraction_FieldError
    is_InvalidFraction_InvalidSize := js_InvalidFraction_InvalidSize
    is_InvalidFraction_InvalidText := js_InvalidFraction_InvalidText
    t_InvalidFraction := only_exm (PySem.W.mg_of X G g_InvalidFraction) te_InvalidFraction
    t_InvalidSize := only_exm (PySem.W.mg_of X G g_InvalidSize) te_InvalidSize
    t_InvalidText := only_exm (PySem.W.mg_of X G g_InvalidText) te_InvalidText
    m_ONE := PySem.W.mg_of X G q_ONE
    c_ONE := fun as H => .tup (xs := [.int 1, .int 1]) (.inr ⟨_, _, _, ql_ONE, rfl, rfl, Nat.le_of_ble_eq_true rfl, (.cons ⟨_, rfl⟩ (.cons ⟨_, rfl⟩ .nil))⟩) (.cons (.int _) (.cons (.int _) .nil))
    m_ZERO := PySem.W.mg_of X G q_ZERO
    c_ZERO := fun as H => .tup (xs := [.int 0, .int 1]) (.inr ⟨_, _, _, ql_ZERO, rfl, rfl, Nat.le_of_ble_eq_true rfl, (.cons ⟨_, rfl⟩ (.cons ⟨_, rfl⟩ .nil))⟩) (.cons (.int _) (.cons (.int _) .nil)) }
  exact ⟨PySem.W.fnOf "law" "law" (defArgs s_law) (defBody s_law) (defScope s_law) .none kV29 dc29 pm29 an29 cd29 ct29, fun s v => .of_eq rfl, fun base _ _ => g_law T⟩
end LW

open PySem PySem.W PyProof.Rows
set_option maxRecDepth 100000 in
set_option maxHeartbeats 0 in
theorem PySem.Challenge.cw_leastfield_k01_any_values_as_fractions_a_holds : PySem.Challenge.rw_leastfield_k01_any_values_as_fractions_a.Holds := by
  w_on; o_law; k_head; (case hw => w_witness2)
  k_fill
  refine V2.walkG (l := PySem.Challenge.rw_leastfield_k01_any_values_as_fractions_a) (k := 7) (n := 63) (x := "_law_script") (F := LW.M_law) rfl (by decide) rfl ⟨rfl, by decide, by decide⟩ (fun w h Y => PySem.W.kIn_of Y) ?F (fun ns hl hb => LW.says ns hl hb)
  case F =>
    intro w mg fa h KX G hmg
    refine' LW.all_mk KX G hmg ?a0 ?l0 ?c0 ?k0 ?a1 ?l1 ?c1 ?k1 ?a2 ?l2 ?c2 ?k2 ?a3 ?l3 ?c3 ?k3 ?a4 ?l4 ?c4 ?k4 ?a5 ?l5 ?c5 ?k5 ?a6 ?l6 ?c6 ?k6 ?a7 ?l7 ?c7 ?k7 ?a8 ?l8 ?c8 ?k8 ?a9 ?l9 ?c9 ?k9 ?a10 ?l10 ?c10 ?k10 ?a11 ?l11 ?c11 ?k11 ?a12 ?l12 ?c12 ?k12 ?a13 ?l13 ?c13 ?k13 ?a14 ?l14 ?c14 ?k14 ?a15 ?l15 ?c15 ?k15 ?a16 ?l16 ?c16 ?k16 ?a17 ?l17 ?c17 ?k17 ?a18 ?l18 ?c18 ?k18 ?a19 ?l19 ?c19 ?k19 ?a20 ?l20 ?c20 ?k20 ?a21 ?l21 ?c21 ?k21 ?a22 ?l22 ?c22 ?k22 ?a23 ?l23 ?c23 ?k23 ?a24 ?l24 ?c24 ?k24 ?a25 ?l25 ?c25 ?k25 ?a26 ?l26 ?c26 ?k26 ?a27 ?l27 ?c27 ?k27 ?a28 ?l28 ?c28 ?k28 ?a29 ?l29 ?c29 ?k29 ?z_abs ?z_all ?z_bool ?m_gcd ?z_int ?z_isinstance ?z_len ?z_range ?z_repr ?z_str ?z_tuple ?g_FieldError ?g_InvalidFraction ?g_InvalidSize ?g_InvalidText ?xl_InvalidFraction ?xr_InvalidFraction ?xk_InvalidFraction ?xe_InvalidFraction ?xt_InvalidFraction ?xh_InvalidFraction ?xs_InvalidFraction ?xn_InvalidFraction ?xi_InvalidFraction ?xu_InvalidFraction ?xf_InvalidFraction ?xc_InvalidFraction ?xl_InvalidSize ?xr_InvalidSize ?xk_InvalidSize ?xe_InvalidSize ?xt_InvalidSize ?xh_InvalidSize ?xs_InvalidSize ?xn_InvalidSize ?xi_InvalidSize ?xu_InvalidSize ?xf_InvalidSize ?xc_InvalidSize ?xl_InvalidText ?xr_InvalidText ?xk_InvalidText ?xe_InvalidText ?xt_InvalidText ?xh_InvalidText ?xs_InvalidText ?xn_InvalidText ?xi_InvalidText ?xu_InvalidText ?xf_InvalidText ?xc_InvalidText ?ga_InvalidFraction ?gg_InvalidFraction ?ge_InvalidFraction ?gh_InvalidFraction ?ga_InvalidSize ?gg_InvalidSize ?ge_InvalidSize ?gh_InvalidSize ?ga_InvalidText ?gg_InvalidText ?ge_InvalidText ?gh_InvalidText ?nf_InvalidFraction_at ?nf_InvalidSize_word ?nf_InvalidText_at ?oc_get ?oc_tak ?ja_InvalidFraction ?jm_InvalidFraction ?js_InvalidFraction_FieldError ?js_InvalidFraction_InvalidSize ?js_InvalidFraction_InvalidText ?te_InvalidFraction ?te_InvalidSize ?te_InvalidText ?q_ONE ?ql_ONE ?q_ZERO ?ql_ZERO
    (case a0 => first | k_is | rfl)
    (case l0 => first | k_is | rfl)
    (case c0 => first | k_is | rfl)
    (case k0 => first | k_is | rfl)
    (case a1 => first | k_is | rfl)
    (case l1 => first | k_is | rfl)
    (case c1 => first | k_is | rfl)
    (case k1 => first | k_is | rfl)
    (case a2 => first | k_is | rfl)
    (case l2 => first | k_is | rfl)
    (case c2 => first | k_is | rfl)
    (case k2 => first | k_is | rfl)
    (case a3 => first | k_is | rfl)
    (case l3 => first | k_is | rfl)
    (case c3 => first | k_is | rfl)
    (case k3 => first | k_is | rfl)
    (case a4 => first | k_is | rfl)
    (case l4 => first | k_is | rfl)
    (case c4 => first | k_is | rfl)
    (case k4 => first | k_is | rfl)
    (case a5 => first | k_is | rfl)
    (case l5 => first | k_is | rfl)
    (case c5 => first | k_is | rfl)
    (case k5 => first | k_is | rfl)
    (case a6 => first | k_is | rfl)
    (case l6 => first | k_is | rfl)
    (case c6 => first | k_is | rfl)
    (case k6 => first | k_is | rfl)
    (case a7 => first | k_is | rfl)
    (case l7 => first | k_is | rfl)
    (case c7 => first | k_is | rfl)
    (case k7 => first | k_is | rfl)
    (case a8 => first | k_is | rfl)
    (case l8 => first | k_is | rfl)
    (case c8 => first | k_is | rfl)
    (case k8 => first | k_is | rfl)
    (case a9 => first | k_is | rfl)
    (case l9 => first | k_is | rfl)
    (case c9 => first | k_is | rfl)
    (case k9 => first | k_is | rfl)
    (case a10 => first | k_is | rfl)
    (case l10 => first | k_is | rfl)
    (case c10 => first | k_is | rfl)
    (case k10 => first | k_is | rfl)
    (case a11 => first | k_is | rfl)
    (case l11 => first | k_is | rfl)
    (case c11 => first | k_is | rfl)
    (case k11 => first | k_is | rfl)
    (case a12 => first | k_is | rfl)
    (case l12 => first | k_is | rfl)
    (case c12 => first | k_is | rfl)
    (case k12 => first | k_is | rfl)
    (case a13 => first | k_is | rfl)
    (case l13 => first | k_is | rfl)
    (case c13 => first | k_is | rfl)
    (case k13 => first | k_is | rfl)
    (case a14 => first | k_is | rfl)
    (case l14 => first | k_is | rfl)
    (case c14 => first | k_is | rfl)
    (case k14 => first | k_is | rfl)
    (case a15 => first | k_is | rfl)
    (case l15 => first | k_is | rfl)
    (case c15 => first | k_is | rfl)
    (case k15 => first | k_is | rfl)
    (case a16 => first | k_is | rfl)
    (case l16 => first | k_is | rfl)
    (case c16 => first | k_is | rfl)
    (case k16 => first | k_is | rfl)
    (case a17 => first | k_is | rfl)
    (case l17 => first | k_is | rfl)
    (case c17 => first | k_is | rfl)
    (case k17 => first | k_is | rfl)
    (case a18 => first | k_is | rfl)
    (case l18 => first | k_is | rfl)
    (case c18 => first | k_is | rfl)
    (case k18 => first | k_is | rfl)
    (case a19 => first | k_is | rfl)
    (case l19 => first | k_is | rfl)
    (case c19 => first | k_is | rfl)
    (case k19 => first | k_is | rfl)
    (case a20 => first | k_is | rfl)
    (case l20 => first | k_is | rfl)
    (case c20 => first | k_is | rfl)
    (case k20 => first | k_is | rfl)
    (case a21 => first | k_is | rfl)
    (case l21 => first | k_is | rfl)
    (case c21 => first | k_is | rfl)
    (case k21 => first | k_is | rfl)
    (case a22 => first | k_is | rfl)
    (case l22 => first | k_is | rfl)
    (case c22 => first | k_is | rfl)
    (case k22 => first | k_is | rfl)
    (case a23 => first | k_is | rfl)
    (case l23 => first | k_is | rfl)
    (case c23 => first | k_is | rfl)
    (case k23 => first | k_is | rfl)
    (case a24 => first | k_is | rfl)
    (case l24 => first | k_is | rfl)
    (case c24 => first | k_is | rfl)
    (case k24 => first | k_is | rfl)
    (case a25 => first | k_is | rfl)
    (case l25 => first | k_is | rfl)
    (case c25 => first | k_is | rfl)
    (case k25 => first | k_is | rfl)
    (case a26 => first | k_is | rfl)
    (case l26 => first | k_is | rfl)
    (case c26 => first | k_is | rfl)
    (case k26 => first | k_is | rfl)
    (case a27 => first | k_is | rfl)
    (case l27 => first | k_is | rfl)
    (case c27 => first | k_is | rfl)
    (case k27 => first | k_is | rfl)
    (case a28 => first | k_is | rfl)
    (case l28 => first | k_is | rfl)
    (case c28 => first | k_is | rfl)
    (case k28 => first | k_is | rfl)
    (case a29 => first | k_is | rfl)
    (case l29 => first | k_is | rfl)
    (case c29 => first | k_is | rfl)
    (case k29 => first | k_is | rfl)
    (case z_abs => first | k_is | rfl)
    (case z_all => first | k_is | rfl)
    (case z_bool => first | k_is | rfl)
    (case m_gcd => first | k_is | rfl)
    (case z_int => first | k_is | rfl)
    (case z_isinstance => first | k_is | rfl)
    (case z_len => first | k_is | rfl)
    (case z_range => first | k_is | rfl)
    (case z_repr => first | k_is | rfl)
    (case z_str => first | k_is | rfl)
    (case z_tuple => first | k_is | rfl)
    (case g_FieldError => first | k_is | rfl)
    (case g_InvalidFraction => first | k_is | rfl)
    (case g_InvalidSize => first | k_is | rfl)
    (case g_InvalidText => first | k_is | rfl)
    (case xl_InvalidFraction => first | k_is | rfl)
    (case xr_InvalidFraction => repeat constructor)
    (case xk_InvalidFraction => first | k_is | rfl)
    (case xe_InvalidFraction => first | k_is | rfl)
    (case xt_InvalidFraction => first | k_is | rfl)
    (case xh_InvalidFraction => first | k_is | rfl)
    (case xs_InvalidFraction => first | k_is | rfl)
    (case xn_InvalidFraction => first | k_is | rfl)
    (case xi_InvalidFraction => first | k_is | rfl)
    (case xu_InvalidFraction => first | k_is | rfl)
    (case xf_InvalidFraction => first | k_is | rfl)
    (case xc_InvalidFraction => first | k_is | rfl)
    (case xl_InvalidSize => first | k_is | rfl)
    (case xr_InvalidSize => repeat constructor)
    (case xk_InvalidSize => first | k_is | rfl)
    (case xe_InvalidSize => first | k_is | rfl)
    (case xt_InvalidSize => first | k_is | rfl)
    (case xh_InvalidSize => first | k_is | rfl)
    (case xs_InvalidSize => first | k_is | rfl)
    (case xn_InvalidSize => first | k_is | rfl)
    (case xi_InvalidSize => first | k_is | rfl)
    (case xu_InvalidSize => first | k_is | rfl)
    (case xf_InvalidSize => first | k_is | rfl)
    (case xc_InvalidSize => first | k_is | rfl)
    (case xl_InvalidText => first | k_is | rfl)
    (case xr_InvalidText => repeat constructor)
    (case xk_InvalidText => first | k_is | rfl)
    (case xe_InvalidText => first | k_is | rfl)
    (case xt_InvalidText => first | k_is | rfl)
    (case xh_InvalidText => first | k_is | rfl)
    (case xs_InvalidText => first | k_is | rfl)
    (case xn_InvalidText => first | k_is | rfl)
    (case xi_InvalidText => first | k_is | rfl)
    (case xu_InvalidText => first | k_is | rfl)
    (case xf_InvalidText => first | k_is | rfl)
    (case xc_InvalidText => first | k_is | rfl)
    (case ga_InvalidFraction => first | k_is | rfl)
    (case gg_InvalidFraction => first | k_is | rfl)
    (case ge_InvalidFraction => first | k_is | rfl)
    (case gh_InvalidFraction => first | k_is | rfl)
    (case ga_InvalidSize => first | k_is | rfl)
    (case gg_InvalidSize => first | k_is | rfl)
    (case ge_InvalidSize => first | k_is | rfl)
    (case gh_InvalidSize => first | k_is | rfl)
    (case ga_InvalidText => first | k_is | rfl)
    (case gg_InvalidText => first | k_is | rfl)
    (case ge_InvalidText => first | k_is | rfl)
    (case gh_InvalidText => first | k_is | rfl)
    (case nf_InvalidFraction_at => first | k_is | rfl)
    (case nf_InvalidSize_word => first | k_is | rfl)
    (case nf_InvalidText_at => first | k_is | rfl)
    (case oc_get => first | k_is | rfl)
    (case oc_tak => first | k_is | rfl)
    (case ja_InvalidFraction => first | k_is | rfl)
    (case jm_InvalidFraction => first | k_is | rfl)
    (case js_InvalidFraction_FieldError => first | k_is | rfl)
    (case js_InvalidFraction_InvalidSize => first | k_is | rfl)
    (case js_InvalidFraction_InvalidText => first | k_is | rfl)
    (case te_InvalidFraction => first | k_is | rfl)
    (case te_InvalidSize => first | k_is | rfl)
    (case te_InvalidText => first | k_is | rfl)
    (case q_ONE => first | k_is | rfl)
    (case ql_ONE => first | k_is | rfl)
    (case q_ZERO => first | k_is | rfl)
    (case ql_ZERO => first | k_is | rfl)
#print axioms PySem.Challenge.cw_leastfield_k01_any_values_as_fractions_a_holds
