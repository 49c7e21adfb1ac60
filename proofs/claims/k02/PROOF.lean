import PyProof.Rows.All
import Wide.All
import OpenK.AllK
import Wide.FinOn
import HandS.ForMost
import HandS.Words
import HandS.Wide
import HandS.Style
import HandS.Deep
import KE.KeyNested
import KE.KDictKeyed
import HandS.SetKeys
import HandS.More
import HandS.RaiseMore
import KE.DataMinMax
import KE.SortData
import PyProof.ReprRoads
import PyProof.FitsInt
import HandS.Iter
import HandS.TupAny
import KE.DataCmp
import HandS.IsInst
import HandS.Zip
import HandS.SortKw
import HandS.Flow
import KE.KTupSum
import HandS.TupMul
import HandS.Defaults
import HandS.DictComp
import HandS.Star
import KE.KRevSl
import HandS.ListItems
import HandS.Exc
import HandS.ExcInit
import HandS.ExcField
import HandS.ExcOwn
import HandS.ExcIs
import HandS.Set
import HandS.SetFor
import HandS.Strs
import PySem.Challenge.RW_ridingvotes_k02_great_lots
set_option Elab.async false
set_option linter.all false
set_option maxRecDepth 100000
set_option maxHeartbeats 1000000
/-! Mo: dicts whose keys are tuples of any depth, without texts: as an object of one's own. -/
namespace Mo
open PySem PySem.Spec PyProof.Rows L2
mutual
def kh : NestedKey → Int
  | .none => reduceHash 0xFCA86420
  | .num i => hashInt i
  | .text _ => 0
  | .tup ks => reduceHash (Builtin.Tuple.tupleHashOf (khs ks))
def khs : List NestedKey → List Int
  | [] => []
  | k :: ks => kh k :: khs ks
end
mutual
def calm : NestedKey → Bool
  | .none => true
  | .num _ => true
  | .text _ => false
  | .tup ks => calms ks
def calms : List NestedKey → Bool
  | [] => true
  | k :: ks => calm k && calms ks
end
mutual
theorem kh_eq (w : World) : ∀ k : NestedKey, calm k = true → k.hash w = kh k
  | .none, _ => by rw [NestedKey.hash, kh]
  | .num i, _ => by rw [NestedKey.hash, kh]
  | .text _, h => by rw [calm] at h; cases h
  | .tup ks, h => by rw [calm] at h; rw [NestedKey.hash, kh, khs_eq w ks h]
theorem khs_eq (w : World) : ∀ ks : List NestedKey, calms ks = true → NestedKey.hashes w ks = khs ks
  | [], _ => by rw [NestedKey.hashes, khs]
  | k :: ks, h => by
    rw [calms, Bool.and_eq_true] at h
    rw [NestedKey.hashes, khs, kh_eq w k h.1, khs_eq w ks h.2]
end
abbrev NX := NestedKey × Addr × V
def NdEnt (x : NX) (e : DictEntry) : Prop := e.hash = kh x.1 ∧ e.key = .ref x.2.1 ∧ RelV x.2.2 e.val
/-- at a stands a dict of these keys, key tuples and values -/
def NdAt (a : Addr) (xs : List NX) (h : Heap) : Prop :=
  (a == sysModules) = false ∧ xs.length ≤ sizeLine ∧ (xs.map (·.1)).Nodup ∧ (∀ x ∈ xs, calm x.1 = true ∧ x.1.depth ≤ 8) ∧
  ∃ o es ep, h.get? a = some o ∧ o.ExactDict ∧ o.data = .dict es ep ∧ Paired NdEnt xs es.toList
def ndO (a : Addr) (xs : List NX) : HO := .ext (NdAt a xs)
def kvl (xs : List NX) : List (NestedKey × V) := xs.map fun x => (x.1, x.2.2)
def kal (xs : List NX) : List (NestedKey × V) := xs.map fun x => (x.1, V.ref x.2.1)
def putX (xs : List NX) (k : NestedKey) (b : Addr) (v : V) : List NX :=
  if (xs.any fun x => decide (x.1 = k)) = true then xs.map (fun x => if x.1 = k then (x.1, x.2.1, v) else x) else xs ++ [(k, b, v)]
section
variable {P : Program} {w : World} {H : Hp} {h h' : Heap} {a : Addr} {xs : List NX}
theorem nd_ok (x : NdAt a xs h) : ObjOk P w H h a (ndO a xs) := by
  obtain ⟨z1, z2, z3, z4, o, es, ep, h1, h2⟩ := x
  exact ⟨⟨z1, z2, z3, z4, o, es, ep, h1, h2⟩, ⟨o, h1⟩, fun q1 q2 p k => by
    obtain ⟨z1, z2, z3, z4, o, es, ep, h1, h2⟩ := p
    exact ⟨z1, z2, z3, z4, o, es, ep, k o h1, h2⟩⟩
abbrev NP : List NX → List (NestedKey × Addr × Value) → Prop := Paired fun x y => x.1 = y.1 ∧ x.2.1 = y.2.1 ∧ RelV x.2.2 y.2.2
theorem NP.keys {xs : List NX} {ys : List (NestedKey × Addr × Value)} (r : NP xs ys) : xs.map (·.1) = ys.map (·.1) := by
  induction r with
  | nil => rfl
  | cons h _ ih => rw [List.map_cons, List.map_cons, ih, h.1]
theorem nd_dict (x : NdAt a xs h) (hk : ∀ x ∈ xs, NestedIs h x.1 (.ref x.2.1)) : ∃ ys, NP xs ys ∧ h.DictOfH (nestedKind P w) a ys := by
  obtain ⟨_, _, hn, hc, o, es, ep, h1, h2, h3, r⟩ := x
  have go : ∀ {xs : List NX} {l : List DictEntry}, Paired NdEnt xs l → (∀ x ∈ xs, calm x.1 = true ∧ x.1.depth ≤ 8) → (∀ x ∈ xs, NestedIs h x.1 (.ref x.2.1)) →
      ∃ ys, NP xs ys ∧ l = ys.map (entryOfKey (nestedKind P w)) ∧ ∀ y ∈ ys, (nestedKind P w).is h y.1 y.2.1 := by
    intro xs l r
    induction r with
    | nil => intro _ _; exact ⟨[], .nil, rfl, fun _ h => nomatch h⟩
    | @cons x e xs l q t ih =>
      intro hc hk
      obtain ⟨ys, i1, i2, i3⟩ := ih (fun x hx => hc x (List.mem_cons_of_mem _ hx)) fun x hx => hk x (List.mem_cons_of_mem _ hx)
      obtain ⟨q1, q2, q3⟩ := q
      have c1 := hc x List.mem_cons_self
      refine ⟨(x.1, x.2.1, e.val) :: ys, .cons ⟨rfl, rfl, q3⟩ i1, ?_, fun y hy => ?_⟩
      · rw [List.map_cons, ← i2]
        congr 1
        show e = ⟨x.1.hash w, .ref x.2.1, e.val⟩
        rw [kh_eq w _ c1.1, ← q1, ← q2]
      · rcases List.mem_cons.mp hy with e | hy
        · subst e; exact ⟨hk x List.mem_cons_self, c1.2⟩
        · exact i3 y hy
  obtain ⟨ys, i1, i2, i3⟩ := go r hc hk
  exact ⟨ys, i1, o, es, ep, h1, h2, h3, i2, i3, by rw [← i1.keys]; exact hn⟩
theorem nd_of {ys : List (NestedKey × Addr × Value)} (r : NP xs ys) (dd : h.DictOfH (nestedKind P w) a ys) (hd : (a == sysModules) = false) (hz : xs.length ≤ sizeLine) (hc : ∀ x ∈ xs, calm x.1 = true) : NdAt a xs h := by
  obtain ⟨o, es, ep, h1, h2, h3, h4, h5, h6⟩ := dd
  have go : ∀ {xs : List NX} {ys : List (NestedKey × Addr × Value)}, NP xs ys → (∀ x ∈ xs, calm x.1 = true) → (∀ y ∈ ys, (nestedKind P w).is h y.1 y.2.1) →
      Paired NdEnt xs (ys.map (entryOfKey (nestedKind P w))) ∧ ∀ x ∈ xs, calm x.1 = true ∧ x.1.depth ≤ 8 := by
    intro xs ys r
    induction r with
    | nil => intro _ _; exact ⟨.nil, fun _ h => nomatch h⟩
    | @cons x y xs ys q t ih =>
      intro hc h5
      obtain ⟨i1, i2⟩ := ih (fun x hx => hc x (List.mem_cons_of_mem _ hx)) fun y hy => h5 y (List.mem_cons_of_mem _ hy)
      obtain ⟨q1, q2, q3⟩ := q
      have c1 := hc x List.mem_cons_self
      refine ⟨.cons ⟨?_, ?_, q3⟩ i1, fun z hz => ?_⟩
      · show y.1.hash w = kh x.1
        rw [← q1, kh_eq w _ c1]
      · show Value.ref y.2.1 = .ref x.2.1
        rw [q2]
      · rcases List.mem_cons.mp hz with e | hz
        · subst e
          exact ⟨c1, by rw [q1]; exact (h5 y List.mem_cons_self).2⟩
        · exact i2 z hz
  obtain ⟨g1, g2⟩ := go r hc h5
  exact ⟨hd, hz, by rw [r.keys]; exact h6, g2, o, es, ep, h1, h2, h3, by rw [h4]; exact g1⟩
theorem NP.at {xs : List NX} {ys : List (NestedKey × Addr × Value)} (r : NP xs ys) (k : NestedKey) : RelO (valV (kvl xs) k) ((atKey ys k).map (·.2)) := by
  induction r with
  | nil => exact True.intro
  | @cons x y xs ys q t ih =>
    obtain ⟨q1, q2, q3⟩ := q
    by_cases e : x.1 = k
    · have e' : y.1 = k := q1.symm.trans e
      have b : atKey (y :: ys) k = some y.2 := by simp [atKey, List.find?_cons, e']
      rw [b, show kvl (x :: xs) = (x.1, x.2.2) :: kvl xs from rfl, valV_pos (p := (x.1, x.2.2)) e]
      exact q3
    · have e' : ¬ y.1 = k := fun z => e (q1.trans z)
      have b : atKey (y :: ys) k = atKey ys k := by simp [atKey, List.find?_cons, e']
      rw [b, show kvl (x :: xs) = (x.1, x.2.2) :: kvl xs from rfl, valV_neg (p := (x.1, x.2.2)) e]
      exact ih
theorem NP.any {xs : List NX} {ys : List (NestedKey × Addr × Value)} (r : NP xs ys) (k : NestedKey) : (xs.any fun x => decide (x.1 = k)) = (atKey ys k).isSome := by
  have e := (r.at k).isSome_eq
  rw [Option.isSome_map] at e
  rw [← e, ← valV_any]
  unfold kvl
  rw [List.any_map]
  rfl
theorem NP.put {xs : List NX} {ys : List (NestedKey × Addr × Value)} (r : NP xs ys) (k : NestedKey) (b : Addr) {v : V} {u : Value} (rv : RelV v u) : NP (putX xs k b v) (storedH ys k b u) := by
  unfold putX storedH
  rw [r.any k]
  split
  · induction r with
    | nil => exact .nil
    | @cons x y xs ys q t ih =>
      obtain ⟨q1, q2, q3⟩ := q
      rw [List.map_cons, List.map_cons]
      refine .cons ?_ ?_
      · unfold putAt
        by_cases e : x.1 = k
        · rw [if_pos e, if_pos (q1.symm.trans e)]; exact ⟨q1, q2, rv⟩
        · rw [if_neg e, if_neg (fun z => e (q1.trans z))]; exact ⟨q1, q2, q3⟩
      · have go : ∀ {xs : List NX} {ys : List (NestedKey × Addr × Value)}, NP xs ys → NP (xs.map fun x => if x.1 = k then (x.1, x.2.1, v) else x) (ys.map (putAt k u)) := by
          intro xs ys r
          induction r with
          | nil => exact .nil
          | @cons x y xs ys q t ih =>
            obtain ⟨q1, q2, q3⟩ := q
            rw [List.map_cons, List.map_cons]
            refine .cons ?_ ih
            unfold putAt
            by_cases e : x.1 = k
            · rw [if_pos e, if_pos (q1.symm.trans e)]; exact ⟨q1, q2, rv⟩
            · rw [if_neg e, if_neg (fun z => e (q1.trans z))]; exact ⟨q1, q2, q3⟩
        exact go t
  · exact Paired.snoc r ⟨rfl, rfl, rv⟩
theorem putX_len (xs : List NX) (k : NestedKey) (b : Addr) (v : V) : (putX xs k b v).length ≤ xs.length + 1 := by
  unfold putX
  split
  · rw [List.length_map]; omega
  · rw [List.length_append]; simp
theorem putX_mem {xs : List NX} {k : NestedKey} {b : Addr} {v : V} {x : NX} (h : x ∈ putX xs k b v) : (∃ y ∈ xs, x.1 = y.1 ∧ x.2.1 = y.2.1) ∨ (x.1 = k ∧ x.2.1 = b) := by
  unfold putX at h
  split at h
  · obtain ⟨y, hy, e⟩ := List.mem_map.mp h
    refine .inl ⟨y, hy, ?_⟩
    subst e
    split <;> exact ⟨rfl, rfl⟩
  · rcases List.mem_append.mp h with h | h
    · exact .inl ⟨x, h, rfl, rfl⟩
    · rw [List.mem_singleton.mp h]
      exact .inr ⟨rfl, rfl⟩
end
section
variable {X : Cx} {pins : List (Addr × Obj)} {σ : L2.St} {H : Hp} {s : Shared} {a b : Addr} {k : NestedKey} {v d : V} {u r : Value} {A : Around} {E : Value → Shared → Prop} {xs : List NX}
/-- the keys of the entries stand -/
def KIs (h : Heap) (xs : List NX) : Prop := ∀ x ∈ xs, NestedIs h x.1 (.ref x.2.1)
theorem nd_at (I : Inv X pins σ H s) (e : H a = some (ndO a xs)) : NdAt a xs s.heap := (I.hok a _ e).1
theorem nd_typeIs (x : NdAt a xs s.heap) : s.TypeIs (.ref a) "dict" := let ⟨_, _, _, _, o, _, _, h1, h2, _⟩ := x; ⟨o, h1, h2.1⟩
theorem nd_noDict (x : NdAt a xs s.heap) : ∀ b, Value.ref a = .ref b → ∃ ob, s.heap.get? b = some ob ∧ ob.dict = none := fun b q => by
  cases q
  obtain ⟨_, _, _, _, o, _, _, h1, h2, _⟩ := x
  exact ⟨o, h1, h2.2.1⟩
theorem nroom (hu : A.units + 64 < cLine) : (nestedKind X.prog X.w).room A.in1 := by
  show A.in1.units + 8 < cLine
  have : A.in1.units ≤ A.units + 2 := by show _ ≤ _; simp only [Around.in1]; omega
  omega
theorem n_getItem {Q : Value → Shared → Prop} (hu : A.units + 64 < cLine) (I : Inv X pins σ H s) (e : H a = some (ndO a xs)) (hk : KIs s.heap xs) (ky : NestedIs s.heap k (.ref b)) (kd : k.depth ≤ 8) (l : valV (kvl xs) k = some v)
    (h : ∀ w' s', Inv X pins σ H s' → RelV v w' → Q w' s') : wpAny (model X.prog X.w) A (getItem (.ref a) (.ref b)) Q E s := by
  obtain ⟨ys, rel, dd⟩ := nd_dict (P := X.prog) (w := X.w) (nd_at I e) hk
  obtain ⟨w', hw, rw'⟩ := RelO.some_of (v := v) (o := (atKey ys k).map (·.2)) (by rw [← l]; exact rel.at k)
  obtain ⟨p, hp, hp2⟩ := Option.map_eq_some_iff.mp hw
  refine wpAny_getItem_heap (nroom (X := X) hu) ⟨ky, kd⟩ dd hp ?_
  rw [hp2]
  exact h w' _ (I.tok _) rw'
theorem n_in {Q : Value → Shared → Prop} (hu : A.units + 64 < cLine) (I : Inv X pins σ H s) (e : H a = some (ndO a xs)) (hk : KIs s.heap xs) (ky : NestedIs s.heap k (.ref b)) (kd : k.depth ≤ 8)
    (h : ∀ s', Inv X pins σ H s' → Q (.bool (valV (kvl xs) k).isSome) s') : wpAny (model X.prog X.w) A (compareOp .In (.ref b) (.ref a)) Q E s := by
  have n := nd_at I e
  obtain ⟨ys, rel, dd⟩ := nd_dict (P := X.prog) (w := X.w) n hk
  refine wpAny_in_heap (nroom (X := X) hu) ⟨ky, kd⟩ n.1 dd ?_
  have q := (rel.at k).isSome_eq
  rw [Option.isSome_map] at q
  rw [← q]
  exact h _ (I.tok _)
theorem n_notIn {Q : Value → Shared → Prop} (hu : A.units + 64 < cLine) (I : Inv X pins σ H s) (e : H a = some (ndO a xs)) (hk : KIs s.heap xs) (ky : NestedIs s.heap k (.ref b)) (kd : k.depth ≤ 8)
    (h : ∀ s', Inv X pins σ H s' → Q (.bool (!(valV (kvl xs) k).isSome)) s') : wpAny (model X.prog X.w) A (compareOp .NotIn (.ref b) (.ref a)) Q E s := by
  have n := nd_at I e
  obtain ⟨ys, rel, dd⟩ := nd_dict (P := X.prog) (w := X.w) n hk
  refine wpAny_notIn_heap (nroom (X := X) hu) ⟨ky, kd⟩ n.1 dd ?_
  have q := (rel.at k).isSome_eq
  rw [Option.isSome_map] at q
  rw [← q]
  exact h _ (I.tok _)
theorem n_get {Q : Value → Shared → Prop} (hu : A.units + 64 < cLine) (I : Inv X pins σ H s) (e : H a = some (ndO a xs)) (hk : KIs s.heap xs) (ky : NestedIs s.heap k (.ref b)) (kd : k.depth ≤ 8)
    (h : ∀ w' s', Inv X pins σ H s' → RelV ((valV (kvl xs) k).getD .non) w' → Q w' s') : wpAny (model X.prog X.w) A (call (.builtin "dict.get") [.ref a, .ref b]) Q E s := by
  have n := nd_at I e
  obtain ⟨ys, rel, dd⟩ := nd_dict (P := X.prog) (w := X.w) n hk
  exact call_meetsIn PySem.F.slot_dict_get dd.typeIs PySem.F.entry_dict_get (PySem.F.args_dict_get_2 _ _) (meetsH_dict_get (nestedKind X.prog X.w) a b n.1) ⟨nroom (X := X) hu, k, ys, ⟨ky, kd⟩, dd, h _ _ (I.tok _) ((rel.at k).getD rfl)⟩
theorem n_get2 {Q : Value → Shared → Prop} (hu : A.units + 64 < cLine) (I : Inv X pins σ H s) (e : H a = some (ndO a xs)) (hk : KIs s.heap xs) (ky : NestedIs s.heap k (.ref b)) (kd : k.depth ≤ 8) (rd : RelV d r)
    (h : ∀ w' s', Inv X pins σ H s' → RelV ((valV (kvl xs) k).getD d) w' → Q w' s') : wpAny (model X.prog X.w) A (call (.builtin "dict.get") [.ref a, .ref b, r]) Q E s := by
  have n := nd_at I e
  obtain ⟨ys, rel, dd⟩ := nd_dict (P := X.prog) (w := X.w) n hk
  exact call_meetsIn PySem.F.slot_dict_get dd.typeIs PySem.F.entry_dict_get (PySem.F.args_dict_get_3 _ _ _) (meetsH_dict_get_default (nestedKind X.prog X.w) a b n.1 r) ⟨nroom (X := X) hu, k, ys, ⟨ky, kd⟩, dd, h _ _ (I.tok _) ((rel.at k).getD rd)⟩
theorem nd_put {h' : Heap} {ys : List (NestedKey × Addr × Value)} (n : NdAt a xs s.heap) (rel : NP xs ys) (ck : calm k = true) (hl : xs.length < sizeLine) (rv : RelV v u) (dd' : h'.DictOfH (nestedKind X.prog X.w) a (storedH ys k b u)) : NdAt a (putX xs k b v) h' := by
  refine nd_of (P := X.prog) (w := X.w) (rel.put k b rv) dd' n.1 (by have := putX_len xs k b v; omega) fun x hx => ?_
  rcases putX_mem hx with ⟨y, hy, e, _⟩ | ⟨e, _⟩
  · rw [e]; exact (n.2.2.2.1 y hy).1
  · rw [e]; exact ck
theorem n_setItem {Q : Unit → Shared → Prop} (hu : A.units + 64 < cLine) (I : Inv X pins σ H s) (e : H a = some (ndO a xs)) (hk : KIs s.heap xs) (ky : NestedIs s.heap k (.ref b)) (kd : k.depth ≤ 8) (ck : calm k = true) (hl : xs.length < sizeLine) (rv : RelV v u)
    (h : ∀ s', Inv X pins σ (upd H a (ndO a (putX xs k b v))) s' → Q () s') : wpAny (model X.prog X.w) A (setItem (.ref a) (.ref b) u) Q E s := by
  have n := nd_at I e
  obtain ⟨ys, rel, dd⟩ := nd_dict (P := X.prog) (w := X.w) n hk
  have hz : ys.length ≤ sizeLine := by rw [← Paired.length rel]; omega
  refine wpAny_setItem_heap (hsz := hz) (nroom (X := X) hu) ⟨ky, kd⟩ dd fun h' dd' hs => h _ ?_
  have n' := nd_put n rel ck hl rv dd'
  obtain ⟨_, _, _, _, q, es, ep, hq, _⟩ := id n'
  exact d_write I (by rw [e]; exact True.intro) hs ⟨q, hq⟩ (nd_ok n')
theorem n_setd {Q : Value → Shared → Prop} (hu : A.units + 64 < cLine) (I : Inv X pins σ H s) (e : H a = some (ndO a xs)) (hk : KIs s.heap xs) (ky : NestedIs s.heap k (.ref b)) (kd : k.depth ≤ 8) (ck : calm k = true) (hl : xs.length < sizeLine) (rv : RelV v u)
    (h1 : ∀ v', valV (kvl xs) k = some v' → ∀ (w' : Value) (s' : Shared), Inv X pins σ H s' → RelV v' w' → Q w' s')
    (h2 : valV (kvl xs) k = none → ∀ (w' : Value) (s' : Shared), Inv X pins σ (upd H a (ndO a (putX xs k b v))) s' → RelV v w' → Q w' s') : wpAny (model X.prog X.w) A (call (.builtin "dict.setdefault") [.ref a, .ref b, u]) Q E s := by
  have n := nd_at I e
  obtain ⟨ys, rel, dd⟩ := nd_dict (P := X.prog) (w := X.w) n hk
  have hz : ys.length ≤ sizeLine := by rw [← Paired.length rel]; omega
  have q := rel.at k
  refine call_setdefault_heap (hsz := hz) (nroom (X := X) hu) ⟨ky, kd⟩ n.1 dd (fun p hp => ?_) fun hn h' dd' hs => ?_
  · rw [hp] at q
    cases q0 : valV (kvl xs) k with
    | none => rw [q0] at q; exact (show False from q).elim
    | some v0 => rw [q0] at q; exact h1 v0 q0 _ _ (I.tok _) q
  · rw [hn] at q
    cases q0 : valV (kvl xs) k with
    | some v0 => rw [q0] at q; exact (show False from q).elim
    | none =>
      have n' := nd_put n rel ck hl rv dd'
      obtain ⟨_, _, _, _, q, es, ep, hq, _⟩ := id n'
      exact h2 q0 _ _ (d_write I (by rw [e]; exact True.intro) hs ⟨q, hq⟩ (nd_ok n')) rv
theorem nd_empty (h : Heap) (hb : sysModules < h.objs.size) : NdAt h.objs.size [] (h.push { cls := .type "dict", data := .dict #[] }) :=
  ⟨beq_eq_false_iff_ne.mpr (Ne.symm (Nat.ne_of_lt hb)), Nat.zero_le _, List.nodup_nil, (fun _ h => nomatch h), _, #[], 0, Heap.get?_push_size _ rfl, ⟨rfl, rfl, rfl⟩, rfl, .nil⟩
end
/-! ### the rows -/
/-- where the things stand, the keys are read so -/
def KAll (X : Cx) (H : Hp) (xs : List NX) (k : NestedKey) (b : Addr) : Prop := ∀ (pins : List (Addr × Obj)) (σ : L2.St) (s : Shared), Inv X pins σ H s → KIs s.heap xs ∧ NestedIs s.heap k (.ref b)
def tNNew : TE := fun _ H Q => ∀ p, H p = none → Q (.ref p) (upd H p (ndO p []))
def tNGet (X : Cx) (td ty : TE) : TE := fun σ H Q => td σ H fun x H1 => ty σ H1 fun y H2 => ∃ a b xs k v, x = .ref a ∧ y = .ref b ∧ H2 a = some (ndO a xs) ∧ KAll X H2 xs k b ∧ k.depth ≤ 8 ∧ valV (kvl xs) k = some v ∧ Q v H2
def tNIn (X : Cx) (neg : Bool) (ty td : TE) : TE := fun σ H Q => ty σ H fun y H1 => td σ H1 fun x H2 => ∃ a b xs k, x = .ref a ∧ y = .ref b ∧ H2 a = some (ndO a xs) ∧ KAll X H2 xs k b ∧ k.depth ≤ 8 ∧ Q (.bl ((valV (kvl xs) k).isSome != neg)) H2
def sNPut (X : Cx) (td ty tv : TE) : TS := fun D σ H => tv σ H fun v H1 => td σ H1 fun x H2 => ty σ H2 fun y H3 => ∃ a b xs k, x = .ref a ∧ y = .ref b ∧ H3 a = some (ndO a xs) ∧ KAll X H3 xs k b ∧ k.depth ≤ 8 ∧ calm k = true ∧ xs.length < sizeLine ∧ D.nx σ (upd H3 a (ndO a (putX xs k b v)))
def IsN (H : Hp) (a : Addr) : Prop := ∃ xs, H a = some (ndO a xs)
def tNGet1 (X : Cx) (td ty : TE) : TE := fun σ H Q => td σ H fun x H1 => ∃ a, x = .ref a ∧ IsN H1 a ∧ ty σ H1 fun y H2 => ∃ b xs k, y = .ref b ∧ H2 a = some (ndO a xs) ∧ KAll X H2 xs k b ∧ k.depth ≤ 8 ∧ Q ((valV (kvl xs) k).getD .non) H2
def tNGet2 (X : Cx) (td ty tx : TE) : TE := fun σ H Q => td σ H fun x H1 => ∃ a, x = .ref a ∧ IsN H1 a ∧ ty σ H1 fun y H2 => tx σ H2 fun z H3 => ∃ b xs k, y = .ref b ∧ H3 a = some (ndO a xs) ∧ KAll X H3 xs k b ∧ k.depth ≤ 8 ∧ Q ((valV (kvl xs) k).getD z) H3
def tNSetd (X : Cx) (td ty tx : TE) : TE := fun σ H Q => td σ H fun x H1 => ∃ a, x = .ref a ∧ IsN H1 a ∧ ty σ H1 fun y H2 => tx σ H2 fun z H3 => ∃ b xs k, y = .ref b ∧ H3 a = some (ndO a xs) ∧ KAll X H3 xs k b ∧ k.depth ≤ 8 ∧ calm k = true ∧ xs.length < sizeLine ∧
  (∀ v, valV (kvl xs) k = some v → Q v H3) ∧ (valV (kvl xs) k = none → Q z (upd H3 a (ndO a (putX xs k b z))))
section
variable {X : Cx} {o i e f value : Expr} {pos pos' apos cpos : Pos} {td ty tv tx : TE}
theorem pe_nnew : PE X (.Dict [] [] pos) tNNew := ⟨fun pins s σ H Q I h =>
  wpAny_Dict_empty ⟨.ref s.heap.objs.size, _, I.laid (a := s.heap.objs.size) (o := ndO s.heap.objs.size []) (t' := s.toks) (fun _ _ q => Heap.get?_push_of_some _ q) (Nat.le_refl _) (nd_ok (nd_empty s.heap I.big)), rfl, h _ (I.hok.fresh (Nat.le_refl _))⟩⟩
theorem pe_nget (hu : X.A.units + 64 < cLine) (ho : PE X o td) (hi : PE X i ty) (hs : NoSl i) : PE X (.Subscript o i pos) (tNGet X td ty) := by
  refine ⟨fun pins s σ H Q I h => ?_⟩
  refine subD_of PySem.F.slot_dict_getitem.lookup hs (thn (ho.run pins s σ H _ I h) fun u s1 ⟨x, H1, I1, rx, q1⟩ => thn (hi.run pins s1 σ H1 _ I1 q1) fun iv s2 ⟨y, H2, I2, ry, a, b, xs, k, v, ex, ey, hH, hk, kd, l, q2⟩ => ?_)
  subst ex ey
  obtain rfl : u = Value.ref a := rx
  obtain rfl : iv = Value.ref b := ry
  obtain ⟨k1, k2⟩ := hk _ _ _ I2
  exact ⟨nd_typeIs (nd_at I2 hH), n_getItem hu I2 hH k1 k2 kd l fun w' s3 I3 rw' => ⟨v, H2, I3, rw', q2⟩⟩
theorem pc_nin (hu : X.A.units + 64 < cLine) (hi : PE X i ty) (ho : PE X o td) : PC X .In i o (tNIn X false ty td) := by
  refine ⟨fun pins s σ H Q I h => ?_⟩
  refine thn (hi.run pins s σ H _ I h) fun iv s1 ⟨y, H1, I1, ry, q1⟩ => thn (ho.run pins s1 σ H1 _ I1 q1) fun u s2 ⟨x, H2, I2, rx, a, b, xs, k, ex, ey, hH, hk, kd, q2⟩ => ?_
  subst ex ey
  obtain rfl : u = Value.ref a := rx
  obtain rfl : iv = Value.ref b := ry
  obtain ⟨k1, k2⟩ := hk _ _ _ I2
  exact n_in hu I2 hH k1 k2 kd fun s3 I3 => ⟨.bl (valV (kvl xs) k).isSome, H2, I3, rfl, by simpa using q2⟩
theorem pc_nnotin (hu : X.A.units + 64 < cLine) (hi : PE X i ty) (ho : PE X o td) : PC X .NotIn i o (tNIn X true ty td) := by
  refine ⟨fun pins s σ H Q I h => ?_⟩
  refine thn (hi.run pins s σ H _ I h) fun iv s1 ⟨y, H1, I1, ry, q1⟩ => thn (ho.run pins s1 σ H1 _ I1 q1) fun u s2 ⟨x, H2, I2, rx, a, b, xs, k, ex, ey, hH, hk, kd, q2⟩ => ?_
  subst ex ey
  obtain rfl : u = Value.ref a := rx
  obtain rfl : iv = Value.ref b := ry
  obtain ⟨k1, k2⟩ := hk _ _ _ I2
  exact n_notIn hu I2 hH k1 k2 kd fun s3 I3 => ⟨.bl (!(valV (kvl xs) k).isSome), H2, I3, rfl, by simpa using q2⟩
theorem ps_nput (hu : X.A.units + 64 < cLine) (ho : PE X o td) (hi : PE X i ty) (hv : PE X value tv) (hs : swapsWith value (some (.Subscript o i pos')) pos.line X.env = pure false) :
    PS X (.Assign [.Subscript o i pos'] value pos) (sNPut X td ty tv) := by
  refine ⟨fun pins s σ H D I h => ?_⟩
  refine wpAny_Assign_Subscript (thn (hv.run pins s σ H _ I h) fun r s1 ⟨v, H1, I1, rv, q1⟩ => thn (ho.run pins s1 σ H1 _ I1 q1) fun u s2 ⟨x, H2, I2, rx, q2⟩ => thn (hi.run pins s2 σ H2 _ I2 q2) fun iv s3 ⟨y, H3, I3, ry, a, b, xs, k, ex, ey, hH, hk, kd, ck, hl, q3⟩ => ?_) hs
  subst ex ey
  obtain rfl : u = Value.ref a := rx
  obtain rfl : iv = Value.ref b := ry
  obtain ⟨k1, k2⟩ := hk _ _ _ I3
  exact n_setItem hu I3 hH k1 k2 kd ck hl rv fun s4 I4 => ⟨σ, _, I4, q3⟩
theorem pe_nget1 (hu : X.A.units + 64 < cLine) (ho : PE X o td) (he : PE X e ty) (m : M1 X o "get" apos e cpos) : PE X (.Call (.Attribute o "get" apos) [e] [] cpos) (tNGet1 X td ty) := by
  refine ⟨fun pins s σ H Q I h => ?_⟩
  refine wpAny_Call_method m.base m.few m.line PySem.F.plainAttrs_dict PySem.F.slot_dict_get PySem.F.type_dict_get (thn (ho.run pins s σ H _ I h) fun u s1 ⟨x, H1, I1, rx, a, ex, ⟨xs0, d⟩, q1⟩ => ?_)
  subst ex
  obtain rfl : u = Value.ref a := rx
  refine ⟨nd_typeIs (nd_at I1 d), nd_noDict (nd_at I1 d), ?_⟩
  rw [m.trees]
  refine Calls.callWith_builtin rfl (Calls.evalArgs_plain (Calls.spliced_cons (thn (he.run pins s1 σ H1 _ I1 q1) fun iv s2 ⟨y, H2, I2, ry, b, xs, k, ey, hH, hk, kd, q2⟩ => Calls.spliced_nil ?_)))
  subst ey
  obtain rfl : iv = Value.ref b := ry
  obtain ⟨k1, k2⟩ := hk _ _ _ I2
  exact n_get hu I2 hH k1 k2 kd fun w' s3 I3 rw' => ⟨_, H2, I3, rw', q2⟩
theorem pe_nget2 (hu : X.A.units + 64 < cLine) (ho : PE X o td) (he : PE X e ty) (hf : PE X f tx) (m : M2 X o "get" apos e f cpos) : PE X (.Call (.Attribute o "get" apos) [e, f] [] cpos) (tNGet2 X td ty tx) := by
  refine ⟨fun pins s σ H Q I h => ?_⟩
  refine wpAny_Call_method m.base m.few m.line PySem.F.plainAttrs_dict PySem.F.slot_dict_get PySem.F.type_dict_get (thn (ho.run pins s σ H _ I h) fun u s1 ⟨x, H1, I1, rx, a, ex, ⟨xs0, d⟩, q1⟩ => ?_)
  subst ex
  obtain rfl : u = Value.ref a := rx
  refine ⟨nd_typeIs (nd_at I1 d), nd_noDict (nd_at I1 d), ?_⟩
  rw [m.trees]
  refine Calls.callWith_builtin rfl (Calls.evalArgs_plain (Calls.spliced_cons (thn (he.run pins s1 σ H1 _ I1 q1) fun iv s2 ⟨y, H2, I2, ry, q2⟩ =>
    Calls.spliced_cons (thn (hf.run pins s2 σ H2 _ I2 q2) fun fv s3 ⟨z, H3, I3, rz, b, xs, k, ey, hH, hk, kd, q3⟩ => Calls.spliced_nil ?_))))
  subst ey
  obtain rfl : iv = Value.ref b := ry
  obtain ⟨k1, k2⟩ := hk _ _ _ I3
  exact n_get2 hu I3 hH k1 k2 kd rz fun w' s4 I4 rw' => ⟨_, H3, I4, rw', q3⟩
theorem pe_nsetd (hu : X.A.units + 64 < cLine) (ho : PE X o td) (he : PE X e ty) (hf : PE X f tx) (m : M2 X o "setdefault" apos e f cpos) : PE X (.Call (.Attribute o "setdefault" apos) [e, f] [] cpos) (tNSetd X td ty tx) := by
  refine ⟨fun pins s σ H Q I h => ?_⟩
  refine wpAny_Call_method m.base m.few m.line PySem.F.plainAttrs_dict PySem.F.slot_dict_setdefault PySem.F.type_dict_setdefault (thn (ho.run pins s σ H _ I h) fun u s1 ⟨x, H1, I1, rx, a, ex, ⟨xs0, d⟩, q1⟩ => ?_)
  subst ex
  obtain rfl : u = Value.ref a := rx
  refine ⟨nd_typeIs (nd_at I1 d), nd_noDict (nd_at I1 d), ?_⟩
  rw [m.trees]
  refine Calls.callWith_builtin rfl (Calls.evalArgs_plain (Calls.spliced_cons (thn (he.run pins s1 σ H1 _ I1 q1) fun iv s2 ⟨y, H2, I2, ry, q2⟩ =>
    Calls.spliced_cons (thn (hf.run pins s2 σ H2 _ I2 q2) fun fv s3 ⟨z, H3, I3, rz, b, xs, k, ey, hH, hk, kd, ck, hl, q3, q4⟩ => Calls.spliced_nil ?_))))
  subst ey
  obtain rfl : iv = Value.ref b := ry
  obtain ⟨k1, k2⟩ := hk _ _ _ I3
  exact n_setd hu I3 hH k1 k2 kd ck hl rz (fun v hv w' s4 I4 rw' => ⟨v, _, I4, rw', q3 v hv⟩) fun hn w' s4 I4 rw' => ⟨z, _, I4, rw', q4 hn⟩
end
end Mo
set_option maxRecDepth 100000
set_option maxHeartbeats 1000000
/-! Mo: values as pure data, a store of tracked cells, own lists of a frame; a def's meaning as a Lean function. -/
namespace Mo
open PySem PySem.Spec PyProof.Rows L2

/-- a value: tuples and resting lists by what they hold, a shared cell by its place -/
inductive D where
  | non | bl (b : Bool) | int (i : Int) | str (x : Str)
  | tup (l : List D) | lst (l : List D)
  | loc (n : Nat) | raw (v : V)
  /-- a list of numbers that nobody changes: the script -/
  | scr (l : List Int)

/-- a cell that may change -/
inductive Cell where
  | lst (l : List D)
  | dK (l : List (Key × D))
  /-- keys are tuples of any depth, without texts -/
  | dT (l : List (NestedKey × D))
  /-- a dict that is walked through -/
  | dF (l : List (Key × D))

mutual
/-- a key as data -/
def dKey : NestedKey → D
  | .none => .non
  | .num i => .int i
  | .text x => .str x
  | .tup ks => .tup (dKeys ks)
def dKeys : List NestedKey → List D
  | [] => []
  | k :: ks => dKey k :: dKeys ks
end
def kdl (l : List (NestedKey × D)) : List (NestedKey × D) := l.map fun p => (p.1, dKey p.1)

/-- what a name stands for: a value, or a cell of its own -/
inductive Slot where
  | val (d : D)
  | own (c : Cell)

abbrev Store := List Cell
abbrev MEnv := List (Option Slot)

/-- what a run gives -/
inductive R (α : Type) where
  | ok (a : α) (S : Store)
  | bad

def R.bind {α β : Type} (r : R α) (f : α → Store → R β) : R β := match r with
  | .ok a S => f a S
  | .bad => .bad

theorem R.bind_ok {α β : Type} {r : R α} {f : α → Store → R β} {b : β} {S' : Store} (h : r.bind f = .ok b S') : ∃ a S, r = .ok a S ∧ f a S = .ok b S' := by
  cases r with
  | ok a S => exact ⟨a, S, rfl, h⟩
  | bad => cases h

section rel
variable (K : PySem.W.Frag) (g f : List Addr) (H : Hp)
/-- a list that rests: none of the cells, none of the own ones -/
def RestL (a : Addr) (vs : List V) : Prop := a ∉ g ∧ a ∉ f ∧ H a = some (.lst vs)
/-- .. or one that is only read, perhaps the module's -/
def ScrL (a : Addr) (vs : List V) : Prop :=
  (a ∉ g ∧ a ∉ f ∧ Rd H a (.lst vs)) ∨
    ∃ (ob : Obj) (its : Array Value) (n : Nat), K.lookup a = some ob ∧ ob.cls = .type "list" ∧ ob.dict = none ∧ ob.data = .seq its n ∧ its.size ≤ sizeLine ∧ Vals vs its.toList
mutual
def RelD : D → V → Prop
  | .non, v => v = .non
  | .bl b, v => v = .bl b
  | .int i, v => v = .int i
  | .str x, v => v = .str x
  | .tup l, v => ∃ a vs, v = .ref a ∧ SqT K H a vs ∧ RelDs l vs
  | .lst l, v => ∃ a vs, v = .ref a ∧ RestL g f H a vs ∧ RelDs l vs
  | .scr l, v => ∃ a, v = .ref a ∧ ScrL K g f H a (l.map V.int)
  | .loc n, v => ∃ a, v = .ref a ∧ g[n]? = some a
  | .raw u, v => v = u
def RelDs : List D → List V → Prop
  | [], vs => vs = []
  | d :: ds, vs => ∃ v r, vs = v :: r ∧ RelD d v ∧ RelDs ds r
end
def RelKv {κ : Type} : List (κ × D) → List (κ × V) → Prop
  | [], vs => vs = []
  | p :: ps, vs => ∃ v r, vs = (p.1, v) :: r ∧ RelD K g f H p.2 v ∧ RelKv ps r
def RelC (a : Addr) : Cell → Prop
  | .lst l => ∃ vs, H a = some (.lst vs) ∧ RelDs K g f H l vs
  | .dK l => ∃ kvs, H a = some (.dK kvs) ∧ RelKv K g f H l kvs
  | .dT l => ∃ xs, H a = some (ndO a xs) ∧ RelKv K g f H (kdl l) (kal xs) ∧ RelKv K g f H l (kvl xs)
  | .dF l => ∃ kvs, (∃ ob, H a = some (.frz ob (.dK kvs))) ∧ RelKv K g f H l kvs
structure RelS (S : Store) : Prop where
  len : g.length = S.length
  nod : g.Nodup
  cel : ∀ (n : Nat) (c : Cell) (a : Addr), S[n]? = some c → g[n]? = some a → RelC K g f H a c
end rel

/-- the world has gone on: cells may have come and changed, all else stands -/
structure Ext (g : List Addr) (H : Hp) (g' : List Addr) (H' : Hp) : Prop where
  more : ∃ ns, g' = g ++ ns ∧ ∀ p ∈ ns, H p = none
  keep : ∀ a u, H a = some u → a ∉ g → H' a = some u
  live : ∀ a, H a ≠ none → H' a ≠ none
  tups : ∀ a vs, Rd H a (.tup vs) → Rd H' a (.tup vs)
  frz : ∀ a o u, H a = some (.frz o u) → H' a = some (.frz o u)

section
variable {K : PySem.W.Frag} {g g' g1 g2 f f' : List Addr} {H H' H1 H2 : Hp}
theorem Ext.refl : Ext g H g H := ⟨⟨[], by simp, fun _ h => nomatch h⟩, fun _ _ h _ => h, fun _ h => h, fun _ _ h => h, fun _ _ _ h => h⟩
theorem Ext.trans (a : Ext g H g1 H1) (b : Ext g1 H1 g2 H2) : Ext g H g2 H2 := by
  obtain ⟨n1, e1, h1⟩ := a.more
  obtain ⟨n2, e2, h2⟩ := b.more
  refine ⟨⟨n1 ++ n2, by rw [e2, e1, List.append_assoc], fun p hp => ?_⟩, fun c u hc hn => ?_, fun c h => b.live c (a.live c h), fun c vs h => b.tups c vs (a.tups c vs h), fun c o u h => b.frz c o u (a.frz c o u h)⟩
  · rcases List.mem_append.mp hp with q | q
    · exact h1 p q
    · cases e : H p with
      | none => rfl
      | some u => exact absurd (h2 p q) (a.live p (by rw [e]; simp))
  · refine b.keep c u (a.keep c u hc hn) ?_
    rw [e1]
    intro q
    rcases List.mem_append.mp q with q | q
    · exact hn q
    · rw [h1 c q] at hc; cases hc
theorem Ext.get (x : Ext g H g' H') {n : Nat} {a : Addr} (h : g[n]? = some a) : g'[n]? = some a := by
  obtain ⟨ns, e, _⟩ := x.more
  have hl : n < g.length := by
    rcases Nat.lt_or_ge n g.length with q | q
    · exact q
    · rw [List.getElem?_eq_none q] at h; cases h
  rw [e, List.getElem?_append_left hl]
  exact h
theorem Ext.out (x : Ext g H g' H') {a : Addr} (hn : a ∉ g) (hl : H a ≠ none) : a ∉ g' := by
  obtain ⟨ns, e, h⟩ := x.more
  rw [e]
  intro q
  rcases List.mem_append.mp q with q | q
  · exact hn q
  · exact hl (h a q)
theorem SqT.ext {a : Addr} {vs : List V} (x : Ext g H g' H') (h : SqT K H a vs) : SqT K H' a vs := by
  rcases h with h | h
  · exact .inl (x.tups a vs h)
  · exact .inr h
theorem Rd.live {a : Addr} {u : HO} (h : Rd H a u) : H a ≠ none := by
  rcases h with h | ⟨ob, h⟩ <;> rw [h] <;> simp
theorem Rd.keep {a : Addr} {u : HO} (x : Ext g H g' H') (h : Rd H a u) (hn : a ∉ g) : Rd H' a u := by
  rcases h with h | ⟨ob, h⟩
  · exact .inl (x.keep _ _ h hn)
  · exact .inr ⟨ob, x.keep _ _ h hn⟩
theorem RestL.ext {a : Addr} {vs : List V} (x : Ext g H g' H') (h : RestL g f H a vs) : RestL g' f H' a vs :=
  ⟨x.out h.1 (by rw [h.2.2]; simp), h.2.1, x.keep _ _ h.2.2 h.1⟩
theorem ScrL.ext {a : Addr} {vs : List V} (x : Ext g H g' H') (h : ScrL K g f H a vs) : ScrL K g' f H' a vs := by
  rcases h with ⟨h1, h2, h3⟩ | h
  · exact .inl ⟨x.out h1 (Rd.live h3), h2, Rd.keep x h3 h1⟩
  · exact .inr h
theorem RestL.less {a : Addr} {vs : List V} (h : RestL g f H a vs) (s : ∀ b ∈ f', b ∈ f) : RestL g f' H a vs := ⟨h.1, fun q => h.2.1 (s _ q), h.2.2⟩
theorem ScrL.less {a : Addr} {vs : List V} (h : ScrL K g f H a vs) (s : ∀ b ∈ f', b ∈ f) : ScrL K g f' H a vs := by
  rcases h with ⟨h1, h2, h3⟩ | h
  · exact .inl ⟨h1, fun q => h2 (s _ q), h3⟩
  · exact .inr h
theorem RestL.sq {a : Addr} {vs : List V} (h : RestL g f H a vs) : SqL K H a vs := .of h.2.2
theorem ScrL.sq {a : Addr} {vs : List V} (h : ScrL K g f H a vs) : SqL K H a vs := by
  rcases h with ⟨_, _, h⟩ | h
  · exact .inl h
  · exact .inr h
mutual
theorem RelD.ext (x : Ext g H g' H') : ∀ (d : D) (v : V), RelD K g f H d v → RelD K g' f H' d v
  | .non, _, h => h
  | .bl _, _, h => h
  | .int _, _, h => h
  | .str _, _, h => h
  | .raw _, _, h => h
  | .tup l, _, h => by
    obtain ⟨a, vs, e, q, r⟩ := h
    exact ⟨a, vs, e, SqT.ext x q, RelDs.ext x l vs r⟩
  | .lst l, _, h => by
    obtain ⟨a, vs, e, q, r⟩ := h
    exact ⟨a, vs, e, q.ext x, RelDs.ext x l vs r⟩
  | .loc n, _, h => by
    obtain ⟨a, e, q⟩ := h
    exact ⟨a, e, x.get q⟩
  | .scr l, _, ⟨a, e, q⟩ => ⟨a, e, q.ext x⟩
theorem RelDs.ext (x : Ext g H g' H') : ∀ (l : List D) (vs : List V), RelDs K g f H l vs → RelDs K g' f H' l vs
  | [], _, h => h
  | d :: ds, _, h => by
    obtain ⟨v, r, e, q, t⟩ := h
    exact ⟨v, r, e, RelD.ext x d v q, RelDs.ext x ds r t⟩
end
mutual
theorem RelD.less (s : ∀ b ∈ f', b ∈ f) : ∀ (d : D) (v : V), RelD K g f H d v → RelD K g f' H d v
  | .non, _, h => h
  | .bl _, _, h => h
  | .int _, _, h => h
  | .str _, _, h => h
  | .raw _, _, h => h
  | .tup l, _, h => by
    obtain ⟨a, vs, e, q, r⟩ := h
    exact ⟨a, vs, e, q, RelDs.less s l vs r⟩
  | .lst l, _, h => by
    obtain ⟨a, vs, e, q, r⟩ := h
    exact ⟨a, vs, e, q.less s, RelDs.less s l vs r⟩
  | .loc n, _, h => h
  | .scr l, _, ⟨a, e, q⟩ => ⟨a, e, q.less s⟩
theorem RelDs.less (s : ∀ b ∈ f', b ∈ f) : ∀ (l : List D) (vs : List V), RelDs K g f H l vs → RelDs K g f' H l vs
  | [], _, h => h
  | d :: ds, _, h => by
    obtain ⟨v, r, e, q, t⟩ := h
    exact ⟨v, r, e, RelD.less s d v q, RelDs.less s ds r t⟩
end
theorem RelKv.ext {κ : Type} (x : Ext g H g' H') : ∀ (l : List (κ × D)) (vs : List (κ × V)), RelKv K g f H l vs → RelKv K g' f H' l vs
  | [], _, h => h
  | p :: ps, _, h => by
    obtain ⟨v, r, e, q, t⟩ := h
    exact ⟨v, r, e, RelD.ext x _ v q, RelKv.ext x ps r t⟩
theorem RelKv.less {κ : Type} (s : ∀ b ∈ f', b ∈ f) : ∀ (l : List (κ × D)) (vs : List (κ × V)), RelKv K g f H l vs → RelKv K g f' H l vs
  | [], _, h => h
  | p :: ps, _, h => by
    obtain ⟨v, r, e, q, t⟩ := h
    exact ⟨v, r, e, RelD.less s _ v q, RelKv.less s ps r t⟩
theorem RelC.less {a : Addr} (s : ∀ b ∈ f', b ∈ f) : ∀ {c : Cell}, RelC K g f H a c → RelC K g f' H a c
  | .lst l, ⟨vs, e, r⟩ => ⟨vs, e, RelDs.less s l vs r⟩
  | .dK l, ⟨vs, e, r⟩ => ⟨vs, e, RelKv.less s l vs r⟩
  | .dT l, ⟨vs, e, r, r'⟩ => ⟨vs, e, RelKv.less s _ _ r, RelKv.less s _ _ r'⟩
  | .dF l, ⟨vs, e, r⟩ => ⟨vs, e, RelKv.less s l vs r⟩
theorem RelC.live {a : Addr} : ∀ {c : Cell}, RelC K g f H a c → H a ≠ none
  | .lst l, ⟨vs, e, r⟩ => by rw [e]; simp
  | .dK l, ⟨vs, e, r⟩ => by rw [e]; simp
  | .dT l, ⟨vs, e, r, _⟩ => by rw [e]; simp
  | .dF l, ⟨vs, ⟨ob, e⟩, r⟩ => by rw [e]; simp
/-- an own cell stands through what expressions do -/
theorem RelC.ext {a : Addr} (x : Ext g H g' H') (hn : a ∉ g) : ∀ {c : Cell}, RelC K g f H a c → RelC K g' f H' a c
  | .lst l, ⟨vs, e, r⟩ => ⟨vs, x.keep _ _ e hn, RelDs.ext x l vs r⟩
  | .dK l, ⟨vs, e, r⟩ => ⟨vs, x.keep _ _ e hn, RelKv.ext x l vs r⟩
  | .dT l, ⟨vs, e, r, r'⟩ => ⟨vs, x.keep _ _ e hn, RelKv.ext x _ _ r, RelKv.ext x _ _ r'⟩
  | .dF l, ⟨vs, ⟨ob, e⟩, r⟩ => ⟨vs, ⟨ob, x.keep _ _ e hn⟩, RelKv.ext x l vs r⟩
theorem RelS.less {S : Store} (s : ∀ b ∈ f', b ∈ f) (h : RelS K g f H S) : RelS K g f' H S := ⟨h.len, h.nod, fun n c a e1 e2 => (h.cel n c a e1 e2).less s⟩
theorem RelS.live {S : Store} (h : RelS K g f H S) {a : Addr} (m : a ∈ g) : H a ≠ none := by
  obtain ⟨n, hn⟩ := List.mem_iff_getElem?.mp m
  have hl : n < S.length := by
    rw [← h.len]
    rcases Nat.lt_or_ge n g.length with q | q
    · exact q
    · rw [List.getElem?_eq_none q] at hn; cases hn
  exact (h.cel n S[n] a (List.getElem?_eq_getElem hl) hn).live
end
/-! ### the state of a frame -/
structure Sta (K : PySem.W.Frag) (g w o : List Addr) (ρ : MEnv) (S : Store) (σ : L2.St) (H : Hp) : Prop where
  len : ρ.length = σ.length
  val : ∀ (i : Nat) (d : D), ρ[i]? = some (some (.val d)) → ∃ v, σ[i]? = some (some v) ∧ RelD K g (w ++ o) H d v
  own : ∀ (i : Nat) (c : Cell), ρ[i]? = some (some (.own c)) → ∃ a, σ[i]? = some (some (V.ref a)) ∧ a ∈ o ∧ RelC K g (w ++ o) H a c
  inj : ∀ (i j : Nat) (c d : Cell) (a : Addr), ρ[i]? = some (some (.own c)) → ρ[j]? = some (some (.own d)) → σ[i]? = some (some (V.ref a)) → σ[j]? = some (some (V.ref a)) → i = j
  out : ∀ a ∈ o, a ∉ g ∧ a ∉ w
  liv : ∀ a ∈ w ++ o, H a ≠ none
  sto : RelS K g (w ++ o) H S

section
variable {K : PySem.W.Frag} {g g' g1 g2 w o f f' : List Addr} {H H' H1 H2 : Hp} {ρ : MEnv} {S S' : Store} {σ : L2.St}
/-- behind an expression -/
theorem Sta.ext (s : Sta K g w o ρ S σ H) (x : Ext g H g' H') (t : RelS K g' (w ++ o) H' S') : Sta K g' w o ρ S' σ H' where
  len := s.len
  val := fun i d e => let ⟨v, e1, r⟩ := s.val i d e; ⟨v, e1, RelD.ext x d v r⟩
  own := fun i c e => let ⟨a, e1, m, r⟩ := s.own i c e; ⟨a, e1, m, r.ext x (s.out a m).1⟩
  inj := s.inj
  out := fun a m => ⟨x.out (s.out a m).1 (s.liv a (List.mem_append_right _ m)), (s.out a m).2⟩
  liv := fun a m => x.live a (s.liv a m)
  sto := t

/-! ### what an expression means -/
abbrev ME := MEnv → Store → R D
abbrev MT := MEnv → Store → R Bool
abbrev MA := MEnv → Store → R (List D)
/-- what is had behind an expression whose meaning is d, S' -/
def FinE (K : PySem.W.Frag) (g f : List Addr) (H : Hp) (d : D) (S' : Store) (Q : VK) : Prop :=
  ∀ v g' H', Ext g H g' H' → RelS K g' f H' S' → RelD K g' f H' d v → Q v H'
def tE (K : PySem.W.Frag) (m : ME) : TE := fun σ H Q => ∃ g w o ρ S d S', Sta K g w o ρ S σ H ∧ m ρ S = .ok d S' ∧ FinE K g (w ++ o) H d S' Q
def tM (K : PySem.W.Frag) (m : MT) : TT := fun σ H Q => ∃ g w o ρ S b S', Sta K g w o ρ S σ H ∧ m ρ S = .ok b S' ∧
  ∀ g' H', Ext g H g' H' → RelS K g' (w ++ o) H' S' → Q b H'
def tA (K : PySem.W.Frag) (m : MA) : TA := fun σ H Q => ∃ g w o ρ S l S', Sta K g w o ρ S σ H ∧ m ρ S = .ok l S' ∧
  ∀ vs g' H', Ext g H g' H' → RelS K g' (w ++ o) H' S' → RelDs K g' (w ++ o) H' l vs → Q vs H'
def EM (X : Cx) (e : Expr) (m : ME) : Prop := PE X e (tE X.K m)
def TM (X : Cx) (e : Expr) (m : MT) : Prop := PT X e (tM X.K m)
def AM (X : Cx) (es : List Expr) (m : MA) : Prop := PA X es (tA X.K m)
end
section
variable {X : Cx} {e : Expr}
theorem PE.of {t t' : TE} (h : PE X e t) (i : ∀ σ H Q, t' σ H Q → t σ H Q) : PE X e t' := ⟨fun pins s σ H Q I q => h.run pins s σ H Q I (i σ H Q q)⟩
theorem PT.of {t t' : TT} (h : PT X e t) (i : ∀ σ H Q, t' σ H Q → t σ H Q) : PT X e t' := ⟨fun pins s σ H Q I q => h.run pins s σ H Q I (i σ H Q q)⟩
theorem PA.of {es : List Expr} {t t' : TA} (h : PA X es t) (i : ∀ σ H Q, t' σ H Q → t σ H Q) : PA X es t' := ⟨fun pos pins s σ H Q I q => h.run pos pins s σ H Q I (i σ H Q q)⟩
theorem PS.of {st : Stmt} {t t' : TS} (h : PS X st t) (i : ∀ D σ H, t' D σ H → t D σ H) : PS X st t' := ⟨fun pins s σ H D I q => h.run pins s σ H D I (i D σ H q)⟩
theorem PSs.of {st : List Stmt} {t t' : TS} (h : PSs X st t) (i : ∀ D σ H, t' D σ H → t D σ H) : PSs X st t' := ⟨fun pins s σ H D I q => h.run pins s σ H D I (i D σ H q)⟩

/-! ### names and constants -/
def mVar (i : Nat) : ME := fun ρ S => match ρ[i]? with
  | some (some (.val d)) => .ok d S
  | _ => .bad
def mC (d : D) : ME := fun _ S => .ok d S
theorem em_var {i : Nat} (h : PE X e (tVar i)) : EM X e (mVar i) := PE.of h fun σ H Q ⟨g, w, o, ρ, S, d, S', s, hm, q⟩ => by
  unfold mVar at hm
  split at hm
  · rename_i d' e'
    cases hm
    obtain ⟨v, e1, r⟩ := s.val i _ e'
    exact ⟨v, e1, q v g H .refl s.sto r⟩
  · cases hm
/-- a constant: what stands for it whatever the heap -/
theorem em_c {v : V} {d : D} (h : PE X e (tC v)) (hd : ∀ K g f H, RelD K g f H d v) : EM X e (mC d) := PE.of h fun σ H Q ⟨g, w, o, ρ, S, d', S', s, hm, q⟩ => by
  unfold mC at hm
  cases hm
  exact q v g H .refl s.sto (hd _ _ _ _)
theorem em_int {i j pos} : EM X (.Constant (.int i) j pos) (mC (.int i)) := em_c pe_int fun _ _ _ _ => rfl
theorem em_bl {b j pos} : EM X (.Constant (.bool b) j pos) (mC (.bl b)) := em_c pe_bl fun _ _ _ _ => rfl
theorem em_non {j pos} : EM X (.Constant .none j pos) (mC .non) := em_c pe_non fun _ _ _ _ => rfl
theorem em_str {x j pos} : EM X (.Constant (.str x) j pos) (mC (.str x)) := em_c pe_str fun _ _ _ _ => rfl

/-! ### two-place operations -/
abbrev G2 := D → D → Store → R D
def m2 (h : G2) (a b : ME) : ME := fun ρ S => (a ρ S).bind fun x S1 => (b ρ S1).bind fun y S2 => h x y S2
/-- a rule on values, by what the data say -/
def OpD (K : PySem.W.Frag) (r : R2) (h : G2) : Prop := ∀ (g f : List Addr) (H : Hp) (S : Store) (dx dy d : D) (S' : Store) (x y : V) (Q : VK),
  RelS K g f H S → RelD K g f H dx x → RelD K g f H dy y → h dx dy S = .ok d S' → FinE K g f H d S' Q → r x y H Q
variable {a b c : Expr} {ma mb mc : ME} {pos : Pos}
theorem op_of {r : R2} {h : G2} (od : OpD X.K r h) {σ : L2.St} {H : Hp} {Q : VK} (q : tE X.K (m2 h ma mb) σ H Q) : tOp r (tE X.K ma) (tE X.K mb) σ H Q := by
  obtain ⟨g, w, o, ρ, S, d, S', s, hm, q⟩ := q
  obtain ⟨x, S1, h1, hm⟩ := R.bind_ok hm
  obtain ⟨y, S2, h2, hm⟩ := R.bind_ok hm
  refine ⟨g, w, o, ρ, S, x, S1, s, h1, fun vx g1 H1 x1 s1 r1 => ?_⟩
  have st1 := s.ext x1 s1
  refine ⟨g1, w, o, ρ, S1, y, S2, st1, h2, fun vy g2 H2 x2 s2 r2 => ?_⟩
  exact od g2 (w ++ o) H2 S2 x y d S' vx vy Q s2 (RelD.ext x2 x vx r1) r2 hm fun v g3 H3 x3 s3 r3 => q v g3 H3 ((x1.trans x2).trans x3) s3 r3
theorem em_op {op : Operator} {r : R2} {h : G2} (ho : OpR X (binaryOp op) r) (od : OpD X.K r h) (ha : EM X a ma) (hb : EM X b mb) : EM X (.BinOp a op b pos) (m2 h ma mb) :=
  PE.of (pe_op ho ha hb) fun _ _ _ q => op_of od q
theorem em_cmp {op : CmpOp} {r : R2} {h : G2} (ho : OpR X (compareOp op) r) (od : OpD X.K r h) (ha : EM X a ma) (hb : EM X b mb) (hm : behindInMarks op b = false) : EM X (.Compare a [op] [b] pos) (m2 h ma mb) :=
  PE.of (pe_cmpR ho ha hb hm) fun _ _ _ q => op_of od q
theorem em_ix {r : R2} {h : G2} (ho : IxR X r) (od : OpD X.K r h) (ha : EM X a ma) (hb : EM X b mb) (hs : PlainIx b) : EM X (.Subscript a b pos) (m2 h ma mb) :=
  PE.of (pe_ix ho ha hb hs) fun _ _ _ q => op_of od q
end
end Mo
set_option maxRecDepth 100000
set_option maxHeartbeats 1000000
/-! Mo: statements. -/
namespace Mo
open PySem PySem.Spec PyProof.Rows L2

inductive Fl where
  | nx (ρ : MEnv)
  | rt (d : D)
  | bk (ρ : MEnv)
  | ct (ρ : MEnv)
abbrev MS := MEnv → Store → R Fl

/-- .. behind a statement: own cells may have changed, too -/
structure ExtS (g o : List Addr) (H : Hp) (g' o' : List Addr) (H' : Hp) : Prop where
  more : ∃ ns, g' = g ++ ns ∧ ∀ p ∈ ns, H p = none
  keep : ∀ a u, H a = some u → a ∉ g → a ∉ o → H' a = some u
  live : ∀ a, H a ≠ none → H' a ≠ none
  tups : ∀ a vs, Rd H a (.tup vs) → Rd H' a (.tup vs)
  frz : ∀ a o u, H a = some (.frz o u) → H' a = some (.frz o u)
  lam : ∀ a ∈ o', a ∈ o ∨ H a = none

section
variable {K : PySem.W.Frag} {g g' g1 g2 w o o' o1 o2 f f' : List Addr} {H H' H1 H2 : Hp} {ρ : MEnv} {S S' : Store} {σ : L2.St}
theorem Ext.s (x : Ext g H g' H') : ExtS g o H g' o H' := ⟨x.more, fun a u h n _ => x.keep a u h n, x.live, x.tups, x.frz, fun _ h => .inl h⟩
theorem ExtS.refl : ExtS g o H g o H := Ext.s .refl
theorem ExtS.trans (a : ExtS g o H g1 o1 H1) (b : ExtS g1 o1 H1 g2 o2 H2) : ExtS g o H g2 o2 H2 := by
  obtain ⟨n1, e1, h1⟩ := a.more
  obtain ⟨n2, e2, h2⟩ := b.more
  have back : ∀ p, H1 p = none → H p = none := fun p q => by
    cases e : H p with
    | none => rfl
    | some u => exact absurd q (a.live p (by rw [e]; simp))
  refine ⟨⟨n1 ++ n2, by rw [e2, e1, List.append_assoc], fun p hp => ?_⟩, fun c u hc hn ho => ?_, fun c h => b.live c (a.live c h), fun c vs h => b.tups c vs (a.tups c vs h), fun c o u h => b.frz c o u (a.frz c o u h), fun c h => ?_⟩
  · rcases List.mem_append.mp hp with q | q
    · exact h1 p q
    · exact back p (h2 p q)
  · refine b.keep c u (a.keep c u hc hn ho) ?_ fun q => ?_
    · rw [e1]
      intro q
      rcases List.mem_append.mp q with q | q
      · exact hn q
      · rw [h1 c q] at hc; cases hc
    · rcases a.lam c q with q | q
      · exact ho q
      · rw [q] at hc; cases hc
  · rcases b.lam c h with q | q
    · exact a.lam c q
    · exact .inr (back c q)
/-- seen from a frame without own cells -/
theorem ExtS.ext (x : ExtS g [] H g' o' H') : Ext g H g' H' := ⟨x.more, fun a u h n => x.keep a u h n (by simp), x.live, x.tups, x.frz⟩

theorem Sta.set {i : Nat} {d : D} {v : V} (s : Sta K g w o ρ S σ H) (r : RelD K g (w ++ o) H d v) : Sta K g w o (ρ.set i (some (.val d))) S (σ.set i (some v)) H where
  len := by rw [List.length_set, List.length_set]; exact s.len
  val := fun j e h => by
    by_cases hj : i = j
    · subst hj
      have hl : i < ρ.length := by
        rcases Nat.lt_or_ge i ρ.length with q | q
        · exact q
        · rw [List.getElem?_eq_none (by rw [List.length_set]; exact q)] at h; cases h
      rw [List.getElem?_set_self hl] at h
      cases h
      exact ⟨v, List.getElem?_set_self (by rw [← s.len]; exact hl), r⟩
    · rw [List.getElem?_set_ne hj] at h ⊢
      exact s.val j e h
  own := fun j c h => by
    by_cases hj : i = j
    · subst hj
      have hl : i < ρ.length := by
        rcases Nat.lt_or_ge i ρ.length with q | q
        · exact q
        · rw [List.getElem?_eq_none (by rw [List.length_set]; exact q)] at h; cases h
      rw [List.getElem?_set_self hl] at h
      cases h
    · rw [List.getElem?_set_ne hj] at h ⊢
      exact s.own j c h
  inj := fun j k c e a h1 h2 h3 h4 => by
    have nj : ∀ {j c}, (ρ.set i (some (.val d)))[j]? = some (some (Slot.own c)) → i ≠ j := fun {j c} h hj => by
      subst hj
      rcases Nat.lt_or_ge i ρ.length with q | q
      · rw [List.getElem?_set_self q] at h; cases h
      · rw [List.getElem?_eq_none (by rw [List.length_set]; exact q)] at h; cases h
    have n1 := nj h1
    have n2 := nj h2
    rw [List.getElem?_set_ne n1] at h1 h3
    rw [List.getElem?_set_ne n2] at h2 h4
    exact s.inj j k c e a h1 h2 h3 h4
  out := s.out
  liv := s.liv
  sto := s.sto

/-- what is had behind a statement -/
def FinS (K : PySem.W.Frag) (g w o : List Addr) (H : Hp) (fl : Fl) (S' : Store) (E : Ends) : Prop := ∀ g' o' H', ExtS g o H g' o' H' → match fl with
  | .nx ρ' => ∀ σ', Sta K g' w o' ρ' S' σ' H' → E.nx σ' H'
  | .bk ρ' => ∀ σ', Sta K g' w o' ρ' S' σ' H' → E.bk σ' H'
  | .ct ρ' => ∀ σ', Sta K g' w o' ρ' S' σ' H' → E.ct σ' H'
  | .rt d => ∀ v, RelS K g' w H' S' → RelD K g' w H' d v → E.rt v H'
def tS (K : PySem.W.Frag) (m : MS) : TS := fun E σ H => ∃ g w o ρ S fl S', Sta K g w o ρ S σ H ∧ m ρ S = .ok fl S' ∧ FinS K g w o H fl S' E
def SM (X : Cx) (st : Stmt) (m : MS) : Prop := PS X st (tS X.K m)
def SsM (X : Cx) (st : List Stmt) (m : MS) : Prop := PSs X st (tS X.K m)
theorem FinS.after {fl : Fl} {E : Ends} (q : FinS K g w o H fl S' E) (x : ExtS g o H g1 o1 H1) : FinS K g1 w o1 H1 fl S' E := fun g' o' H' y => q g' o' H' (x.trans y)
end

section
variable {X : Cx} {st : Stmt} {rest : List Stmt} {e c : Expr} {m m1 m2 ma mb : MS} {me : ME} {mt : MT} {pos : Pos}
def mNil : MS := fun ρ S => .ok (.nx ρ) S
theorem ssm_nil : SsM X [] mNil := PSs.of pss_nil fun E σ H ⟨g, w, o, ρ, S, fl, S', s, hm, q⟩ => by
  cases hm
  exact q g o H .refl σ s
def mSeq (m1 m2 : MS) : MS := fun ρ S => (m1 ρ S).bind fun fl S1 => match fl with
  | .nx ρ1 => m2 ρ1 S1
  | fl => .ok fl S1
theorem ssm_cons (h1 : SM X st m1) (h2 : SsM X rest m2) : SsM X (st :: rest) (mSeq m1 m2) := PSs.of (pss_cons h1 h2) fun E σ H ⟨g, w, o, ρ, S, fl, S', s, hm, q⟩ => by
  obtain ⟨f1, S1, e1, hm⟩ := R.bind_ok hm
  refine ⟨g, w, o, ρ, S, f1, S1, s, e1, fun g1 o1 H1 x1 => ?_⟩
  cases f1 with
  | nx ρ1 => exact fun σ1 s1 => ⟨g1, w, o1, ρ1, S1, fl, S', s1, hm, q.after x1⟩
  | rt d => cases hm; exact q g1 o1 H1 x1
  | bk d => cases hm; exact q g1 o1 H1 x1
  | ct d => cases hm; exact q g1 o1 H1 x1
theorem ssm_one (h1 : SM X st m1) : SsM X [st] m1 := pss_one h1
/-- name = e -/
def mSet (i : Nat) (m : ME) : MS := fun ρ S => (m ρ S).bind fun d S1 => .ok (.nx (ρ.set i (some (.val d)))) S1
theorem sm_set {i : Nat} (h : PS X st (tAsg (tE X.K me) (gName i))) : SM X st (mSet i me) := PS.of h fun E σ H ⟨g, w, o, ρ, S, fl, S', s, hm, q⟩ => by
  obtain ⟨d, S1, e1, hm⟩ := R.bind_ok hm
  cases hm
  exact ⟨g, w, o, ρ, S, d, S', s, e1, fun v g1 H1 x1 s1 r1 => q g1 o H1 x1.s _ ((s.ext x1 s1).set r1)⟩
def mRet (m : ME) : MS := fun ρ S => (m ρ S).bind fun d S1 => .ok (.rt d) S1
theorem sm_ret (h : EM X e me) : SM X (.Return (some e) pos) (mRet me) := PS.of (ps_ret h) fun E σ H ⟨g, w, o, ρ, S, fl, S', s, hm, q⟩ => by
  obtain ⟨d, S1, e1, hm⟩ := R.bind_ok hm
  cases hm
  have sub : ∀ b ∈ w, b ∈ w ++ o := fun b hb => List.mem_append_left _ hb
  exact ⟨g, w, o, ρ, S, d, S', s, e1, fun v g1 H1 x1 s1 r1 => q g1 o H1 x1.s v (s1.less sub) (RelD.less sub d v r1)⟩
def mRetN : MS := fun _ S => .ok (.rt .non) S
theorem sm_retN : SM X (.Return none pos) mRetN := PS.of ps_retN fun E σ H ⟨g, w, o, ρ, S, fl, S', s, hm, q⟩ => by
  cases hm
  have sub : ∀ b ∈ w, b ∈ w ++ o := fun b hb => List.mem_append_left _ hb
  exact q g o H .refl .non (s.sto.less sub) rfl
def mDrop (m : ME) : MS := fun ρ S => (m ρ S).bind fun _ S1 => .ok (.nx ρ) S1
theorem sm_drop (h : PS X st (tDrop (tE X.K me))) : SM X st (mDrop me) := PS.of h fun E σ H ⟨g, w, o, ρ, S, fl, S', s, hm, q⟩ => by
  obtain ⟨d, S1, e1, hm⟩ := R.bind_ok hm
  cases hm
  exact ⟨g, w, o, ρ, S, d, S', s, e1, fun v g1 H1 x1 s1 r1 => q g1 o H1 x1.s _ (s.ext x1 s1)⟩
def mIf (c : MT) (a b : MS) : MS := fun ρ S => (c ρ S).bind fun k S1 => if k = true then a ρ S1 else b ρ S1
theorem sm_if {a b : List Stmt} (hc : TM X c mt) (ha : SsM X a ma) (hb : SsM X b mb) : SM X (.If c a b pos) (mIf mt ma mb) := PS.of (ps_if hc ha hb) fun E σ H ⟨g, w, o, ρ, S, fl, S', s, hm, q⟩ => by
  obtain ⟨k, S1, e1, hm⟩ := R.bind_ok hm
  refine ⟨g, w, o, ρ, S, k, S1, s, e1, fun g1 H1 x1 s1 => ?_⟩
  have st1 := s.ext x1 s1
  cases k with
  | true => exact ⟨g1, w, o, ρ, S1, fl, S', st1, hm, q.after x1.s⟩
  | false => exact ⟨g1, w, o, ρ, S1, fl, S', st1, hm, q.after x1.s⟩
def mPass : MS := mNil
theorem sm_pass : SM X (.Pass pos) mPass := PS.of ps_pass fun E σ H ⟨g, w, o, ρ, S, fl, S', s, hm, q⟩ => by
  cases hm
  exact q g o H .refl σ s
theorem sm_doc {x j pos pos'} : SM X (.Expr (.Constant (.str x) j pos) pos') mPass := PS.of ps_doc fun E σ H ⟨g, w, o, ρ, S, fl, S', s, hm, q⟩ => by
  cases hm
  exact q g o H .refl σ s
def mBrk : MS := fun ρ S => .ok (.bk ρ) S
def mCnt : MS := fun ρ S => .ok (.ct ρ) S
theorem sm_break : SM X (.Break pos) mBrk := PS.of ps_break fun E σ H ⟨g, w, o, ρ, S, fl, S', s, hm, q⟩ => by
  cases hm
  exact q g o H .refl σ s
theorem sm_continue : SM X (.Continue pos) mCnt := PS.of ps_continue fun E σ H ⟨g, w, o, ρ, S, fl, S', s, hm, q⟩ => by
  cases hm
  exact q g o H .refl σ s
/-- a step of the proof alone, ahead of statements -/
theorem ssm_ghost {sts : List Stmt} {gh : MEnv → MEnv} (h : SsM X sts m)
    (hg : ∀ g w o ρ S σ H, Sta X.K g w o ρ S σ H → ∃ o', (∀ a ∈ o', a ∈ o) ∧ Sta X.K g w o' (gh ρ) S σ H) : SsM X sts (fun ρ S => m (gh ρ) S) := PSs.of h fun E σ H ⟨g, w, o, ρ, S, fl, S', s, hm, q⟩ => by
  obtain ⟨o', so, s'⟩ := hg g w o ρ S σ H s
  refine ⟨g, w, o', gh ρ, S, fl, S', s', hm, fun g1 o1 H1 x1 => q g1 o1 H1 ⟨x1.more, fun a u h n ho => x1.keep a u h n fun z => ho (so a z), x1.live, x1.tups, x1.frz, fun a h => ?_⟩⟩
  rcases x1.lam a h with z | z
  · exact .inl (so a z)
  · exact .inr z
end
end Mo
set_option maxRecDepth 100000
set_option maxHeartbeats 1000000
/-! Mo: tests, arguments, displays, calls, defs. -/
namespace Mo
open PySem PySem.Spec PyProof.Rows L2

section
variable {X : Cx} {a b c e : Expr} {rest : List Expr} {ma mb mc me : ME} {ta tb tc : MT} {pos : Pos} {l : MA}

/-! ### tests -/
def isB : D → Store → R Bool
  | .bl k, S => .ok k S
  | _, _ => .bad
def mB (m : ME) : MT := fun ρ S => (m ρ S).bind isB
theorem isB_ok {d : D} {S S' : Store} {k : Bool} (h : isB d S = .ok k S') : d = .bl k ∧ S' = S := by
  cases d <;> cases h
  exact ⟨rfl, rfl⟩
theorem tm_ofB {t : TT} (h : PT X e t) (i : ∀ σ H Q, (tE X.K me σ H fun x H1 => ∃ k, x = .bl k ∧ Q k H1) → t σ H Q) : TM X e (mB me) := PT.of h fun σ H Q ⟨g, w, o, ρ, S, k, S', s, hm, q⟩ => by
  obtain ⟨d, S1, h1, h2⟩ := R.bind_ok hm
  obtain ⟨rfl, rfl⟩ := isB_ok h2
  exact i σ H Q ⟨g, w, o, ρ, S, _, _, s, h1, fun v g1 H1 x1 s1 r1 => ⟨k, r1, q g1 H1 x1 s1⟩⟩
theorem tm_val (h : EM X e me) (he : ∀ whole, isTrue e X.env whole = (do let v ← whole; standAt e.pos; holding [v] (truthy v)) := by intro _; rfl) : TM X e (mB me) := tm_ofB (pt_val h he) fun _ _ _ q => q
theorem tm_cmp {op : CmpOp} {r : R2} {h : G2} (ho : OpR X (compareOp op) r) (od : OpD X.K r h) (ha : EM X a ma) (hb : EM X b mb) (hm : behindInMarks op b = false) : TM X (.Compare a [op] [b] pos) (mB (m2 h ma mb)) :=
  tm_ofB (pt_cmpR ho ha hb hm) fun σ H Q q => op_of od q
def WM (X : Cx) (e : Expr) (m : MT) : Prop := PW X e (tM X.K m)
theorem WM.tm (h : WM X e ta) : TM X e ta := PW.pt h
theorem PW.of {t t' : TT} (h : PW X e t) (i : ∀ σ H Q, t' σ H Q → t σ H Q) : PW X e t' := ⟨fun wh pins s σ H Q I q => h.run wh pins s σ H Q I (i σ H Q q)⟩
def mAndT (a b : MT) : MT := fun ρ S => (a ρ S).bind fun k S1 => if k = true then b ρ S1 else .ok false S1
def mOrT (a b : MT) : MT := fun ρ S => (a ρ S).bind fun k S1 => if k = true then .ok true S1 else b ρ S1
def mNotT (a : MT) : MT := fun ρ S => (a ρ S).bind fun k S1 => .ok (!k) S1
theorem wm_and1 (ha : TM X a ta) : WM X (.BoolOp .And [a] pos) ta := pw_and1 ha
theorem wm_or1 (ha : TM X a ta) : WM X (.BoolOp .Or [a] pos) ta := pw_or1 ha
theorem wm_and (ha : TM X a ta) (hb : WM X (.BoolOp .And (b :: rest) pos) tb) : WM X (.BoolOp .And (a :: b :: rest) pos) (mAndT ta tb) := PW.of (pw_and ha hb) fun σ H Q ⟨g, w, o, ρ, S, k, S', s, hm, q⟩ => by
  obtain ⟨k1, S1, h1, hm⟩ := R.bind_ok hm
  refine ⟨g, w, o, ρ, S, k1, S1, s, h1, fun g1 H1 x1 s1 => ?_⟩
  cases k1 with
  | true => exact ⟨g1, w, o, ρ, S1, k, S', s.ext x1 s1, hm, fun g2 H2 x2 s2 => q g2 H2 (x1.trans x2) s2⟩
  | false => cases hm; exact q g1 H1 x1 s1
theorem wm_or (ha : TM X a ta) (hb : WM X (.BoolOp .Or (b :: rest) pos) tb) : WM X (.BoolOp .Or (a :: b :: rest) pos) (mOrT ta tb) := PW.of (pw_or ha hb) fun σ H Q ⟨g, w, o, ρ, S, k, S', s, hm, q⟩ => by
  obtain ⟨k1, S1, h1, hm⟩ := R.bind_ok hm
  refine ⟨g, w, o, ρ, S, k1, S1, s, h1, fun g1 H1 x1 s1 => ?_⟩
  cases k1 with
  | true => cases hm; exact q g1 H1 x1 s1
  | false => exact ⟨g1, w, o, ρ, S1, k, S', s.ext x1 s1, hm, fun g2 H2 x2 s2 => q g2 H2 (x1.trans x2) s2⟩
theorem tm_not (ha : TM X a ta) : TM X (.UnaryOp .Not a pos) (mNotT ta) := PT.of (pt_not ha) fun σ H Q ⟨g, w, o, ρ, S, k, S', s, hm, q⟩ => by
  obtain ⟨k1, S1, h1, hm⟩ := R.bind_ok hm
  cases hm
  exact ⟨g, w, o, ρ, S, k1, S', s, h1, fun g1 H1 x1 s1 => q g1 H1 x1 s1⟩
/-- and, or, not as values -/
def mAnd (a b : ME) : ME := fun ρ S => (a ρ S).bind fun d S1 => (isB d S1).bind fun k S2 => if k = true then b ρ S2 else .ok (.bl false) S2
def mOr (a b : ME) : ME := fun ρ S => (a ρ S).bind fun d S1 => (isB d S1).bind fun k S2 => if k = true then .ok (.bl true) S2 else b ρ S2
def mNot (a : ME) : ME := fun ρ S => (a ρ S).bind fun d S1 => (isB d S1).bind fun k S2 => .ok (.bl (!k)) S2
theorem em_one {op} (h : EM X a ma) : EM X (.BoolOp op [a] pos) ma := pe_one h
theorem em_and (ha : EM X a ma) (hb : EM X (.BoolOp .And (b :: rest) pos) mb) : EM X (.BoolOp .And (a :: b :: rest) pos) (mAnd ma mb) := PE.of (pe_and ha hb) fun σ H Q ⟨g, w, o, ρ, S, d, S', s, hm, q⟩ => by
  obtain ⟨d1, S1, h1, hm⟩ := R.bind_ok hm
  obtain ⟨k, S2, h2, hm⟩ := R.bind_ok hm
  obtain ⟨rfl, rfl⟩ := isB_ok h2
  refine ⟨g, w, o, ρ, S, _, _, s, h1, fun v g1 H1 x1 s1 r1 => ⟨k, r1, ?_⟩⟩
  cases k with
  | true => exact ⟨g1, w, o, ρ, _, d, S', s.ext x1 s1, hm, fun v g2 H2 x2 s2 r2 => q v g2 H2 (x1.trans x2) s2 r2⟩
  | false => cases hm; exact q _ g1 H1 x1 s1 rfl
theorem em_or (ha : EM X a ma) (hb : EM X (.BoolOp .Or (b :: rest) pos) mb) : EM X (.BoolOp .Or (a :: b :: rest) pos) (mOr ma mb) := PE.of (pe_or ha hb) fun σ H Q ⟨g, w, o, ρ, S, d, S', s, hm, q⟩ => by
  obtain ⟨d1, S1, h1, hm⟩ := R.bind_ok hm
  obtain ⟨k, S2, h2, hm⟩ := R.bind_ok hm
  obtain ⟨rfl, rfl⟩ := isB_ok h2
  refine ⟨g, w, o, ρ, S, _, _, s, h1, fun v g1 H1 x1 s1 r1 => ⟨k, r1, ?_⟩⟩
  cases k with
  | true => cases hm; exact q _ g1 H1 x1 s1 rfl
  | false => exact ⟨g1, w, o, ρ, _, d, S', s.ext x1 s1, hm, fun v g2 H2 x2 s2 r2 => q v g2 H2 (x1.trans x2) s2 r2⟩
theorem em_not (ha : EM X a ma) : EM X (.UnaryOp .Not a pos) (mNot ma) := PE.of (pe_not ha) fun σ H Q ⟨g, w, o, ρ, S, d, S', s, hm, q⟩ => by
  obtain ⟨d1, S1, h1, hm⟩ := R.bind_ok hm
  obtain ⟨k, S2, h2, hm⟩ := R.bind_ok hm
  obtain ⟨rfl, rfl⟩ := isB_ok h2
  cases hm
  exact ⟨g, w, o, ρ, S, _, _, s, h1, fun v g1 H1 x1 s1 r1 => ⟨k, r1, q _ g1 H1 x1 s1 rfl⟩⟩
def mIfE (c : MT) (a b : ME) : ME := fun ρ S => (c ρ S).bind fun k S1 => if k = true then a ρ S1 else b ρ S1
theorem em_ifE (hc : TM X c tc) (ha : EM X a ma) (hb : EM X b mb) : EM X (.IfExp c a b pos) (mIfE tc ma mb) := PE.of (pe_ifExp hc ha hb) fun σ H Q ⟨g, w, o, ρ, S, d, S', s, hm, q⟩ => by
  obtain ⟨k, S1, h1, hm⟩ := R.bind_ok hm
  refine ⟨g, w, o, ρ, S, k, S1, s, h1, fun g1 H1 x1 s1 => ?_⟩
  cases k with
  | true => exact ⟨g1, w, o, ρ, _, d, S', s.ext x1 s1, hm, fun v g2 H2 x2 s2 r2 => q v g2 H2 (x1.trans x2) s2 r2⟩
  | false => exact ⟨g1, w, o, ρ, _, d, S', s.ext x1 s1, hm, fun v g2 H2 x2 s2 r2 => q v g2 H2 (x1.trans x2) s2 r2⟩
/-- a < b < c -/
def mChain (h h' : G2) (a b c : ME) : ME := fun ρ S => (a ρ S).bind fun x S1 => (b ρ S1).bind fun y S2 => (h x y S2).bind fun d S3 => (isB d S3).bind fun k S4 =>
  if k = true then (c ρ S4).bind fun z S5 => h' y z S5 else .ok (.bl false) S4
theorem chain_of {r r' : R2} {h h' : G2} (od : OpD X.K r h) (od' : OpD X.K r' h') {σ : L2.St} {H : Hp} {Q : VK} (q : tE X.K (mChain h h' ma mb mc) σ H Q) : tChain r r' (tE X.K ma) (tE X.K mb) (tE X.K mc) σ H Q := by
  obtain ⟨g, w, o, ρ, S, d, S', s, hm, q⟩ := q
  obtain ⟨x, S1, h1, hm⟩ := R.bind_ok hm
  obtain ⟨y, S2, h2, hm⟩ := R.bind_ok hm
  obtain ⟨d3, S3, h3, hm⟩ := R.bind_ok hm
  obtain ⟨k, S4, h4, hq⟩ := R.bind_ok hm
  obtain ⟨rfl, rfl⟩ := isB_ok h4
  refine ⟨g, w, o, ρ, S, x, S1, s, h1, fun vx g1 H1 x1 s1 r1 => ?_⟩
  have t1 := s.ext x1 s1
  refine ⟨g1, w, o, ρ, S1, y, S2, t1, h2, fun vy g2 H2 x2 s2 r2 => ?_⟩
  refine od g2 (w ++ o) H2 S2 x y _ _ vx vy _ s2 (RelD.ext x2 x vx r1) r2 h3 fun v3 g3 H3 x3 s3 r3 => ⟨k, r3, ?_⟩
  have t3 := (t1.ext x2 s2).ext x3 s3
  cases k with
  | true =>
    rw [if_pos rfl] at hq ⊢
    obtain ⟨z, S5, h5, hq⟩ := R.bind_ok hq
    refine ⟨g3, w, o, ρ, _, z, S5, t3, h5, fun vz g4 H4 x4 s4 r4 => ?_⟩
    exact od' g4 (w ++ o) H4 S5 y z d S' vy vz Q s4 (RelD.ext (x3.trans x4) y vy r2) r4 hq fun v g5 H5 x5 s5 r5 => q v g5 H5 ((((x1.trans x2).trans x3).trans x4).trans x5) s5 r5
  | false => cases hq; exact q _ g3 H3 ((x1.trans x2).trans x3) s3 rfl
theorem em_chain {op op' : CmpOp} {r r' : R2} {h h' : G2} (ho : OpR X (compareOp op) r) (od : OpD X.K r h) (ho' : OpR X (compareOp op') r') (od' : OpD X.K r' h') (ha : EM X a ma) (hb : EM X b mb) (hc : EM X c mc)
    (hm : lastMarks [op, op'] [b, c] = false := by with_unfolding_all rfl) : EM X (.Compare a [op, op'] [b, c] pos) (mChain h h' ma mb mc) := PE.of (pe_chain ho ho' ha hb hc hm) fun _ _ _ q => chain_of od od' q
theorem tm_chain {op op' : CmpOp} {r r' : R2} {h h' : G2} (ho : OpR X (compareOp op) r) (od : OpD X.K r h) (ho' : OpR X (compareOp op') r') (od' : OpD X.K r' h') (ha : EM X a ma) (hb : EM X b mb) (hc : EM X c mc)
    (hm : lastMarks [op, op'] [b, c] = false := by with_unfolding_all rfl) : TM X (.Compare a [op, op'] [b, c] pos) (mB (mChain h h' ma mb mc)) := tm_ofB (pt_chain ho ho' ha hb hc hm) fun _ _ _ q => chain_of od od' q

/-! ### arguments -/
def aNil : MA := fun _ S => .ok [] S
def aCons (m : ME) (r : MA) : MA := fun ρ S => (m ρ S).bind fun d S1 => (r ρ S1).bind fun ds S2 => .ok (d :: ds) S2
theorem am_nil : AM X [] aNil := PA.of pa_nil fun σ H Q ⟨g, w, o, ρ, S, ds, S', s, hm, q⟩ => by
  cases hm
  exact q [] g H .refl s.sto rfl
theorem am_cons (ha : EM X e me) (hr : AM X rest l) (hs : starEach (e :: rest) X.env = (false, eval e X.env) :: starEach rest X.env := by rfl) : AM X (e :: rest) (aCons me l) := PA.of (pa_cons ha hr hs) fun σ H Q ⟨g, w, o, ρ, S, ds, S', s, hm, q⟩ => by
  obtain ⟨d, S1, h1, hm⟩ := R.bind_ok hm
  obtain ⟨dr, S2, h2, hm⟩ := R.bind_ok hm
  cases hm
  refine ⟨g, w, o, ρ, S, d, S1, s, h1, fun v g1 H1 x1 s1 r1 => ?_⟩
  refine ⟨g1, w, o, ρ, S1, dr, _, s.ext x1 s1, h2, fun vs g2 H2 x2 s2 r2 => ?_⟩
  exact q (v :: vs) g2 H2 (x1.trans x2) s2 ⟨v, vs, rfl, RelD.ext x2 d v r1, r2⟩
end

section
variable {K : PySem.W.Frag} {g g' f : List Addr} {H : Hp}
theorem Ext.new {p : Addr} {u : HO} (h : H p = none) : Ext g H g (upd H p u) where
  more := ⟨[], by simp, fun _ h => nomatch h⟩
  keep := fun a u' e _ => by rw [upd_ne (ne_of_none e h)]; exact e
  live := fun a n => by
    by_cases e : a = p
    · subst e; rw [upd_same]; simp
    · rw [upd_ne e]; exact n
  tups := fun a vs r => by
    have e : a ≠ p := fun e => Rd.live r (e ▸ h)
    rcases r with r | ⟨ob, r⟩
    · exact .inl (by rw [upd_ne e]; exact r)
    · exact .inr ⟨ob, by rw [upd_ne e]; exact r⟩
  frz := fun a o u' e => by rw [upd_ne (ne_of_none e h)]; exact e
/-- the cells stand where what is new is none of them -/
theorem RelC.new {p a : Addr} {u : HO} (h : H p = none) : ∀ {c : Cell}, RelC K g f H a c → RelC K g f (upd H p u) a c
  | .lst l, ⟨vs, e, r⟩ => ⟨vs, by rw [upd_ne (ne_of_none e h)]; exact e, RelDs.ext (.new h) l vs r⟩
  | .dK l, ⟨vs, e, r⟩ => ⟨vs, by rw [upd_ne (ne_of_none e h)]; exact e, RelKv.ext (.new h) l vs r⟩
  | .dT l, ⟨vs, e, r, r'⟩ => ⟨vs, by rw [upd_ne (ne_of_none e h)]; exact e, RelKv.ext (.new h) _ _ r, RelKv.ext (.new h) _ _ r'⟩
  | .dF l, ⟨vs, ⟨ob, e⟩, r⟩ => ⟨vs, ⟨ob, by rw [upd_ne (ne_of_none e h)]; exact e⟩, RelKv.ext (.new h) l vs r⟩
theorem RelS.new {S : Store} {p : Addr} {u : HO} (s : RelS K g f H S) (h : H p = none) : RelS K g f (upd H p u) S :=
  ⟨s.len, s.nod, fun n c a e1 e2 => (s.cel n c a e1 e2).new h⟩
theorem RelDs.length : ∀ {l : List D} {vs : List V}, RelDs K g f H l vs → l.length = vs.length
  | [], _, h => by cases h; rfl
  | d :: ds, _, ⟨v, r, e, _, t⟩ => by rw [e, List.length_cons, List.length_cons, RelDs.length t]
theorem RelDs.get : ∀ {l : List D} {vs : List V} {i : Nat} {d : D}, RelDs K g f H l vs → l[i]? = some d → ∃ v, vs[i]? = some v ∧ RelD K g f H d v
  | [], _, i, _, _, e => by simp at e
  | d :: ds, _, 0, _, ⟨v, r, e, q, _⟩, h => by
    simp at h; subst h; subst e
    exact ⟨v, rfl, q⟩
  | d :: ds, _, i + 1, _, ⟨v, r, e, _, t⟩, h => by
    subst e
    exact RelDs.get (i := i) t (by simpa using h)
theorem RelDs.append : ∀ {l m : List D} {vs us : List V}, RelDs K g f H l vs → RelDs K g f H m us → RelDs K g f H (l ++ m) (vs ++ us)
  | [], _, _, _, h, q => by cases h; exact q
  | d :: ds, _, _, _, ⟨v, r, e, h, t⟩, q => by
    subst e
    exact ⟨v, _, rfl, h, RelDs.append t q⟩
theorem RelDs.set : ∀ {l : List D} {vs : List V} {i : Nat} {d : D} {v : V}, RelDs K g f H l vs → RelD K g f H d v → RelDs K g f H (l.set i d) (vs.set i v)
  | [], _, _, _, _, h, _ => by cases h; rfl
  | x :: ds, _, 0, _, v, ⟨y, r, e, _, t⟩, q => by subst e; exact ⟨v, r, rfl, q, t⟩
  | x :: ds, _, i + 1, _, _, ⟨y, r, e, h, t⟩, q => by subst e; exact ⟨y, _, rfl, h, RelDs.set t q⟩
end

section
variable {X : Cx} {es : List Expr} {pos : Pos} {l : MA}
def mTup (l : MA) : ME := fun ρ S => (l ρ S).bind fun ds S1 => if ds.length ≤ sizeLine then .ok (.tup ds) S1 else .bad
theorem em_tup {x1} (h : AM X es l) : EM X (.Tuple es x1 pos) (mTup l) := PE.of (pe_tup h) fun σ H Q ⟨g, w, o, ρ, S, d, S', s, hm, q⟩ => by
  obtain ⟨ds, S1, h1, hm⟩ := R.bind_ok hm
  split at hm
  · rename_i hl
    cases hm
    refine ⟨g, w, o, ρ, S, ds, _, s, h1, fun vs g1 H1 x1 s1 r1 => ⟨by rw [← r1.length]; exact hl, fun p hp => ?_⟩⟩
    refine q _ g1 _ (x1.trans (.new hp)) (s1.new hp) ⟨p, vs, rfl, .inl (.inl upd_same), RelDs.ext (.new hp) ds vs r1⟩
  · cases hm

/-! ### what makes a new list -/
abbrev ML := MEnv → Store → R (List D)
end
section
variable {K : PySem.W.Frag} {g g' f : List Addr} {H : Hp} {p : Addr}
theorem RestL.fresh {a : Addr} {vs : List V} (hp : H p = none) (h : RestL g f H a vs) : RestL g (f ++ [p]) H a vs := by
  refine ⟨h.1, fun m => ?_, h.2.2⟩
  rcases List.mem_append.mp m with m | m
  · exact h.2.1 m
  · have e := h.2.2
    rw [List.mem_singleton.mp m, hp] at e
    cases e
theorem ScrL.fresh {a : Addr} {vs : List V} (hp : H p = none) (h : ScrL K g f H a vs) : ScrL K g (f ++ [p]) H a vs := by
  rcases h with ⟨h1, h2, h3⟩ | h
  · refine .inl ⟨h1, fun m => ?_, h3⟩
    rcases List.mem_append.mp m with m | m
    · exact h2 m
    · rw [List.mem_singleton.mp m] at h3
      exact Rd.live h3 hp
  · exact .inr h
theorem RestL.toG {a : Addr} {vs : List V} (h : RestL g (f ++ [p]) H a vs) : RestL (g ++ [p]) f H a vs := by
  refine ⟨fun m => ?_, fun m => h.2.1 (List.mem_append_left _ m), h.2.2⟩
  rcases List.mem_append.mp m with m | m
  · exact h.1 m
  · exact h.2.1 (List.mem_append_right _ m)
theorem ScrL.toG {a : Addr} {vs : List V} (h : ScrL K g (f ++ [p]) H a vs) : ScrL K (g ++ [p]) f H a vs := by
  rcases h with ⟨h1, h2, h3⟩ | h
  · refine .inl ⟨fun m => ?_, fun m => h2 (List.mem_append_left _ m), h3⟩
    rcases List.mem_append.mp m with m | m
    · exact h1 m
    · exact h2 (List.mem_append_right _ m)
  · exact .inr h
theorem get_more {n : Nat} {a : Addr} (h : g[n]? = some a) : (g ++ [p])[n]? = some a := by
  have hl : n < g.length := by
    rcases Nat.lt_or_ge n g.length with q | q
    · exact q
    · rw [List.getElem?_eq_none q] at h; cases h
  rw [List.getElem?_append_left hl]
  exact h
mutual
theorem RelD.fresh (hp : H p = none) : ∀ (d : D) (v : V), RelD K g f H d v → RelD K g (f ++ [p]) H d v
  | .non, _, h => h
  | .bl _, _, h => h
  | .int _, _, h => h
  | .str _, _, h => h
  | .raw _, _, h => h
  | .tup l, _, ⟨a, vs, e, q, r⟩ => ⟨a, vs, e, q, RelDs.fresh hp l vs r⟩
  | .lst l, _, ⟨a, vs, e, q, r⟩ => ⟨a, vs, e, q.fresh hp, RelDs.fresh hp l vs r⟩
  | .loc n, _, h => h
  | .scr l, _, ⟨a, e, q⟩ => ⟨a, e, q.fresh hp⟩
theorem RelDs.fresh (hp : H p = none) : ∀ (l : List D) (vs : List V), RelDs K g f H l vs → RelDs K g (f ++ [p]) H l vs
  | [], _, h => h
  | d :: ds, _, ⟨v, r, e, q, t⟩ => ⟨v, r, e, RelD.fresh hp d v q, RelDs.fresh hp ds r t⟩
end
mutual
theorem RelD.toG : ∀ (d : D) (v : V), RelD K g (f ++ [p]) H d v → RelD K (g ++ [p]) f H d v
  | .non, _, h => h
  | .bl _, _, h => h
  | .int _, _, h => h
  | .str _, _, h => h
  | .raw _, _, h => h
  | .tup l, _, ⟨a, vs, e, q, r⟩ => ⟨a, vs, e, q, RelDs.toG l vs r⟩
  | .lst l, _, ⟨a, vs, e, q, r⟩ => ⟨a, vs, e, q.toG, RelDs.toG l vs r⟩
  | .loc n, _, ⟨a, e, q⟩ => ⟨a, e, get_more q⟩
  | .scr l, _, ⟨a, e, q⟩ => ⟨a, e, q.toG⟩
theorem RelDs.toG : ∀ (l : List D) (vs : List V), RelDs K g (f ++ [p]) H l vs → RelDs K (g ++ [p]) f H l vs
  | [], _, h => h
  | d :: ds, _, ⟨v, r, e, q, t⟩ => ⟨v, r, e, RelD.toG d v q, RelDs.toG ds r t⟩
end
theorem RelKv.fresh {κ : Type} (hp : H p = none) : ∀ (l : List (κ × D)) (vs : List (κ × V)), RelKv K g f H l vs → RelKv K g (f ++ [p]) H l vs
  | [], _, h => h
  | d :: ds, _, ⟨v, r, e, q, t⟩ => ⟨v, r, e, RelD.fresh hp d.2 v q, RelKv.fresh hp ds r t⟩
theorem RelKv.toG {κ : Type} : ∀ (l : List (κ × D)) (vs : List (κ × V)), RelKv K g (f ++ [p]) H l vs → RelKv K (g ++ [p]) f H l vs
  | [], _, h => h
  | d :: ds, _, ⟨v, r, e, q, t⟩ => ⟨v, r, e, RelD.toG d.2 v q, RelKv.toG ds r t⟩
theorem RelC.fresh {a : Addr} (hp : H p = none) : ∀ {c : Cell}, RelC K g f H a c → RelC K g (f ++ [p]) H a c
  | .lst l, ⟨vs, e, r⟩ => ⟨vs, e, RelDs.fresh hp l vs r⟩
  | .dK l, ⟨vs, e, r⟩ => ⟨vs, e, RelKv.fresh hp l vs r⟩
  | .dT l, ⟨vs, e, r, r'⟩ => ⟨vs, e, RelKv.fresh hp _ _ r, RelKv.fresh hp _ _ r'⟩
  | .dF l, ⟨vs, e, r⟩ => ⟨vs, e, RelKv.fresh hp l vs r⟩
theorem RelC.toG {a : Addr} : ∀ {c : Cell}, RelC K g (f ++ [p]) H a c → RelC K (g ++ [p]) f H a c
  | .lst l, ⟨vs, e, r⟩ => ⟨vs, e, RelDs.toG l vs r⟩
  | .dK l, ⟨vs, e, r⟩ => ⟨vs, e, RelKv.toG l vs r⟩
  | .dT l, ⟨vs, e, r, r'⟩ => ⟨vs, e, RelKv.toG _ _ r, RelKv.toG _ _ r'⟩
  | .dF l, ⟨vs, e, r⟩ => ⟨vs, e, RelKv.toG l vs r⟩
theorem RelS.fresh {S : Store} (hp : H p = none) (s : RelS K g f H S) : RelS K g (f ++ [p]) H S := ⟨s.len, s.nod, fun n c a e1 e2 => (s.cel n c a e1 e2).fresh hp⟩
theorem RelS.addG {S : Store} {c : Cell} (s : RelS K g (f ++ [p]) H S) (hn : p ∉ g) (r : RelC K g (f ++ [p]) H p c) : RelS K (g ++ [p]) f H (S ++ [c]) where
  len := by rw [List.length_append, List.length_append, s.len]; rfl
  nod := List.nodup_append.mpr ⟨s.nod, by simp, fun a ha b hb e => by rw [List.mem_singleton.mp hb] at e; exact hn (e ▸ ha)⟩
  cel := fun n d a e1 e2 => by
    rcases Nat.lt_or_ge n S.length with q | q
    · rw [List.getElem?_append_left q] at e1
      rw [List.getElem?_append_left (by rw [s.len]; exact q)] at e2
      exact (s.cel n d a e1 e2).toG
    · rw [List.getElem?_append_right q] at e1
      rw [List.getElem?_append_right (by rw [s.len]; exact q)] at e2
      have z : n - S.length = 0 := by
        rcases Nat.eq_zero_or_pos (n - S.length) with z | z
        · exact z
        · rw [List.getElem?_eq_none (by simp only [List.length_singleton]; omega)] at e1; cases e1
      rw [z] at e1
      rw [s.len, z] at e2
      cases e1; cases e2
      exact r.toG
end
section
variable {X : Cx} {es : List Expr} {pos : Pos} {l : MA}
/-- the new list's place is none of the cells and is forbidden to all else -/
def FinN (K : PySem.W.Frag) (g f : List Addr) (H : Hp) (l : List D) (S' : Store) (Q : VK) : Prop :=
  ∀ p vs g' H', Ext g H g' H' → H p = none → p ∉ g' → H' p = some (.lst vs) → RelS K g' (f ++ [p]) H' S' → RelDs K g' (f ++ [p]) H' l vs → Q (.ref p) H'
def tN (K : PySem.W.Frag) (m : ML) : TE := fun σ H Q => ∃ g w o ρ S l S', Sta K g w o ρ S σ H ∧ m ρ S = .ok l S' ∧ FinN K g (w ++ o) H l S' Q
def NM (X : Cx) (e : Expr) (m : ML) : Prop := PE X e (tN X.K m)
theorem Sta.noF {K : PySem.W.Frag} {g w o : List Addr} {ρ : MEnv} {S : Store} {σ : L2.St} {H : Hp} (s : Sta K g w o ρ S σ H) {p : Addr} (h : H p = none) : p ∉ w ++ o := fun m => s.liv p m h
theorem RelS.noG {K : PySem.W.Frag} {g f : List Addr} {S : Store} {H : Hp} (s : RelS K g f H S) {p : Addr} (h : H p = none) : p ∉ g := fun m => s.live m h
theorem sub_app {f : List Addr} {p : Addr} : ∀ b ∈ f, b ∈ f ++ [p] := fun _ h => List.mem_append_left _ h
/-- .. as a value -/
def mLst (m : ML) : ME := fun ρ S => (m ρ S).bind fun ds S1 => .ok (.lst ds) S1
theorem em_new {e : Expr} {m : ML} (h : NM X e m) : EM X e (mLst m) := PE.of h fun σ H Q ⟨g, w, o, ρ, S, d, S', s, hm, q⟩ => by
  obtain ⟨ds, S1, h1, hm⟩ := R.bind_ok hm
  cases hm
  exact ⟨g, w, o, ρ, S, ds, _, s, h1, fun p vs g1 H1 x1 hp n1 e1 s1 r1 => q _ g1 H1 x1 (s1.less sub_app) ⟨p, vs, rfl, ⟨n1, s.noF hp, e1⟩, RelDs.less sub_app _ _ r1⟩⟩
/-- .. as a cell of the store -/
def mLoc (m : ML) : ME := fun ρ S => (m ρ S).bind fun ds S1 => .ok (.loc S1.length) (S1 ++ [.lst ds])
theorem em_loc {e : Expr} {m : ML} (h : NM X e m) : EM X e (mLoc m) := PE.of h fun σ H Q ⟨g, w, o, ρ, S, d, S', s, hm, q⟩ => by
  obtain ⟨ds, S1, h1, hm⟩ := R.bind_ok hm
  cases hm
  refine ⟨g, w, o, ρ, S, ds, _, s, h1, fun p vs g1 H1 x1 hp n1 e1 s1 r1 => ?_⟩
  obtain ⟨ns, eg, hns⟩ := x1.more
  have x2 : Ext g H (g1 ++ [p]) H1 := ⟨⟨ns ++ [p], by rw [eg, List.append_assoc], fun b hb => by
    rcases List.mem_append.mp hb with z | z
    · exact hns b z
    · rw [List.mem_singleton.mp z]; exact hp⟩, x1.keep, x1.live, x1.tups, x1.frz⟩
  exact q _ _ H1 x2 (s1.addG n1 ⟨vs, e1, r1⟩) ⟨p, rfl, by rw [← s1.len]; exact List.getElem?_concat_length⟩
/-- name = a new list, its own -/
def mOwnL (i : Nat) (m : ML) : MS := fun ρ S => (m ρ S).bind fun ds S1 => .ok (.nx (ρ.set i (some (.own (.lst ds))))) S1
theorem Sta.setOwn {K : PySem.W.Frag} {g g' w o : List Addr} {ρ : MEnv} {S S' : Store} {σ : L2.St} {H H' : Hp} {i : Nat} {p : Addr} {c : Cell} (s : Sta K g w o ρ S σ H) (x : Ext g H g' H') (hp : H p = none) (hn : p ∉ g')
    (t : RelS K g' ((w ++ o) ++ [p]) H' S') (r : RelC K g' ((w ++ o) ++ [p]) H' p c) : Sta K g' w (o ++ [p]) (ρ.set i (some (.own c))) S' (σ.set i (some (.ref p))) H' := by
  have ea : w ++ (o ++ [p]) = (w ++ o) ++ [p] := (List.append_assoc w o [p]).symm
  have hpo : p ∉ w ++ o := s.noF hp
  have neP : ∀ {j : Nat} {c : Cell} {b : Addr}, ρ[j]? = some (some (.own c)) → σ[j]? = some (some (V.ref b)) → b ≠ p := fun {j c b} h1 h2 e => by
    obtain ⟨a, e1, m, _⟩ := s.own j c h1
    rw [h2] at e1; cases e1
    exact hpo (List.mem_append_right _ (e ▸ m))
  have lt_of : ∀ {u : Slot} {d : Option Slot}, (ρ.set i (some u))[i]? = some d → i < ρ.length := fun {u d} h => by
    rcases Nat.lt_or_ge i ρ.length with q | q
    · exact q
    · rw [List.getElem?_eq_none (by rw [List.length_set]; exact q)] at h; cases h
  refine ⟨by rw [List.length_set, List.length_set]; exact s.len, fun j d h => ?_, fun j d h => ?_, fun j k d e a h1 h2 h3 h4 => ?_, fun a ha => ?_, fun a ha => ?_, by rw [ea]; exact t⟩
  · by_cases hj : i = j
    · subst hj
      rw [List.getElem?_set_self (lt_of h)] at h
      cases h
    · rw [List.getElem?_set_ne hj] at h ⊢
      obtain ⟨v, e1, r1⟩ := s.val j d h
      exact ⟨v, e1, by rw [ea]; exact RelD.ext x d v (RelD.fresh hp d v r1)⟩
  · by_cases hj : i = j
    · subst hj
      have hl := lt_of h
      rw [List.getElem?_set_self hl] at h
      cases h
      exact ⟨p, List.getElem?_set_self (by rw [← s.len]; exact hl), by simp, by rw [ea]; exact r⟩
    · rw [List.getElem?_set_ne hj] at h ⊢
      obtain ⟨a, e1, m, r1⟩ := s.own j d h
      exact ⟨a, e1, List.mem_append_left _ m, by rw [ea]; exact (r1.fresh hp).ext x (s.out a m).1⟩
  · by_cases hj : i = j
    · subst hj
      have hl := lt_of h1
      rw [List.getElem?_set_self (by rw [← s.len]; exact hl)] at h3
      cases h3
      by_cases hk : i = k
      · exact hk
      · rw [List.getElem?_set_ne hk] at h2 h4
        exact absurd rfl (neP h2 h4)
    · rw [List.getElem?_set_ne hj] at h1 h3
      by_cases hk : i = k
      · subst hk
        have hl := lt_of h2
        rw [List.getElem?_set_self (by rw [← s.len]; exact hl)] at h4
        cases h4
        exact absurd rfl (neP h1 h3)
      · rw [List.getElem?_set_ne hk] at h2 h4
        exact s.inj j k d e a h1 h2 h3 h4
  · rcases List.mem_append.mp ha with m | m
    · exact ⟨x.out (s.out a m).1 (s.liv a (List.mem_append_right _ m)), (s.out a m).2⟩
    · rw [List.mem_singleton.mp m]
      exact ⟨hn, fun z => hpo (List.mem_append_left _ z)⟩
  · rw [ea] at ha
    rcases List.mem_append.mp ha with m | m
    · exact x.live a (s.liv a m)
    · rw [List.mem_singleton.mp m]
      exact r.live
theorem ExtS.own {g g' o : List Addr} {H H' : Hp} {p : Addr} (x : Ext g H g' H') (hp : H p = none) : ExtS g o H g' (o ++ [p]) H' := ⟨x.more, fun a u h n _ => x.keep a u h n, x.live, x.tups, x.frz, fun a h => by
  rcases List.mem_append.mp h with m | m
  · exact .inl m
  · rw [List.mem_singleton.mp m]; exact .inr hp⟩
theorem sm_own {st : Stmt} {i : Nat} {m : ML} (h : PS X st (tAsg (tN X.K m) (gName i))) : SM X st (mOwnL i m) := PS.of h fun E σ H ⟨g, w, o, ρ, S, fl, S', s, hm, q⟩ => by
  obtain ⟨d, S1, e1, hm⟩ := R.bind_ok hm
  cases hm
  exact ⟨g, w, o, ρ, S, d, _, s, e1, fun p vs g1 H1 x1 hp n1 e1 s1 r1 => q g1 (o ++ [p]) H1 (.own x1 hp) _ (s.setOwn x1 hp n1 s1 ⟨vs, e1, r1⟩)⟩
/-- [a, b, ..] -/
def mDisp (l : MA) : ML := fun ρ S => (l ρ S).bind fun ds S1 => if ds.length ≤ sizeLine then .ok ds S1 else .bad
theorem nm_lst (h : AM X es l) : NM X (.List es pos) (mDisp l) := PE.of (pe_lst h) fun σ H Q ⟨g, w, o, ρ, S, d, S', s, hm, q⟩ => by
  obtain ⟨ds, S1, h1, hm⟩ := R.bind_ok hm
  split at hm
  · rename_i hl
    cases hm
    refine ⟨g, w, o, ρ, S, _, _, s, h1, fun vs g1 H1 x1 s1 r1 => ⟨by rw [← r1.length]; exact hl, fun p hp => ?_⟩⟩
    have hH : H p = none := by
      cases e : H p with
      | none => rfl
      | some u => exact absurd hp (x1.live p (by rw [e]; simp))
    exact q p vs g1 _ (x1.trans (.new hp)) hH (s1.noG hp) upd_same ((s1.fresh hp).new hp) (RelDs.ext (.new hp) _ _ (RelDs.fresh hp _ _ r1))
  · cases hm
end
end Mo
set_option maxRecDepth 100000
set_option maxHeartbeats 1000000
/-! Mo: calls and defs. -/
namespace Mo
open PySem PySem.Spec PyProof.Rows L2

/-- a def's meaning -/
abbrev MF := List D → Store → R D
def spM (K : PySem.W.Frag) (n : Nat) (m : MF) : Sp := fun vs H Q _ => vs.length = n ∧ ∃ g f ds S d S', (∀ a ∈ f, H a ≠ none) ∧ RelS K g f H S ∧ RelDs K g f H ds vs ∧ m ds S = .ok d S' ∧ FinE K g f H d S' Q

/-- a def keeps its promise wherever nothing is being shown (repr) -/
structure FnG (P : Program) (w : World) (K : PySem.W.Frag) (mg : Str → Option Value) (base : Heap) (CX : CXT) (k : Nat) (a : Addr) (fd : FuncData) (ps : List Str) (sp : Sp) : Prop where
  many : ∀ vs H Q E, sp vs H Q E → vs.length = ps.length
  go : ∀ (A : Around) (out : List Env) (s : Shared) (H : Hp) (ar : Args) (us : List Value) (vs : List V) (Q : VK) (E : XK),
    A.guards = some [] → Room k A → Env0 P w K mg base A out s H → BindsTo s fd ar (ps.zip us) → Vals vs us → sp vs H Q E →
      codeAny (model P w) A (.call (.ref a) ar) (CR CX out P w H s Q E) s

section
variable {X : Cx} {CX : CXT} {k n : Nat} {a : Addr} {fd : FuncData} {ps : List Str} {sp : Sp} {E : XK}
theorem FnG.run {pins : List (Addr × Obj)} {σ : L2.St} {H : Hp} {s : Shared} {Q : VK} {us : List Value} {vs : List V} {kw : List (Str × Value)} {all : List Value} (F : FnG X.prog X.w X.K X.mg X.base CX k a fd ps sp)
    (hg : X.A.guards = some []) (hr : Room k X.A) (hb : all.length = ps.length → BindsTo s fd ⟨us, kw⟩ (ps.zip all)) (hx : Passes CX X E) (I : Inv X pins σ H s) (r : Vals vs all) (h : sp vs H Q E) :
    wpAny (model X.prog X.w) X.A (call (.ref a) us kw) (EP X pins σ Q) X.xe s := by
  have hl : all.length = ps.length := r.length ▸ F.many _ _ _ _ h
  refine wpAny_call ?_
  refine codeAny_mono (F.go X.A X.stack s H _ all vs Q E hg hr I.env0 (hb hl) r h) ?_
  intro q s' hq
  match q, hq with
  | .error e, hq => exact hx pins σ H s e s' I hq
  | .ok (.ret u), hq => exact I.after hq
  | .ok .next, hq => exact hq.elim
  | .ok .brk, hq => exact hq.elim
  | .ok .cont, hq => exact hq.elim

/-- the meaning of a call: the written arguments, the defaults -/
def mCall (m : MF) (n : Nat) (dv : List D) (l : MA) : ME := fun ρ S => (l ρ S).bind fun ds S1 => if (ds ++ dv).length = n then m (ds ++ dv) S1 else .bad
theorem call_of {m : MF} {dv : List D} {dvs : List V} {l : MA} {σ : L2.St} {H : Hp} {Q : VK} {E : XK} (hd : ∀ K g f H, RelDs K g f H dv dvs) (q : tE X.K (mCall m n dv l) σ H Q) : tCall (spM X.K n m) dvs E (tA X.K l) σ H Q := by
  obtain ⟨g, w, o, ρ, S, d, S', s, hm, q⟩ := q
  obtain ⟨ds, S1, h1, hm⟩ := R.bind_ok hm
  split at hm
  · rename_i hl
    refine ⟨g, w, o, ρ, S, ds, S1, s, h1, fun vs g1 H1 x1 s1 r1 => ?_⟩
    have r2 := RelDs.append r1 (hd X.K g1 (w ++ o) H1)
    refine ⟨by rw [← r2.length]; exact hl, g1, w ++ o, ds ++ dv, S1, d, S', fun b hb => x1.live b (s.liv b hb), s1, r2, hm, fun v g2 H2 x2 s2 r3 => q v g2 H2 (x1.trans x2) s2 r3⟩
  · cases hm
variable {x : Str} {p pos : Pos} {e : Expr} {es : List Expr} {l : MA} {m : MF} {dv : List D} {dvs : List V} {dws : List Value}
/-- f(e, ..) -/
theorem em_call (F : FnG X.prog X.w X.K X.mg X.base CX0 k a fd ps (spM X.K n m)) (hgd : X.A.guards = some []) (hr : Room k X.A) (hg : Gl X x) (hm : X.mg x = some (.ref a)) (hk : PySem.W.keepIn X.K (.ref a) = true) (hb : Binds X.K fd ps dws) (hd : Vals dvs dws)
    (hdd : ∀ K g f H, RelDs K g f H dv dvs) (ha : AM X (e :: es) l) (hdb : (x == ("__debug__" : Str)) = false := by decide) (he : starEach (e :: es) X.env = (false, eval e X.env) :: starEach es X.env := by rfl)
    (hpl : (backTo pos (starEach es X.env)).any (·.1) = false := by rfl) : EM X (.Call (.Name x p) (e :: es) [] pos) (mCall m n dv l) := by
  refine ⟨fun pins s σ H Q I h => ?_⟩
  have h := call_of (E := E0) hdd h
  refine wpAny_Call_Name_kw (ld_glob I hg hm (PySem.W.callWith_K (h₀ := X.base) I.ok.mod.kin hk ?_ he hpl) hdb)
  refine thn (PA.run ha pos pins s σ H _ I h) fun us s1 ⟨vs, H1, I1, r, q⟩ => ⟨I1.kIn, ?_⟩
  exact F.run hgd hr (hb s1 us I1.kIn) pass0 I1 (r.append hd) q
theorem em_call0 (F : FnG X.prog X.w X.K X.mg X.base CX0 k a fd ps (spM X.K n m)) (hgd : X.A.guards = some []) (hr : Room k X.A) (hg : Gl X x) (hm : X.mg x = some (.ref a)) (hk : PySem.W.keepIn X.K (.ref a) = true) (hb : Binds X.K fd ps dws) (hd : Vals dvs dws)
    (hdd : ∀ K g f H, RelDs K g f H dv dvs) (hdb : (x == ("__debug__" : Str)) = false := by decide) : EM X (.Call (.Name x p) [] [] pos) (mCall m n dv aNil) := by
  refine ⟨fun pins s σ H Q I h => ?_⟩
  obtain ⟨g, w, o, ρ, S, d, S', s1, hq, q⟩ := h
  refine wpAny_Call_Name_kw (ld_glob I hg hm (PySem.W.callWith_K0 I.kIn hk ?_) hdb)
  have hq : (if dv.length = n then m dv S else .bad) = .ok d S' := hq
  split at hq
  · rename_i hl
    have r2 := hdd X.K g (w ++ o) H
    exact F.run (vs := dvs) (us := []) hgd hr (hb s [] I.kIn) pass0 I hd ⟨by rw [← r2.length]; exact hl, g, w ++ o, dv, S, d, S', s1.liv, s1.sto, r2, hq, q⟩
  · cases hq
/-- keywords' values, from the left -/
def KM (X : Cx) (kws : List Keyword) (m : MA) : Prop := PK X kws (tA X.K m)
theorem PK.of {kws : List Keyword} {t t' : TA} (h : PK X kws t) (i : ∀ σ H Q, t' σ H Q → t σ H Q) : PK X kws t' := ⟨fun pos pins s σ H Q I q => h.run pos pins s σ H Q I (i σ H Q q)⟩
theorem km_nil : KM X [] aNil := PK.of pk_nil fun σ H Q ⟨g, w, o, ρ, S, ds, S', s, hm, q⟩ => by
  cases hm
  exact q [] g H .refl s.sto rfl
theorem km_cons {kws : List Keyword} {nm : Option Str} {kpos : Pos} {me : ME} (ha : EM X e me) (hr : KM X kws l) : KM X (⟨nm, e, kpos⟩ :: kws) (aCons me l) := PK.of (pk_cons ha hr) fun σ H Q ⟨g, w, o, ρ, S, ds, S', s, hm, q⟩ => by
  obtain ⟨d, S1, h1, hm⟩ := R.bind_ok hm
  obtain ⟨dr, S2, h2, hm⟩ := R.bind_ok hm
  cases hm
  refine ⟨g, w, o, ρ, S, d, S1, s, h1, fun v g1 H1 x1 s1 r1 => ?_⟩
  refine ⟨g1, w, o, ρ, S1, dr, _, s.ext x1 s1, h2, fun vs g2 H2 x2 s2 r2 => ?_⟩
  exact q (v :: vs) g2 H2 (x1.trans x2) s2 ⟨v, vs, rfl, RelD.ext x2 d v r1, r2⟩
/-- how names bind: the places that the positional values and the keywords' ones take -/
structure Mix (fd : FuncData) (ps ks : List Str) (np : Nat) (pick : ∀ {α : Type}, List α → List α → List α) : Prop where
  to : ∀ us ws : List Value, us.length = np → ws.length = ks.length → bindArgs fd ⟨us, ks.zip ws⟩ = pure (ps.zip (pick us ws))
  map : ∀ (vs zs : List V) (us ws : List Value), Vals vs us → Vals zs ws → us.length = np → ws.length = ks.length → Vals (pick vs zs) (pick us ws)
  rel : ∀ (K : PySem.W.Frag) (g f : List Addr) (H : Hp) (ds es : List D) (vs zs : List V), RelDs K g f H ds vs → RelDs K g f H es zs → ds.length = np → es.length = ks.length → RelDs K g f H (pick ds es) (pick vs zs)
def mCallK (m : MF) (n np nk : Nat) (pick : List D → List D → List D) (l lk : MA) : ME := fun ρ S => (l ρ S).bind fun ds S1 => (lk ρ S1).bind fun es S2 =>
  if ds.length = np ∧ es.length = nk ∧ (pick ds es).length = n then m (pick ds es) S2 else .bad
variable {kws : List Keyword} {ks : List Str} {lk : MA} {np : Nat} {pick : ∀ {α : Type}, List α → List α → List α}
theorem em_callK (F : FnG X.prog X.w X.K X.mg X.base CX0 k a fd ps (spM X.K n m)) (hgd : X.A.guards = some []) (hr : Room k X.A) (hg : Gl X x) (hm : X.mg x = some (.ref a)) (hk : PySem.W.keepIn X.K (.ref a) = true) (hb : Mix fd ps ks np pick)
    (ha : AM X (e :: es) l) (hkw : KM X kws lk) (hall : (backToKw pos (keywordEach kws X.env)).all (·.1.isSome) = true := by rfl) (hks : (backToKw pos (keywordEach kws X.env)).filterMap (·.1) = ks := by rfl)
    (hdb : (x == ("__debug__" : Str)) = false := by decide) (he : starEach (e :: es) X.env = (false, eval e X.env) :: starEach es X.env := by rfl)
    (hpl : ((backTo pos (starEach (e :: es) X.env)).any (·.1) || (backToKw pos (keywordEach kws X.env)).any (·.1.isNone)) = false := by rfl) :
    EM X (.Call (.Name x p) (e :: es) kws pos) (mCallK m n np ks.length pick l lk) := by
  refine ⟨fun pins s σ H Q I ⟨g, w, o, ρ, S, d, S', st, hq, q⟩ => ?_⟩
  obtain ⟨ds, S1, h1, hq⟩ := R.bind_ok hq
  obtain ⟨ds2, S2, h2, hq⟩ := R.bind_ok hq
  split at hq
  · rename_i hl
    obtain ⟨l1, l2, l3⟩ := hl
    refine wpAny_Call_Name_kw (ld_glob I hg hm (PySem.W.callWith_KW (h₀ := X.base) I.ok.mod.kin hk hall ?_ hpl he) hdb)
    refine thn (PA.run ha pos pins s σ H _ I ⟨g, w, o, ρ, S, ds, S1, st, h1, fun vs g1 H1 x1 s1 r1 => (⟨g1, H1, rfl, x1, s1, r1⟩ : ∃ g1 H2, H1 = H2 ∧ Ext g H g1 H2 ∧ RelS X.K g1 (w ++ o) H2 S1 ∧ RelDs X.K g1 (w ++ o) H2 ds vs)⟩) fun us s1 ⟨vs, H1, I1, r, g1, H1', e1, x1, t1, r1⟩ => ?_
    subst e1
    refine thn (PK.run hkw pos pins s1 σ H1 _ I1 ⟨g1, w, o, ρ, S1, ds2, S2, st.ext x1 t1, h2, fun zs g2 H2 x2 s2 r2 => (⟨g2, H2, rfl, x2, s2, r2⟩ : ∃ g2 H3, H2 = H3 ∧ Ext g1 H1 g2 H3 ∧ RelS X.K g2 (w ++ o) H3 S2 ∧ RelDs X.K g2 (w ++ o) H3 ds2 zs)⟩) fun ws s2 ⟨zs, H2, I2, rz, g2, H2', e2, x2, t2, r2⟩ => ⟨I2.kIn, ?_⟩
    subst e2
    rw [hks]
    have u1 : us.length = np := by rw [← r.length, ← r1.length]; exact l1
    have u2 : ws.length = ks.length := by rw [← rz.length, ← r2.length]; exact l2
    have rr := hb.rel X.K g2 (w ++ o) H2 ds ds2 vs zs (RelDs.ext x2 ds vs r1) r2 l1 l2
    refine F.run hgd hr (fun _ => .of_eq (hb.to us ws u1 u2)) pass0 I2 (hb.map vs zs us ws r rz u1 u2) ⟨by rw [← rr.length]; exact l3, g2, w ++ o, pick ds ds2, S2, d, S', fun b hbm => x2.live b (x1.live b (st.liv b hbm)), t2, rr, hq, ?_⟩
    exact fun v g3 H3 x3 s3 r3 => q v g3 H3 ((x1.trans x2).trans x3) s3 r3
  · cases hq
theorem em_callK0 (F : FnG X.prog X.w X.K X.mg X.base CX0 k a fd ps (spM X.K n m)) (hgd : X.A.guards = some []) (hr : Room k X.A) (hg : Gl X x) (hm : X.mg x = some (.ref a)) (hk : PySem.W.keepIn X.K (.ref a) = true) (hb : Mix fd ps ks 0 pick)
    (hkw : KM X kws lk) (hall : (backToKw pos (keywordEach kws X.env)).all (·.1.isSome) = true := by rfl) (hks : (backToKw pos (keywordEach kws X.env)).filterMap (·.1) = ks := by rfl)
    (hdb : (x == ("__debug__" : Str)) = false := by decide) (hpl : ((backTo pos (starEach [] X.env)).any (·.1) || (backToKw pos (keywordEach kws X.env)).any (·.1.isNone)) = false := by rfl) :
    EM X (.Call (.Name x p) [] kws pos) (mCallK m n 0 ks.length pick aNil lk) := by
  refine ⟨fun pins s σ H Q I ⟨g, w, o, ρ, S, d, S', st, hq, q⟩ => ?_⟩
  obtain ⟨ds, S1, h1, hq⟩ := R.bind_ok hq
  cases h1
  obtain ⟨ds2, S2, h2, hq⟩ := R.bind_ok hq
  split at hq
  · rename_i hl
    obtain ⟨l1, l2, l3⟩ := hl
    refine wpAny_Call_Name_kw (ld_glob I hg hm (PySem.W.callWith_KW0 (h₀ := X.base) I.ok.mod.kin hk hall ?_ hpl) hdb)
    refine thn (PK.run hkw pos pins s σ H _ I ⟨g, w, o, ρ, _, ds2, S2, st, h2, fun zs g2 H2 x2 s2 r2 => (⟨g2, H2, rfl, x2, s2, r2⟩ : ∃ g2 H3, H2 = H3 ∧ Ext g H g2 H3 ∧ RelS X.K g2 (w ++ o) H3 S2 ∧ RelDs X.K g2 (w ++ o) H3 ds2 zs)⟩) fun ws s2 ⟨zs, H2, I2, rz, g2, H2', e2, x2, t2, r2⟩ => ⟨I2.kIn, ?_⟩
    subst e2
    rw [hks]
    have u2 : ws.length = ks.length := by rw [← rz.length, ← r2.length]; exact l2
    have rr := hb.rel X.K g2 (w ++ o) H2 [] ds2 [] zs rfl r2 rfl l2
    refine F.run (us := []) hgd hr (fun _ => .of_eq (hb.to [] ws rfl u2)) pass0 I2 (hb.map [] zs [] ws .nil rz rfl u2) ⟨by rw [← rr.length]; exact l3, g2, w ++ o, pick [] ds2, S2, d, S', fun b hbm => x2.live b (st.liv b hbm), t2, rr, hq, ?_⟩
    exact fun v g3 H3 x3 s3 r3 => q v g3 H3 (x2.trans x3) s3 r3
  · cases hq
end

/-! ### defs -/
/-- the meaning of a def by its body's: N names, the parameters ahead -/
def mDef (N : Nat) (b : MS) : MF := fun ds S => (b (ds.map (fun d => some (.val d)) ++ List.replicate (N - ds.length) none) S).bind fun fl S1 => match fl with
  | .rt d => .ok d S1
  | .nx _ => .ok .non S1
  | _ => .bad
theorem start_get {ds : List D} {n i : Nat} {d : Slot} (h : (ds.map (fun d => some (Slot.val d)) ++ List.replicate n none)[i]? = some (some d)) : ∃ e, ds[i]? = some e ∧ d = .val e := by
  rcases Nat.lt_or_ge i ds.length with q | q
  · rw [List.getElem?_append_left (by simpa using q), List.getElem?_map] at h
    cases e : ds[i]? with
    | none => rw [e] at h; cases h
    | some x => rw [e] at h; cases h; exact ⟨x, rfl, rfl⟩
  · rw [List.getElem?_append_right (by simpa using q)] at h
    rw [List.getElem?_replicate] at h
    split at h <;> cases h
theorem Sta.start {K : PySem.W.Frag} {g f : List Addr} {ds : List D} {S : Store} {H : Hp} {N : List Str} {vs : List V} (hf : ∀ a ∈ f, H a ≠ none) (s : RelS K g f H S) (r : RelDs K g f H ds vs) :
    Sta K g f [] (ds.map (fun d => some (.val d)) ++ List.replicate (N.length - ds.length) none) S (L2.start N vs) H where
  len := by
    unfold L2.start
    rw [List.length_append, List.length_append, List.length_map, List.length_map, List.length_replicate, List.length_replicate, r.length]
  val := fun i d h => by
    obtain ⟨e, h1, h2⟩ := start_get h
    cases h2
    obtain ⟨v, e1, q⟩ := r.get h1
    refine ⟨v, ?_, by rw [List.append_nil]; exact q⟩
    unfold L2.start
    have hl : i < vs.length := by
      rcases Nat.lt_or_ge i vs.length with z | z
      · exact z
      · rw [List.getElem?_eq_none z] at e1; cases e1
    rw [List.getElem?_append_left (by simpa using hl), List.getElem?_map, e1]
    rfl
  own := fun i c h => by
    obtain ⟨e, h1, h2⟩ := start_get h
    cases h2
  inj := fun i j c d a h _ _ _ => by
    obtain ⟨e, h1, h2⟩ := start_get h
    cases h2
  out := fun a h => nomatch h
  liv := fun a h => by rw [List.append_nil] at h; exact hf a h
  sto := by rw [List.append_nil]; exact s

section
variable {P : Program} {w : World} {K : PySem.W.Frag} {mg : Str → Option Value} {base : Heap}
theorem def_start {N ps : List Str} {b : MS} {X : Cx} {body : List Stmt} {Q : VK} {E : XK} {vs : List V} {H : Hp} (hX : X.K = K) (hb : SsM X body b) (h : spM K ps.length (mDef N.length b) vs H Q E) :
    ∃ t, PSs X body t ∧ t { nx := fun _ H' => Q .non H', rt := Q } (start N vs) H := by
  subst hX
  obtain ⟨hl, g, f, ds, S, d, S', hf, s, r, hm, q⟩ := h
  obtain ⟨fl, S1, h1, hm⟩ := R.bind_ok hm
  refine ⟨_, hb, g, f, [], _, S, fl, S1, Sta.start hf s r, h1, fun g1 o1 H1 x1 => ?_⟩
  cases fl with
  | rt v => cases hm; exact fun v t rr => q v g1 H1 x1.ext t rr
  | nx ρ => cases hm; exact fun σ st => q .non g1 H1 x1.ext (st.sto.less fun b hb => List.mem_append_left _ hb) rfl
  | bk ρ => cases hm
  | ct ρ => cases hm
/-- THE RULE for a def -/
theorem def_ok {x qual : Str} {st : Stmt} {a : Addr} {fd : FuncData} {N ps : List Str} {k : Nat} {b : MS} (F : Fun K x qual st a fd) (S : FnScope N ps (defScope st))
    (hb : ∀ (cdv : Value) (A : Around) (out : List Env) (s : Shared) (H : Hp) (E : XK), (A.deeper (envOfC qual (defScope st) s.heap.objs.size a cdv)).guards = some [] → Room k (A.deeper (envOfC qual (defScope st) s.heap.objs.size a cdv)) →
      SsM (cxOf CX0 P w K mg base N qual (defScope st) a cdv A out s H E).nox (defBody st) b) : FnG P w K mg base CX0 (k + 1) a fd ps (spM K ps.length (mDef N.length b)) := by
  refine ⟨fun vs H Q E h => h.1, ?_⟩
  intro A out s H ar us vs Q E hgd hr e0 hbi rv hsp
  obtain ⟨oc, od, kV, doc, pm, an, cdv, ct, osl, rfl, lk, hcd⟩ := F.ex
  have hl : vs.length = ps.length := hsp.1
  have hK : K.In s.heap := e0.mod.kin.keeps fun b o e => (e0.bs b o e).1
  have hlim : s.heap.NoLimit := e0.mod.nolimit.keeps fun b o e => (e0.bs b o e).1
  refine codeAny_call_function hr.depth (hK _ _ lk) rfl S.co S.gen rfl (PySem.W.codeRec_of hK hcd) (hbi _ _ _ _ ?_)
  have kinds : ∀ y ∈ ps.zip us, (defScope st).names.lookup y.1 = some .local ∨ ((defScope st).names.lookup y.1 = some .cell ∧ ((cellsFrom (s.heap.objs.size + 1) (defScope st).names []).lookup y.1).isSome = true) := by
    rintro ⟨nm, v⟩ hy
    exact (S.par nm (List.of_mem_zip hy).1).imp id fun q => ⟨q, PySem.W.cellsFrom_some _ _ _ (.inl q)⟩
  refine wpAny_newFunctionEnv_cells S.kind kinds fun en hen s1 ic => ?_
  subst hen
  refine ⟨hlim.keeps ic.toInCall.keep, codeAny_func ?_⟩
  obtain ⟨t, ht, hq⟩ := def_start (N := N) (ps := ps) (K := K) rfl (hb cdv A out s H E hgd (hr.deeper _)) hsp
  have I := inv_start (CX := CX0) (mg := mg) (E := E) S hr.hd e0 hl rv ic
  refine wpAny_mono ((PSs.nox ht).run [] s1 (start N vs) H _ I hq) (fun fl s' hs => ?_) fun _ _ q => q
  match fl, hs with
  | .ret u, ⟨v, σ', H', J, rr, q⟩ => exact ⟨v, H', J.os, J.bare, J.base, J.hok, rr, q⟩
  | .next, ⟨σ', H', J, q⟩ => exact ⟨V.non, H', J.os, J.bare, J.base, J.hok, rfl, q⟩
  | .brk, ⟨_, _, _, q⟩ => exact q.elim
  | .cont, ⟨_, _, _, q⟩ => exact q.elim
end
end Mo
set_option maxRecDepth 100000
set_option maxHeartbeats 1000000
/-! Mo: targets, loops, comprehensions. -/
namespace Mo
open PySem PySem.Spec PyProof.Rows L2

/-! ### targets -/
inductive Pat where
  | nm (i : Nat)
  | tp (ps : List Pat)
mutual
def Pat.bind : Pat → D → Option (List (Nat × D))
  | .nm i, d => some [(i, d)]
  | .tp ps, .tup l => Pat.binds ps l
  | .tp _, _ => none
def Pat.binds : List Pat → List D → Option (List (Nat × D))
  | [], [] => some []
  | p :: ps, d :: ds => match Pat.bind p d, Pat.binds ps ds with
    | some a, some b => some (a ++ b)
    | _, _ => none
  | [], _ :: _ => none
  | _ :: _, [] => none
end
mutual
def Pat.ixs : Pat → List Nat
  | .nm i => [i]
  | .tp ps => Pat.ixsAll ps
def Pat.ixsAll : List Pat → List Nat
  | [] => []
  | p :: ps => Pat.ixs p ++ Pat.ixsAll ps
end
mutual
theorem Pat.bind_ixs : ∀ (p : Pat) (d : D) (l : List (Nat × D)), p.bind d = some l → l.map (·.1) = p.ixs
  | .nm i, d, l, h => by unfold Pat.bind at h; cases h; simp [Pat.ixs]
  | .tp ps, d, l, h => by
    cases d <;> unfold Pat.bind at h <;> first | cases h; done | skip
    unfold Pat.ixs
    exact Pat.binds_ixs ps _ l h
theorem Pat.binds_ixs : ∀ (ps : List Pat) (ds : List D) (l : List (Nat × D)), Pat.binds ps ds = some l → l.map (·.1) = Pat.ixsAll ps
  | [], [], l, h => by unfold Pat.binds at h; cases h; simp [Pat.ixsAll]
  | p :: ps, d :: ds, l, h => by
    unfold Pat.binds at h
    split at h
    · rename_i a b ha hb
      cases h
      rw [List.map_append, Pat.bind_ixs p d a ha, Pat.binds_ixs ps ds b hb]
      rw [Pat.ixsAll]
    · cases h
  | [], _ :: _, l, h => by unfold Pat.binds at h; cases h
  | _ :: _, [], l, h => by unfold Pat.binds at h; cases h
end
def setA {α : Type} (f : α → Option β) (σ : List (Option β)) : List (Nat × α) → List (Option β)
  | [] => σ
  | (i, x) :: r => setA f (σ.set i (f x)) r
abbrev setV (σ : L2.St) (l : List (Nat × V)) : L2.St := setA some σ l
abbrev setD (ρ : MEnv) (l : List (Nat × D)) : MEnv := setA (fun d => some (.val d)) ρ l
theorem setA_append {α β : Type} (f : α → Option β) : ∀ (σ : List (Option β)) (l m : List (Nat × α)), setA f σ (l ++ m) = setA f (setA f σ l) m
  | _, [], _ => rfl
  | σ, (i, x) :: r, m => setA_append f (σ.set i (f x)) r m

/-- to each slot its value -/
def RelIx (K : PySem.W.Frag) (g f : List Addr) (H : Hp) : List (Nat × D) → List (Nat × V) → Prop
  | [], vs => vs = []
  | p :: ps, vs => ∃ v r, vs = (p.1, v) :: r ∧ RelD K g f H p.2 v ∧ RelIx K g f H ps r
theorem RelIx.append {K : PySem.W.Frag} {g f : List Addr} {H : Hp} : ∀ {l m : List (Nat × D)} {vs us : List (Nat × V)}, RelIx K g f H l vs → RelIx K g f H m us → RelIx K g f H (l ++ m) (vs ++ us)
  | [], _, _, _, h, q => by cases h; exact q
  | p :: ps, _, _, _, ⟨v, r, e, h, t⟩, q => by
    subst e
    exact ⟨v, _, rfl, h, RelIx.append t q⟩
theorem RelIx.fst {K : PySem.W.Frag} {g f : List Addr} {H : Hp} : ∀ {l : List (Nat × D)} {vs : List (Nat × V)}, RelIx K g f H l vs → vs.map (·.1) = l.map (·.1)
  | [], _, h => by cases h; rfl
  | p :: ps, _, ⟨v, r, e, _, t⟩ => by subst e; rw [List.map_cons, List.map_cons, RelIx.fst t]
theorem Sta.setA {K : PySem.W.Frag} {g w o : List Addr} {S : Store} {H : Hp} : ∀ {l : List (Nat × D)} {vs : List (Nat × V)} {ρ : MEnv} {σ : L2.St}, Sta K g w o ρ S σ H → RelIx K g (w ++ o) H l vs → Sta K g w o (setD ρ l) S (setV σ vs) H
  | [], _, _, _, s, h => by cases h; exact s
  | (i, d) :: ps, _, ρ, σ, s, ⟨v, r, e, h, t⟩ => by
    subst e
    exact Sta.setA (ρ := ρ.set i (some (.val d))) (σ := σ.set i (some v)) (s.set h) t
def tG (K : PySem.W.Frag) (p : Pat) : TG := fun v σ H Q => ∃ g f d l, RelD K g f H d v ∧ p.bind d = some l ∧ ∀ vs, RelIx K g f H l vs → Q (setV σ vs) H
def tGs (K : PySem.W.Frag) (ps : List Pat) : TGs := fun vs σ H Q => ∃ g f ds l, RelDs K g f H ds vs ∧ Pat.binds ps ds = some l ∧ ∀ us, RelIx K g f H l us → Q (setV σ us) H
def GM (X : Cx) (tg : Expr) (p : Pat) : Prop := PG X tg (tG X.K p)
def GsM (X : Cx) (tgs : List Expr) (ps : List Pat) : Prop := PGs X tgs (tGs X.K ps)
section
variable {X : Cx} {tg e iter : Expr} {tgs body : List Expr} {p : Pat} {ps : List Pat} {pos : Pos}
theorem PG.of {t t' : TG} (h : PG X tg t) (i : ∀ v σ H Q, t' v σ H Q → t v σ H Q) : PG X tg t' := ⟨fun pins s σ H v u Q I r q => h.run pins s σ H v u Q I r (i v σ H Q q)⟩
theorem PGs.of {t t' : TGs} (h : PGs X tgs t) (i : ∀ v σ H Q, t' v σ H Q → t v σ H Q) : PGs X tgs t' := ⟨fun pins s σ H v u Q I r q => h.run pins s σ H v u Q I r (i v σ H Q q)⟩
theorem gm_name {i : Nat} (h : PG X tg (gName i)) : GM X tg (.nm i) := PG.of h fun v σ H Q ⟨g, f, d, l, r, hb, q⟩ => by
  unfold Pat.bind at hb
  cases hb
  exact q [(i, v)] ⟨v, [], rfl, r, rfl⟩
theorem gsm_nil : GsM X [] [] := PGs.of pgs_nil fun vs σ H Q ⟨g, f, ds, l, r, hb, q⟩ => by
  cases ds with
  | nil =>
    unfold Pat.binds at hb
    cases hb
    cases r
    exact ⟨rfl, q [] rfl⟩
  | cons d ds => unfold Pat.binds at hb; cases hb
theorem gsm_cons (h1 : GM X tg p) (h2 : GsM X tgs ps) (hs : (assignEach (tg :: tgs) X.env).map (·.2) = assign tg X.env :: (assignEach tgs X.env).map (·.2) := by rfl) : GsM X (tg :: tgs) (p :: ps) := PGs.of (pgs_cons h1 h2 hs) fun vs σ H Q ⟨g, f, ds, l, r, hb, q⟩ => by
  cases ds with
  | nil => unfold Pat.binds at hb; cases hb
  | cons d ds =>
    obtain ⟨v, rr, e, r1, r2⟩ := r
    unfold Pat.binds at hb
    split at hb
    · rename_i a b ha hb'
      cases hb
      refine ⟨v, rr, e, g, f, d, a, r1, ha, fun us1 ru1 => ⟨g, f, ds, b, r2, hb', fun us2 ru2 => ?_⟩⟩
      have := q (us1 ++ us2) (ru1.append ru2)
      unfold setV at this
      rw [setA_append] at this
      exact this
    · cases hb
theorem gm_tup {k : Nat} (hc : X.calm = true) (h : GsM X tgs ps) (hn : (assignEach tgs X.env).length = ps.length := by rfl) (hst : (assignEach tgs X.env).findIdx? (·.1) = none := by rfl) : GM X (.Tuple tgs k pos) (.tp ps) := PG.of (pg_tup hc h hn hst) fun v σ H Q ⟨g, f, d, l, r, hb, q⟩ => by
  cases d <;> unfold Pat.bind at hb <;> first | cases hb; done | skip
  rename_i ds
  obtain ⟨a, vs, e, hq, rd⟩ := r
  refine ⟨a, vs, e, hq, ?_, g, f, ds, l, rd, hb, q⟩
  rw [← rd.length]
  have len : ∀ (ps : List Pat) (ds : List D) (l : List (Nat × D)), Pat.binds ps ds = some l → ds.length = ps.length := by
    intro ps
    induction ps with
    | nil => intro ds l h; cases ds with
      | nil => rfl
      | cons _ _ => unfold Pat.binds at h; cases h
    | cons p ps ih => intro ds l h; cases ds with
      | nil => unfold Pat.binds at h; cases h
      | cons d ds =>
        unfold Pat.binds at h
        split at h
        · rename_i b ha hb
          rw [List.length_cons, List.length_cons, ih ds _ hb]
        · cases h
  exact len ps ds l hb
/-- target = e -/
def mAsg (p : Pat) (m : ME) : MS := fun ρ S => (m ρ S).bind fun d S1 => match p.bind d with
  | some l => .ok (.nx (setD ρ l)) S1
  | none => .bad
theorem sm_asg {st : Stmt} {me : ME} (h : PS X st (tAsg (tE X.K me) (tG X.K p))) : SM X st (mAsg p me) := PS.of h fun E σ H ⟨g, w, o, ρ, S, fl, S', s, hm, q⟩ => by
  obtain ⟨d, S1, e1, hm⟩ := R.bind_ok hm
  split at hm
  · rename_i l hl
    cases hm
    exact ⟨g, w, o, ρ, S, d, _, s, e1, fun v g1 H1 x1 s1 r1 => ⟨g1, w ++ o, d, l, r1, hl, fun vs rv => q g1 o H1 x1.s _ ((s.ext x1 s1).setA rv)⟩⟩
  · cases hm
end

/-! ### what is walked -/
section
variable {K : PySem.W.Frag} {g g' g1 w o o1 f : List Addr} {H H' H1 : Hp}
theorem ExtS.out (x : ExtS g o H g' o1 H') {a : Addr} (h1 : a ∉ g) (h3 : H a ≠ none) : a ∉ g' := by
  obtain ⟨ns, e, h⟩ := x.more
  rw [e]
  intro q
  rcases List.mem_append.mp q with q | q
  · exact h1 q
  · exact h3 (h a q)
theorem RestL.extS {a : Addr} {vs : List V} (x : ExtS g o H g' o1 H') (h : RestL g (w ++ o) H a vs) : RestL g' (w ++ o1) H' a vs := by
  have hl : H a ≠ none := by rw [h.2.2]; simp
  have ho : a ∉ o := fun m => h.2.1 (List.mem_append_right _ m)
  refine ⟨x.out h.1 hl, fun m => ?_, x.keep a _ h.2.2 h.1 ho⟩
  rcases List.mem_append.mp m with m | m
  · exact h.2.1 (List.mem_append_left _ m)
  · exact (x.lam a m).elim ho hl
theorem ScrL.extS {a : Addr} {vs : List V} (x : ExtS g o H g' o1 H') (h : ScrL K g (w ++ o) H a vs) : ScrL K g' (w ++ o1) H' a vs := by
  rcases h with ⟨h1, h2, h3⟩ | h
  · have ho : a ∉ o := fun m => h2 (List.mem_append_right _ m)
    have kp : ∀ u, H a = some u → H' a = some u := fun u e => x.keep a u e h1 ho
    refine .inl ⟨x.out h1 (Rd.live h3), fun m => ?_, ?_⟩
    · rcases List.mem_append.mp m with m | m
      · exact h2 (List.mem_append_left _ m)
      · rcases x.lam a m with z | z
        · exact ho z
        · exact Rd.live h3 z
    · rcases h3 with h3 | ⟨ob, h3⟩
      · exact .inl (kp _ h3)
      · exact .inr ⟨ob, kp _ h3⟩
  · exact .inr h
theorem ExtS.get (x : ExtS g o H g' o1 H') {n : Nat} {a : Addr} (h : g[n]? = some a) : g'[n]? = some a := by
  obtain ⟨ns, e, _⟩ := x.more
  have hl : n < g.length := by
    rcases Nat.lt_or_ge n g.length with q | q
    · exact q
    · rw [List.getElem?_eq_none q] at h; cases h
  rw [e, List.getElem?_append_left hl]
  exact h
theorem SqT.extS {a : Addr} {vs : List V} (x : ExtS g o H g' o1 H') (h : SqT K H a vs) : SqT K H' a vs := by
  rcases h with h | h
  · exact .inl (x.tups a vs h)
  · exact .inr h
mutual
theorem RelD.extS (x : ExtS g o H g' o1 H') : ∀ (d : D) (v : V), RelD K g (w ++ o) H d v → RelD K g' (w ++ o1) H' d v
  | .non, _, h => h
  | .bl _, _, h => h
  | .int _, _, h => h
  | .str _, _, h => h
  | .raw _, _, h => h
  | .tup l, _, ⟨a, vs, e, q, r⟩ => ⟨a, vs, e, SqT.extS x q, RelDs.extS x l vs r⟩
  | .lst l, _, ⟨a, vs, e, q, r⟩ => ⟨a, vs, e, q.extS x, RelDs.extS x l vs r⟩
  | .loc n, _, ⟨a, e, q⟩ => ⟨a, e, x.get q⟩
  | .scr l, _, ⟨a, e, q⟩ => ⟨a, e, q.extS x⟩
theorem RelDs.extS (x : ExtS g o H g' o1 H') : ∀ (l : List D) (vs : List V), RelDs K g (w ++ o) H l vs → RelDs K g' (w ++ o1) H' l vs
  | [], _, h => h
  | d :: ds, _, ⟨v, r, e, q, t⟩ => ⟨v, r, e, RelD.extS x d v q, RelDs.extS x ds r t⟩
end
/-- a later heap in which nothing that stood has changed -/
def Grow (K : PySem.W.Frag) (g : List Addr) (H H' : Hp) : Prop := Ext g H g H' ∧ ∀ f S, RelS K g f H S → RelS K g f H' S
theorem Grow.refl : Grow K g H H := ⟨.refl, fun _ _ h => h⟩
theorem Grow.new {p : Addr} {u : HO} (h : H p = none) : Grow K g H (upd H p u) := ⟨.new h, fun _ _ s => s.new h⟩
/-- the iterator gives the items of l, in order, whatever is done between -/
structure Walks (K : PySem.W.Frag) (g w o : List Addr) (H : Hp) (J : It) (l : List D) : Prop where
  item : ∀ i d g1 o1 H1, l[i]? = some d → ExtS g o H g1 o1 H1 → J.go i H1 ∧ ∀ x H2, J.yld i H1 x H2 → Grow K g1 H1 H2 ∧ RelD K g1 (w ++ o1) H2 d x
  stop : ∀ i g1 o1 H1, l.length ≤ i → ExtS g o H g1 o1 H1 → J.stop i H1
def tI (K : PySem.W.Frag) (m : ML) : TI := fun σ H R => ∃ g w o ρ S l S', Sta K g w o ρ S σ H ∧ m ρ S = .ok l S' ∧
  ∀ g' H' J, Ext g H g' H' → RelS K g' (w ++ o) H' S' → Walks K g' w o H' J l → R J H'
def IM (X : Cx) (tg iter : Expr) (m : ML) : Prop := PI X tg iter (tI X.K m)
end
section
variable {X : Cx} {tg iter e c : Expr} {p : Pat} {pos : Pos} {me : ME} {ml : ML} {mb : MS} {mc mt : MT} {body : List Stmt}
theorem PI.of {t t' : TI} (h : PI X tg iter t) (i : ∀ σ H Q, t' σ H Q → t σ H Q) : PI X tg iter t' := ⟨fun pins s σ H Q I q => h.run pins s σ H Q I (i σ H Q q)⟩
theorem lt_of_get {α : Type} {l : List α} {i : Nat} {x : α} (h : l[i]? = some x) : i < l.length := by
  rcases Nat.lt_or_ge i l.length with q | q
  · exact q
  · rw [List.getElem?_eq_none q] at h; cases h
/-- the items of a list that rests, of a tuple -/
def seqD : D → Store → R (List D)
  | .lst l, S => .ok l S
  | _, _ => .bad
def tupD : D → Store → R (List D)
  | .tup l, S => .ok l S
  | _, _ => .bad
theorem seqD_ok {d : D} {S S' : Store} {l : List D} (h : seqD d S = .ok l S') : d = .lst l ∧ S' = S := by cases d <;> cases h; exact ⟨rfl, rfl⟩
theorem tupD_ok {d : D} {S S' : Store} {l : List D} (h : tupD d S = .ok l S') : d = .tup l ∧ S' = S := by cases d <;> cases h; exact ⟨rfl, rfl⟩
def iLst (m : ME) : ML := fun ρ S => (m ρ S).bind seqD
def iTup (m : ME) : ML := fun ρ S => (m ρ S).bind tupD
theorem Walks.list {K : PySem.W.Frag} {g w o : List Addr} {H : Hp} {a : Addr} {vs : List V} {l : List D} (hr : RestL g (w ++ o) H a vs) (r : RelDs K g (w ++ o) H l vs) : Walks K g w o H (Itl K a) l where
  item := fun i d g1 o1 H1 h x => by
    have q := hr.extS x
    have r1 := RelDs.extS x l vs r
    obtain ⟨v, e, rv⟩ := r1.get h
    refine ⟨⟨vs, v, q.sq, e⟩, fun y H2 ⟨e2, hy⟩ => ?_⟩
    subst e2
    have := hy vs q.sq
    rw [e] at this
    cases this
    exact ⟨.refl, rv⟩
  stop := fun i g1 o1 H1 h x => ⟨vs, (hr.extS x).sq, by rw [← r.length]; exact h⟩
theorem Walks.tuple {K : PySem.W.Frag} {g w o : List Addr} {H : Hp} {a : Addr} {vs : List V} {l : List D} (hr : SqT K H a vs) (r : RelDs K g (w ++ o) H l vs) : Walks K g w o H (Itt K a) l where
  item := fun i d g1 o1 H1 h x => by
    have q := SqT.extS x hr
    have r1 := RelDs.extS x l vs r
    obtain ⟨v, e, rv⟩ := r1.get h
    refine ⟨⟨vs, v, q, e⟩, fun y H2 ⟨e2, hy⟩ => ?_⟩
    subst e2
    have := hy vs q
    rw [e] at this
    cases this
    exact ⟨.refl, rv⟩
  stop := fun i g1 o1 H1 h x => ⟨vs, SqT.extS x hr, by rw [← r.length]; exact h⟩
theorem im_list (h : EM X iter me) : IM X tg iter (iLst me) := PI.of (pi_list h) fun σ H Rr ⟨g, w, o, ρ, S, l, S', s, hm, q⟩ => by
  obtain ⟨d, S1, h1, h2⟩ := R.bind_ok hm
  obtain ⟨rfl, rfl⟩ := seqD_ok h2
  refine ⟨g, w, o, ρ, S, _, _, s, h1, fun v g1 H1 x1 s1 ⟨a, vs, e, hr, r⟩ => ⟨a, e, ⟨vs, hr.sq⟩, q g1 H1 _ x1 s1 (.list hr r)⟩⟩
theorem im_tup (h : EM X iter me) : IM X tg iter (iTup me) := PI.of (pi_tup h) fun σ H Rr ⟨g, w, o, ρ, S, l, S', s, hm, q⟩ => by
  obtain ⟨d, S1, h1, h2⟩ := R.bind_ok hm
  obtain ⟨rfl, rfl⟩ := tupD_ok h2
  refine ⟨g, w, o, ρ, S, _, _, s, h1, fun v g1 H1 x1 s1 ⟨a, vs, e, hr, r⟩ => ⟨a, e, ⟨vs, hr⟩, q g1 H1 _ x1 s1 (.tuple hr r)⟩⟩
/-- range -/
def rangeD (lo hi : Int) : List D := (List.range (hi - lo).toNat).map fun k => .int (lo + (k : Nat))
theorem Walks.range {K : PySem.W.Frag} {g w o : List Addr} {H : Hp} {lo : Int} {n : Nat} : Walks K g w o H (Itr lo n) ((List.range n).map fun k => .int (lo + (k : Nat))) where
  item := fun i d g1 o1 H1 h x => by
    have hi : i < n := by have := lt_of_get h; simpa using this
    refine ⟨hi, fun y H2 ⟨e2, hy⟩ => ?_⟩
    subst e2; subst hy
    rw [List.getElem?_map, List.getElem?_range hi] at h
    cases h
    exact ⟨.refl, rfl⟩
  stop := fun i g1 o1 H1 h x => by
    have : n ≤ i := by simpa using h
    exact this
def iRange1 (l : MA) : ML := fun ρ S => (l ρ S).bind fun ds S1 => match ds with
  | [.int j] => if -(2 ^ 62) ≤ j ∧ j < 2 ^ 62 then .ok (rangeD 0 j) S1 else .bad
  | _ => .bad
def iRange2 (l : MA) : ML := fun ρ S => (l ρ S).bind fun ds S1 => match ds with
  | [.int i, .int j] => if -(2 ^ 62) ≤ i ∧ i < 2 ^ 62 ∧ -(2 ^ 62) ≤ j ∧ j < 2 ^ 62 then .ok (rangeD i j) S1 else .bad
  | _ => .bad
theorem im_range1 {a : Expr} {l : MA} {p : Pos} (hg : Gl X "range") (hm : X.mg "range" = none) (ha : AM X [a] l) (hs : starEach [a] X.env = [(false, eval a X.env)] := by rfl) : IM X tg (.Call (.Name "range" p) [a] [] pos) (iRange1 l) :=
  PI.of (pi_range1 hg hm ha hs) fun σ H Rr ⟨g, w, o, ρ, S, l, S', s, hm, q⟩ => by
    obtain ⟨ds, S1, h1, h2⟩ := R.bind_ok hm
    split at h2
    · rename_i j
      split at h2
      · rename_i hj
        cases h2
        refine ⟨g, w, o, ρ, S, _, _, s, h1, fun vs g1 H1 x1 s1 ⟨v, r, e, rv, rn⟩ => ⟨j, ?_, hj.1, hj.2, q g1 H1 _ x1 s1 ?_⟩⟩
        · rw [e]; cases rv; cases rn; rfl
        · unfold rangeD; rw [Int.sub_zero]; exact .range
      · cases h2
    · cases h2
theorem im_range2 {a b : Expr} {l : MA} {p : Pos} (hg : Gl X "range") (hm : X.mg "range" = none) (ha : AM X [a, b] l) (hs : starEach [a, b] X.env = [(false, eval a X.env), (false, eval b X.env)] := by rfl)
    (hs2 : starEach [b] X.env = [(false, eval b X.env)] := by rfl) : IM X tg (.Call (.Name "range" p) [a, b] [] pos) (iRange2 l) :=
  PI.of (pi_range2 hg hm ha hs hs2) fun σ H Rr ⟨g, w, o, ρ, S, l, S', s, hm, q⟩ => by
    obtain ⟨ds, S1, h1, h2⟩ := R.bind_ok hm
    split at h2
    · rename_i i j
      split at h2
      · rename_i hj
        cases h2
        refine ⟨g, w, o, ρ, S, _, _, s, h1, fun vs g1 H1 x1 s1 ⟨v, r, e, rv, v2, r2, e2, rv2, rn⟩ => ⟨i, j, ?_, hj, q g1 H1 _ x1 s1 .range⟩⟩
        rw [e]; cases rv; subst e2; cases rv2; cases rn; rfl
      · cases h2
    · cases h2

/-! ### for -/
def mForL (p : Pat) (mb : MS) : List D → MS
  | [], ρ, S => .ok (.nx ρ) S
  | d :: ds, ρ, S => match p.bind d with
    | none => .bad
    | some l => (mb (setD ρ l) S).bind fun fl S1 => match fl with
      | .nx ρ1 => mForL p mb ds ρ1 S1
      | .ct ρ1 => mForL p mb ds ρ1 S1
      | .bk ρ1 => .ok (.nx ρ1) S1
      | .rt d => .ok (.rt d) S1
def mFor (p : Pat) (it : ML) (mb : MS) : MS := fun ρ S => (it ρ S).bind fun l S1 => mForL p mb l ρ S1
theorem sm_for (hp : PassesOwn (model X.prog X.w) X.A X.env X.xe) (hc : X.calm = true) (hi : IM X tg iter ml) (hg : GM X tg p) (hb : SsM X body mb) (hs : ∀ x, foldedSetIterable iter X.env x = pure x := by intro _; rfl) :
    SM X (.For tg iter body [] pos) (mFor p ml mb) := PS.of (ps_for hp hc hi hg hb hs) fun E σ H ⟨g, w, o, ρ, S, fl, S', s, hm, q⟩ => by
  obtain ⟨l, S1, h1, hm⟩ := R.bind_ok hm
  refine ⟨g, w, o, ρ, S, l, S1, s, h1, fun g1 H1 J x1 s1 wk => ?_⟩
  refine ⟨fun i m σ2 H2 => m = l.length - i ∧ i ≤ l.length ∧ ∃ g2 o2 ρ2 S2 fl S', ExtS g1 o H1 g2 o2 H2 ∧ Sta X.K g2 w o2 ρ2 S2 σ2 H2 ∧ mForL p mb (l.drop i) ρ2 S2 = .ok fl S' ∧ FinS X.K g2 w o2 H2 fl S' E,
    ⟨l.length, by simp, Nat.zero_le _, g1, o, ρ, S1, fl, S', .refl, s.ext x1 s1, by simpa using hm, q.after x1.s⟩, ?_⟩
  rintro i m σ2 H2 ⟨rfl, hi, g2, o2, ρ2, S2, fl, S', x2, s2, hm, q⟩
  by_cases hlt : i < l.length
  · have hd : l.drop i = l[i] :: l.drop (i + 1) := List.drop_eq_getElem_cons hlt
    have hget : l[i]? = some l[i] := List.getElem?_eq_getElem hlt
    obtain ⟨go, yl⟩ := wk.item i l[i] g2 o2 H2 hget x2
    rw [hd] at hm
    unfold mForL at hm
    split at hm
    · cases hm
    rename_i bl hbl
    obtain ⟨f3, S3, h3, hm⟩ := R.bind_ok hm
    refine .inr ⟨go, fun σ3 H3 => ∃ g3 o3 ρ3 S3 fl S', ExtS g1 o H1 g3 o3 H3 ∧ Sta X.K g3 w o3 ρ3 S3 σ3 H3 ∧ mForL p mb (l.drop (i + 1)) ρ3 S3 = .ok fl S' ∧ FinS X.K g3 w o3 H3 fl S' E, fun σ' H' n => ⟨l.length - (i + 1), by omega, rfl, hlt, n⟩, fun x H3 hy => ?_⟩
    obtain ⟨⟨x3, t3⟩, rx⟩ := yl x H3 hy
    have s3 : Sta X.K g2 w o2 ρ2 S2 σ2 H3 := s2.ext x3 (t3 _ _ s2.sto)
    refine ⟨g2, w ++ o2, l[i], bl, rx, hbl, fun vs rv => ?_⟩
    refine ⟨g2, w, o2, _, S2, f3, S3, s3.setA rv, h3, fun g4 o4 H4 x4 => ?_⟩
    have x24 := x3.s.trans x4
    cases f3 with
    | nx ρ1 => exact fun σ' st => ⟨g4, o4, ρ1, S3, fl, S', x2.trans x24, st, hm, q.after x24⟩
    | ct ρ1 => exact fun σ' st => ⟨g4, o4, ρ1, S3, fl, S', x2.trans x24, st, hm, q.after x24⟩
    | bk ρ1 => cases hm; exact q g4 o4 H4 x24
    | rt d => cases hm; exact q g4 o4 H4 x24
  · have e : i = l.length := by omega
    subst e
    rw [List.drop_length] at hm
    cases hm
    exact .inl ⟨wk.stop _ g2 o2 H2 (Nat.le_refl _) x2, q g2 o2 H2 .refl σ2 s2⟩

/-! ### while -/
def mWhileN (c : MT) (b : MS) : Nat → MS
  | 0, _, _ => .bad
  | n + 1, ρ, S => (c ρ S).bind fun k S1 => if k = true then (b ρ S1).bind fun fl S2 => match fl with
      | .nx ρ1 => mWhileN c b n ρ1 S2
      | .ct ρ1 => mWhileN c b n ρ1 S2
      | .bk ρ1 => .ok (.nx ρ1) S2
      | .rt d => .ok (.rt d) S2
    else .ok (.nx ρ) S1
/-- more turns than any loop here takes -/
def manyTurns : Nat := 2 ^ 64
def mWhile (c : MT) (b : MS) : MS := mWhileN c b manyTurns
theorem mWhileN_more {c : MT} {b : MS} {fl : Fl} {S' : Store} : ∀ {n m : Nat} {ρ : MEnv} {S : Store}, n ≤ m → mWhileN c b n ρ S = .ok fl S' → mWhileN c b m ρ S = .ok fl S'
  | 0, _, _, _, _, h => by cases h
  | n + 1, 0, _, _, hl, _ => by omega
  | n + 1, m + 1, ρ, S, hl, h => by
    unfold mWhileN at h ⊢
    obtain ⟨k, S1, h1, h2⟩ := R.bind_ok h
    rw [h1]
    show (if k = true then _ else _) = _
    cases k with
    | false => exact h2
    | true =>
      rw [if_pos rfl] at h2 ⊢
      obtain ⟨f2, S2, h3, h4⟩ := R.bind_ok h2
      rw [h3]
      cases f2 with
      | nx ρ1 => exact mWhileN_more (by omega) h4
      | ct ρ1 => exact mWhileN_more (by omega) h4
      | bk ρ1 => exact h4
      | rt d => exact h4
theorem sm_while (hp : PassesOwn (model X.prog X.w) X.A X.env X.xe) (hc : TM X c mc) (hb : SsM X body mb) : SM X (.While c body [] pos) (mWhile mc mb) := PS.of (ps_while hp hc hb) fun E σ H ⟨g, w, o, ρ, S, fl, S', s, hm, q⟩ => by
  refine ⟨fun n σ2 H2 => ∃ g2 o2 ρ2 S2 fl S', ExtS g o H g2 o2 H2 ∧ Sta X.K g2 w o2 ρ2 S2 σ2 H2 ∧ mWhileN mc mb n ρ2 S2 = .ok fl S' ∧ FinS X.K g2 w o2 H2 fl S' E, ⟨manyTurns, g, o, ρ, S, fl, S', .refl, s, hm, q⟩, ?_⟩
  rintro n σ2 H2 ⟨g2, o2, ρ2, S2, fl, S', x2, s2, hm, q⟩
  cases n with
  | zero => cases hm
  | succ n =>
    unfold mWhileN at hm
    obtain ⟨k, S3, h1, hm⟩ := R.bind_ok hm
    refine ⟨g2, w, o2, ρ2, S2, k, S3, s2, h1, fun g3 H3 x3 t3 => ?_⟩
    have s3 := s2.ext x3 t3
    cases k with
    | false => cases hm; exact q g3 o2 H3 x3.s σ2 s3
    | true =>
      rw [if_pos rfl] at hm
      obtain ⟨f4, S4, h4, hm⟩ := R.bind_ok hm
      refine iteT ⟨fun σ5 H5 => ∃ g5 o5 ρ5 S5 fl S', ExtS g o H g5 o5 H5 ∧ Sta X.K g5 w o5 ρ5 S5 σ5 H5 ∧ mWhileN mc mb n ρ5 S5 = .ok fl S' ∧ FinS X.K g5 w o5 H5 fl S' E, fun σ' H' hn => ⟨n, Nat.lt_succ_self _, hn⟩, ?_⟩
      refine ⟨g3, w, o2, ρ2, S3, f4, S4, s3, h4, fun g4 o4 H4 x4 => ?_⟩
      have x24 := x3.s.trans x4
      cases f4 with
      | nx ρ1 => exact fun σ' st => ⟨g4, o4, ρ1, S4, fl, S', x2.trans x24, st, hm, q.after x24⟩
      | ct ρ1 => exact fun σ' st => ⟨g4, o4, ρ1, S4, fl, S', x2.trans x24, st, hm, q.after x24⟩
      | bk ρ1 => cases hm; exact q g4 o4 H4 x24
      | rt d => cases hm; exact q g4 o4 H4 x24
end
end Mo
set_option maxRecDepth 100000
set_option maxHeartbeats 1000000
/-! Mo: comprehensions; own lists and cells that change. -/
namespace Mo
open PySem PySem.Spec PyProof.Rows L2

section
variable {K : PySem.W.Frag} {g f : List Addr} {H : Hp} {p : Addr} {u : HO}
theorem Rd.mut {b : Addr} {v : HO} (hm : Mut (H p)) (hv : ¬ Mut (some v)) (h : Rd H b v) : b ≠ p := by
  intro e
  subst e
  rcases h with h | ⟨ob, h⟩
  · rw [h] at hm; exact hv hm
  · rw [h] at hm; exact hm
theorem Rd.upd {b : Addr} {v : HO} (hne : b ≠ p) (h : Rd H b v) : Rd (upd H p u) b v := by
  rcases h with h | ⟨ob, h⟩
  · exact .inl (by rw [upd_ne hne]; exact h)
  · exact .inr ⟨ob, by rw [upd_ne hne]; exact h⟩
/-- p is forbidden, or a cell: what rests is elsewhere -/
theorem RestL.upd {a : Addr} {vs : List V} (hp : p ∈ f ∨ p ∈ g) (h : RestL g f H a vs) : RestL g f (upd H p u) a vs := by
  have ne : a ≠ p := by
    intro e
    subst e
    exact hp.elim h.2.1 h.1
  exact ⟨h.1, h.2.1, by rw [upd_ne ne]; exact h.2.2⟩
theorem ScrL.upd {a : Addr} {vs : List V} (hp : p ∈ f ∨ p ∈ g) (h : ScrL K g f H a vs) : ScrL K g f (upd H p u) a vs := by
  rcases h with ⟨h1, h2, h3⟩ | h
  · refine .inl ⟨h1, h2, Rd.upd (fun e => ?_) h3⟩
    subst e
    exact hp.elim h2 h1
  · exact .inr h
theorem SqT.upd {a : Addr} {vs : List V} (hm : Mut (H p)) (h : SqT K H a vs) : SqT K (upd H p u) a vs := by
  rcases h with h | h
  · exact .inl (Rd.upd (Rd.mut (v := .tup vs) hm (fun z => z) h) h)
  · exact .inr h
mutual
theorem RelD.upd (hm : Mut (H p)) (hp : p ∈ f ∨ p ∈ g) : ∀ (d : D) (v : V), RelD K g f H d v → RelD K g f (upd H p u) d v
  | .non, _, h => h
  | .bl _, _, h => h
  | .int _, _, h => h
  | .str _, _, h => h
  | .raw _, _, h => h
  | .tup l, _, ⟨a, vs, e, q, r⟩ => ⟨a, vs, e, SqT.upd hm q, RelDs.upd hm hp l vs r⟩
  | .lst l, _, ⟨a, vs, e, q, r⟩ => ⟨a, vs, e, q.upd hp, RelDs.upd hm hp l vs r⟩
  | .loc n, _, h => h
  | .scr l, _, ⟨a, e, q⟩ => ⟨a, e, q.upd hp⟩
theorem RelDs.upd (hm : Mut (H p)) (hp : p ∈ f ∨ p ∈ g) : ∀ (l : List D) (vs : List V), RelDs K g f H l vs → RelDs K g f (upd H p u) l vs
  | [], _, h => h
  | d :: ds, _, ⟨v, r, e, q, t⟩ => ⟨v, r, e, RelD.upd hm hp d v q, RelDs.upd hm hp ds r t⟩
end
theorem RelKv.upd {κ : Type} (hm : Mut (H p)) (hp : p ∈ f ∨ p ∈ g) : ∀ (l : List (κ × D)) (vs : List (κ × V)), RelKv K g f H l vs → RelKv K g f (upd H p u) l vs
  | [], _, h => h
  | d :: ds, _, ⟨v, r, e, q, t⟩ => ⟨v, r, e, RelD.upd hm hp d.2 v q, RelKv.upd hm hp ds r t⟩
theorem RelC.upd {a : Addr} (hm : Mut (H p)) (hp : p ∈ f ∨ p ∈ g) (hne : a ≠ p) : ∀ {c : Cell}, RelC K g f H a c → RelC K g f (upd H p u) a c
  | .lst l, ⟨vs, e, r⟩ => ⟨vs, by rw [upd_ne hne]; exact e, RelDs.upd hm hp l vs r⟩
  | .dK l, ⟨vs, e, r⟩ => ⟨vs, by rw [upd_ne hne]; exact e, RelKv.upd hm hp l vs r⟩
  | .dT l, ⟨vs, e, r, r'⟩ => ⟨vs, by rw [upd_ne hne]; exact e, RelKv.upd hm hp _ _ r, RelKv.upd hm hp _ _ r'⟩
  | .dF l, ⟨vs, ⟨ob, e⟩, r⟩ => ⟨vs, ⟨ob, by rw [upd_ne hne]; exact e⟩, RelKv.upd hm hp l vs r⟩
theorem RelS.updF {S : Store} (s : RelS K g f H S) (hm : Mut (H p)) (hp : p ∈ f) (hn : p ∉ g) : RelS K g f (upd H p u) S :=
  ⟨s.len, s.nod, fun n c a e1 e2 => (s.cel n c a e1 e2).upd hm (.inl hp) fun e => hn (e ▸ List.mem_of_getElem? e2)⟩
/-- a cell of the store changes -/
theorem RelS.updG {S : Store} {n : Nat} {c : Cell} (s : RelS K g f H S) (hm : Mut (H p)) (hp : g[n]? = some p) (r : RelC K g f (upd H p u) p c) : RelS K g f (upd H p u) (S.set n c) where
  len := by rw [List.length_set]; exact s.len
  nod := s.nod
  cel := fun m d a e1 e2 => by
    by_cases hk : n = m
    · subst hk
      rw [hp] at e2; cases e2
      have hl : n < S.length := by rw [← s.len]; exact lt_of_get hp
      rw [List.getElem?_set_self hl] at e1
      cases e1
      exact r
    · rw [List.getElem?_set_ne hk] at e1
      refine (s.cel m d a e1 e2).upd hm (.inr (List.mem_of_getElem? hp)) fun e => ?_
      subst e
      have h1 := lt_of_get hp
      have h2 := lt_of_get e2
      rw [List.getElem?_eq_getElem h1] at hp
      rw [List.getElem?_eq_getElem h2] at e2
      cases hp
      exact hk ((List.getElem_inj s.nod).mp (Option.some.inj e2).symm)
/-- a forbidden place that no name stands for changes -/
theorem Sta.updF {w o : List Addr} {ρ : MEnv} {S : Store} {σ : L2.St} (s : Sta K g w o ρ S σ H) (hm : Mut (H p)) (hp : p ∈ w ++ o) (hn : p ∉ g) (hno : ∀ (i : Nat) (c : Cell), ρ[i]? = some (some (Slot.own c)) → σ[i]? ≠ some (some (V.ref p))) : Sta K g w o ρ S σ (upd H p u) where
  len := s.len
  val := fun i d e => let ⟨v, e1, r⟩ := s.val i d e; ⟨v, e1, RelD.upd hm (.inl hp) d v r⟩
  own := fun i c e => let ⟨a, e1, m, r⟩ := s.own i c e; ⟨a, e1, m, r.upd hm (.inl hp) fun q => hno i c e (q ▸ e1)⟩
  inj := s.inj
  out := s.out
  liv := fun a m => by
    by_cases e : a = p
    · subst e; rw [upd_same]; simp
    · rw [upd_ne e]; exact s.liv a m
  sto := s.sto.updF hm hp hn
/-- the own cell of name i changes -/
theorem Sta.updO {w o : List Addr} {ρ : MEnv} {S : Store} {σ : L2.St} {i : Nat} {c c' : Cell} (s : Sta K g w o ρ S σ H) (hi : ρ[i]? = some (some (.own c))) (hσ : σ[i]? = some (some (V.ref p))) (hm : Mut (H p)) (r : RelC K g (w ++ o) (L2.upd H p u) p c') :
    Sta K g w o (ρ.set i (some (.own c'))) S σ (L2.upd H p u) := by
  obtain ⟨a, e1, m, r0⟩ := s.own i c hi
  rw [hσ] at e1; cases e1
  have hn := (s.out p m).1
  have hf : p ∈ w ++ o := List.mem_append_right _ m
  have hl : i < ρ.length := lt_of_get hi
  refine ⟨by rw [List.length_set]; exact s.len, fun j d e => ?_, fun j d e => ?_, fun j k d e a h1 h2 h3 h4 => ?_, s.out, fun a ma => ?_, s.sto.updF hm hf hn⟩
  · by_cases hj : i = j
    · subst hj; rw [List.getElem?_set_self hl] at e; cases e
    · rw [List.getElem?_set_ne hj] at e
      obtain ⟨v, e1, r1⟩ := s.val j d e
      exact ⟨v, e1, RelD.upd hm (.inl hf) d v r1⟩
  · by_cases hj : i = j
    · subst hj
      rw [List.getElem?_set_self hl] at e
      cases e
      exact ⟨p, hσ, m, r⟩
    · rw [List.getElem?_set_ne hj] at e
      obtain ⟨a, e1, m1, r1⟩ := s.own j d e
      exact ⟨a, e1, m1, r1.upd hm (.inl hf) fun q => hj (s.inj i j c d p hi e hσ (q ▸ e1))⟩
  · have own_of : ∀ {j : Nat} {d : Cell}, (ρ.set i (some (.own c')))[j]? = some (some (Slot.own d)) → ∃ d', ρ[j]? = some (some (Slot.own d')) := fun {j d} h => by
      by_cases hj : i = j
      · exact ⟨c, hj ▸ hi⟩
      · rw [List.getElem?_set_ne hj] at h; exact ⟨d, h⟩
    obtain ⟨d1, q1⟩ := own_of h1
    obtain ⟨d2, q2⟩ := own_of h2
    exact s.inj j k d1 d2 a q1 q2 h3 h4
  · by_cases e : a = p
    · subst e; rw [upd_same]; simp
    · rw [upd_ne e]; exact s.liv a ma
theorem ExtS.updO {o : List Addr} (hm : Mut (H p)) (ho : p ∈ o) : ExtS g o H g o (L2.upd H p u) where
  more := ⟨[], by simp, fun _ h => nomatch h⟩
  keep := fun a v e _ h => by
    have : a ≠ p := fun q => h (q ▸ ho)
    rw [upd_ne this]; exact e
  live := fun a h => by
    by_cases e : a = p
    · subst e; rw [upd_same]; simp
    · rw [upd_ne e]; exact h
  tups := fun a vs h => Rd.upd (Rd.mut (v := .tup vs) hm (fun z => z) h) h
  frz := fun a o u h => by
    have : a ≠ p := fun e => by subst e; rw [h] at hm; exact hm
    rw [upd_ne this]; exact h
  lam := fun _ h => .inl h
theorem Ext.updG (hm : Mut (H p)) (ho : p ∈ g) : Ext g H g (L2.upd H p u) where
  more := ⟨[], by simp, fun _ h => nomatch h⟩
  keep := fun a v e h => by
    have : a ≠ p := fun q => h (q ▸ ho)
    rw [upd_ne this]; exact e
  live := fun a h => by
    by_cases e : a = p
    · subst e; rw [upd_same]; simp
    · rw [upd_ne e]; exact h
  tups := fun a vs h => Rd.upd (Rd.mut (v := .tup vs) hm (fun z => z) h) h
  frz := fun a o u h => by
    have : a ≠ p := fun e => by subst e; rw [h] at hm; exact hm
    rw [upd_ne this]; exact h
end

/-! ### comprehensions -/
def wipeM (ρ : MEnv) : List Nat → MEnv
  | [] => ρ
  | v :: vs => (wipeM ρ vs).set v none
theorem Sta.unset {K : PySem.W.Frag} {g w o : List Addr} {ρ : MEnv} {S : Store} {σ : L2.St} {H : Hp} {i : Nat} (s : Sta K g w o ρ S σ H) : Sta K g w o (ρ.set i none) S (σ.set i none) H := by
  have back : ∀ {j : Nat} {d : Slot}, (ρ.set i none)[j]? = some (some d) → i ≠ j ∧ ρ[j]? = some (some d) := fun {j d} h => by
    by_cases hj : i = j
    · subst hj
      have hl : i < ρ.length := by have := lt_of_get h; simpa using this
      rw [List.getElem?_set_self hl] at h; cases h
    · rw [List.getElem?_set_ne hj] at h; exact ⟨hj, h⟩
  refine ⟨by rw [List.length_set, List.length_set]; exact s.len, fun j d h => ?_, fun j d h => ?_, fun j k c d a h1 h2 h3 h4 => ?_, s.out, s.liv, s.sto⟩
  · obtain ⟨hj, h⟩ := back h
    rw [List.getElem?_set_ne hj]
    exact s.val j d h
  · obtain ⟨hj, h⟩ := back h
    rw [List.getElem?_set_ne hj]
    exact s.own j d h
  · obtain ⟨n1, h1⟩ := back h1
    obtain ⟨n2, h2⟩ := back h2
    rw [List.getElem?_set_ne n1] at h3
    rw [List.getElem?_set_ne n2] at h4
    exact s.inj j k c d a h1 h2 h3 h4
theorem Sta.wipe {K : PySem.W.Frag} {g w o : List Addr} {ρ : MEnv} {S : Store} {σ : L2.St} {H : Hp} (s : Sta K g w o ρ S σ H) : ∀ vs : List Nat, Sta K g w o (wipeM ρ vs) S (wipe σ vs) H
  | [] => s
  | v :: vs => (Sta.wipe s vs).unset
theorem wipe_get {σ : L2.St} : ∀ {vs : List Nat} {i : Nat}, (wipe σ vs)[i]? = if i ∈ vs then (if i < σ.length then some none else none) else σ[i]?
  | [], i => by simp [wipe]
  | v :: vs, i => by
    unfold L2.wipe
    by_cases hi : v = i
    · subst hi
      rw [if_pos List.mem_cons_self]
      by_cases hl : v < σ.length
      · rw [List.getElem?_set_self (by rw [wipe_length]; exact hl), if_pos hl]
      · rw [List.getElem?_eq_none (by rw [List.length_set, wipe_length]; omega), if_neg hl]
    · rw [List.getElem?_set_ne hi, wipe_get (vs := vs)]
      by_cases hm : i ∈ vs
      · rw [if_pos hm, if_pos (List.mem_cons_of_mem _ hm)]
      · rw [if_neg hm, if_neg (by simp only [List.mem_cons, not_or]; exact ⟨fun e => hi e.symm, hm⟩)]
theorem setV_len : ∀ (l : List (Nat × V)) (σ : L2.St), (setV σ l).length = σ.length
  | [], _ => rfl
  | (i, x) :: r, σ => by
    have := setV_len r (σ.set i (some x))
    rw [List.length_set] at this
    exact this
theorem setV_get : ∀ (l : List (Nat × V)) (σ : L2.St) (i : Nat), i ∉ l.map (·.1) → (setV σ l)[i]? = σ[i]?
  | [], _, _, _ => rfl
  | (j, x) :: r, σ, i, h => by
    have h1 : j ≠ i := fun e => h (by rw [List.map_cons, e]; exact List.mem_cons_self)
    have := setV_get r (σ.set j (some x)) i fun m => h (by rw [List.map_cons]; exact List.mem_cons_of_mem _ m)
    rw [List.getElem?_set_ne h1] at this
    exact this
theorem wipe_setV {σ : L2.St} {vs : List Nat} {l : List (Nat × V)} (h : ∀ i ∈ l.map (·.1), i ∈ vs) : wipe (setV (wipe σ vs) l) vs = wipe σ vs := by
  apply List.ext_getElem?
  intro i
  rw [wipe_get, wipe_get]
  by_cases hm : i ∈ vs
  · rw [if_pos hm, if_pos hm, setV_len, wipe_length]
  · rw [if_neg hm, if_neg hm, setV_get _ _ _ fun z => hm (h i z), wipe_get, if_neg hm]
def TsM (X : Cx) (ifs : List Expr) (m : MT) : Prop := PTs X ifs (tM X.K m)
def mYes : MT := fun _ S => .ok true S
def mLcL (p : Pat) (mt : MT) (me : ME) : List D → MEnv → Store → R (List D)
  | [], _, S => .ok [] S
  | d :: ds, ρ, S => match p.bind d with
    | none => .bad
    | some l => (mt (setD ρ l) S).bind fun k S1 => if k = true then (me (setD ρ l) S1).bind fun y S2 => (mLcL p mt me ds ρ S2).bind fun r S3 => .ok (y :: r) S3
      else mLcL p mt me ds ρ S1
/-- [e for p in it if t], the block's own names at vs -/
def mLc (it : ML) (p : Pat) (vs : List Nat) (mt : MT) (me : ME) : ML := fun ρ S => (it ρ S).bind fun l S1 => (mLcL p mt me l (wipeM ρ vs) S1).bind fun r S2 => if r.length ≤ sizeLine then .ok r S2 else .bad
section
variable {X : Cx} {tg iter elt : Expr} {ifs : List Expr} {p : Pat} {pos : Pos} {ml : ML} {mt : MT} {me : ME}
theorem tsm_nil : TsM X [] mYes := ⟨fun pins s σ H Q I ⟨g, w, o, ρ, S, k, S', st, hm, q⟩ => by
  cases hm
  exact pts_nil.run pins s σ H Q I (q g H .refl st.sto)⟩
theorem tsm_one {c : Expr} (h : TM X c mt) : TsM X [c] mt := pts_one h
theorem lc_of {vs : List Nat} {σ : L2.St} {H : Hp} {Q : VK} (hv : ∀ i ∈ p.ixs, i ∈ vs) (q : tN X.K (mLc ml p vs mt me) σ H Q) : tLc (tI X.K ml) (tG X.K p) (tM X.K mt) (tE X.K me) vs σ H Q := by
  obtain ⟨g, w, o, ρ, S, res, S', s, hm, q⟩ := q
  obtain ⟨l, S1, h1, hm⟩ := R.bind_ok hm
  obtain ⟨r, S2, h2, hm⟩ := R.bind_ok hm
  have hz : r.length ≤ sizeLine := by
    split at hm
    · assumption
    · cases hm
  rw [if_pos hz] at hm
  cases hm
  refine ⟨g, w, o, ρ, S, l, S1, s, h1, fun g1 H1 J x1 s1 wk D hD => ?_⟩
  have st1 : Sta X.K g1 w o ρ S1 σ H1 := s.ext x1 s1
  have hHD : H D = none := by
    cases e : H D with
    | none => rfl
    | some u => exact absurd hD (x1.live D (by rw [e]; simp))
  have ea : w ++ (o ++ [D]) = (w ++ o) ++ [D] := (List.append_assoc w o [D]).symm
  have noOwn : ∀ (i : Nat) (c : Cell), (wipeM ρ vs)[i]? = some (some (Slot.own c)) → (wipe σ vs)[i]? ≠ some (some (V.ref D)) := fun i c h e => by
    obtain ⟨a, e1, m, _⟩ := (st1.wipe vs).own i c h
    rw [e] at e1; cases e1
    exact st1.liv D (List.mem_append_right _ m) hD
  -- the wiped state with the new list among the own places
  have st2 : Sta X.K g1 w (o ++ [D]) (wipeM ρ vs) S1 (wipe σ vs) (upd H1 D (.lst [])) := by
    have a := st1.wipe vs
    refine ⟨a.len, fun i d h => ?_, fun i c h => ?_, a.inj, fun b m => ?_, fun b m => ?_, ?_⟩
    · obtain ⟨v, e1, r1⟩ := a.val i d h
      exact ⟨v, e1, by rw [ea]; exact RelD.ext (.new hD) d v (RelD.fresh hD d v r1)⟩
    · obtain ⟨b, e1, m, r1⟩ := a.own i c h
      exact ⟨b, e1, List.mem_append_left _ m, by rw [ea]; exact (r1.fresh hD).new hD⟩
    · rcases List.mem_append.mp m with m | m
      · exact a.out b m
      · rw [List.mem_singleton.mp m]
        exact ⟨s1.noG hD, fun z => st1.noF hD (List.mem_append_left _ z)⟩
    · rw [ea] at m
      by_cases e : b = D
      · subst e; rw [upd_same]; simp
      · rw [upd_ne e]
        rcases List.mem_append.mp m with m | m
        · exact a.liv b m
        · exact absurd (List.mem_singleton.mp m) e
    · rw [ea]; exact (s1.fresh hD).new hD
  refine ⟨fun i m H2 => m = l.length - i ∧ i ≤ l.length ∧ ∃ g2 S2 acc accD rest, Ext g1 H1 g2 H2 ∧ Sta X.K g2 w (o ++ [D]) (wipeM ρ vs) S2 (wipe σ vs) H2 ∧ H2 D = some (.lst acc) ∧ RelDs X.K g2 (w ++ (o ++ [D])) H2 accD acc ∧
      mLcL p mt me (l.drop i) (wipeM ρ vs) S2 = .ok rest S' ∧ res = accD ++ rest,
    ⟨l.length, by simp, Nat.zero_le _, g1, S1, [], [], res, .new hD, st2, upd_same, rfl, by simpa using h2, rfl⟩, ?_⟩
  rintro i m H2 ⟨rfl, hi, g2, S2, acc, accD, rest, x2, s2, hacc, racc, hm, he⟩
  have xs : ExtS g1 o H1 g2 (o ++ [D]) H2 := .own x2 hD
  by_cases hlt : i < l.length
  · have hdr : l.drop i = l[i] :: l.drop (i + 1) := List.drop_eq_getElem_cons hlt
    obtain ⟨go, yl⟩ := wk.item i l[i] g2 (o ++ [D]) H2 (List.getElem?_eq_getElem hlt) xs
    rw [hdr] at hm
    unfold mLcL at hm
    split at hm
    · cases hm
    rename_i bl hbl
    obtain ⟨k, S3, h3, hm⟩ := R.bind_ok hm
    refine .inr ⟨go, fun H3 => ∃ g3 S3 acc accD rest, Ext g1 H1 g3 H3 ∧ Sta X.K g3 w (o ++ [D]) (wipeM ρ vs) S3 (wipe σ vs) H3 ∧ H3 D = some (.lst acc) ∧ RelDs X.K g3 (w ++ (o ++ [D])) H3 accD acc ∧
      mLcL p mt me (l.drop (i + 1)) (wipeM ρ vs) S3 = .ok rest S' ∧ res = accD ++ rest, fun H' n => ⟨l.length - (i + 1), by omega, rfl, hlt, n⟩, fun x H3 hy => ?_⟩
    obtain ⟨⟨x3, t3⟩, rx⟩ := yl x H3 hy
    have s3 := s2.ext x3 (t3 _ _ s2.sto)
    have racc3 := RelDs.ext x3 _ _ racc
    have nD : D ∉ g2 := (s2.out D (by simp)).1
    have hacc3 : H3 D = some (.lst acc) := x3.keep D _ hacc nD
    refine ⟨g2, w ++ (o ++ [D]), l[i], bl, rx, hbl, fun us ru => ⟨wipe_setV fun j hj => ?_, ?_⟩⟩
    · rw [ru.fst, p.bind_ixs _ _ hbl] at hj
      exact hv j hj
    refine ⟨g2, w, o ++ [D], _, S2, k, S3, s3.setA ru, h3, fun g4 H4 x4 s4 => ?_⟩
    have st4 := s3.ext x4 s4
    have racc4 := RelDs.ext x4 _ _ racc3
    have hacc4 : H4 D = some (.lst acc) := x4.keep D _ hacc3 nD
    have nD4 : D ∉ g4 := (st4.out D (by simp)).1
    have x14 := (x2.trans x3).trans x4
    cases k with
    | false =>
      rw [if_neg Bool.false_ne_true] at hm
      exact iteF ⟨g4, S3, acc, accD, rest, x14, st4, hacc4, racc4, hm, he⟩
    | true =>
      rw [if_pos rfl] at hm
      obtain ⟨y, S5, h5, hm⟩ := R.bind_ok hm
      obtain ⟨rest5, S6, h6, hm⟩ := R.bind_ok hm
      cases hm
      refine iteT ⟨g4, w, o ++ [D], _, S3, y, S5, (s3.setA ru).ext x4 s4, h5, fun v g5 H5 x5 s5 r5 => ?_⟩
      have st5 := st4.ext x5 s5
      have hacc5 : H5 D = some (.lst acc) := x5.keep D _ hacc4 nD4
      have nD5 : D ∉ g5 := (st5.out D (by simp)).1
      have racc5 := RelDs.ext x5 _ _ racc4
      have mD : Mut (H5 D) := by rw [hacc5]; trivial
      have fD : D ∈ w ++ (o ++ [D]) := by simp
      refine ⟨acc, hacc5, ?_, g5, S5, acc ++ [v], accD ++ [y], rest5, ?_, st5.updF mD fD nD5 noOwn, upd_same, RelDs.upd mD (.inl fD) _ _ (RelDs.append racc5 ⟨v, [], rfl, r5, rfl⟩), h6, by rw [he, List.append_assoc]; rfl⟩
      · have : accD.length = acc.length := racc.length
        rw [he, List.length_append, List.length_cons] at hz
        omega
      · have xx := x14.trans x5
        refine ⟨xx.more, fun a u e hn => ?_, fun a h => ?_, fun a vs h => ?_, fun a o u h => ?_⟩
        · have : a ≠ D := fun z => by subst z; rw [hD] at e; cases e
          rw [upd_ne this]; exact xx.keep a u e hn
        · by_cases z : a = D
          · subst z; rw [upd_same]; simp
          · rw [upd_ne z]; exact xx.live a h
        · have h' := xx.tups a vs h
          exact Rd.upd (Rd.mut (v := .tup vs) mD (fun z => z) h') h'
        · have h' := xx.frz a o u h
          have : a ≠ D := fun z => by subst z; rw [h'] at mD; exact mD
          rw [upd_ne this]; exact h'
  · have e : i = l.length := by omega
    subst e
    rw [List.drop_length] at hm
    cases hm
    rw [List.append_nil] at he
    subst he
    refine .inl ⟨wk.stop _ g2 (o ++ [D]) H2 (Nat.le_refl _) xs, ?_⟩
    refine q D acc g2 H2 (x1.trans x2) hHD (s2.out D (by simp)).1 hacc ?_ ?_
    · rw [← ea]; exact s2.sto
    · rw [← ea]; exact racc
theorem nm_lc {scope : Scope} {own : List (Str × Nat)} (hc : X.calm = true) (hN : X.N.Nodup) (hi : IM X tg iter ml) (ok : BlkOk X.N X.env.scope scope own) (hv : ∀ i ∈ p.ixs, i ∈ own.map (·.2))
    (hg : ∀ (s : Shared) (H : Hp) (C : Addr) (cl : List (Str × Addr)) (fp : List Addr), GM (X.blk s H scope (compEnvC scope cl C X.env) fp) tg p)
    (ht : ∀ (s : Shared) (H : Hp) (C : Addr) (cl : List (Str × Addr)) (fp : List Addr), TsM (X.blk s H scope (compEnvC scope cl C X.env) fp) ifs mt)
    (he : ∀ (s : Shared) (H : Hp) (C : Addr) (cl : List (Str × Addr)) (fp : List Addr), EM (X.blk s H scope (compEnvC scope cl C X.env) fp) elt me) (hs : ∀ x, foldedSetIterable iter X.env x = pure x := by intro _; rfl) :
    NM X (.ListComp elt [⟨tg, iter, ifs, 0⟩] scope pos) (mLc ml p (own.map (·.2)) mt me) :=
  PE.of (pe_lc (g := tG X.K p) (tt := tM X.K mt) (te := tE X.K me) hc hN hi ok hg ht he hs) fun σ H Q q => lc_of hv q
/-- name = [..]: the statement's own form -/
theorem ps_lcN {i : Nat} {y : Str} {py spos : Pos} {scope : Scope} {own : List (Str × Nat)} (hc : X.calm = true) (hN : X.N.Nodup) (hy : X.N[i]? = some y) (hyl : X.env.scope.names.lookup y = some .local)
    (hsw : swapsWith (.ListComp elt [⟨tg, iter, ifs, 0⟩] scope pos) (some (.Name y py)) spos.line X.env = pure true) (hi : IM X tg iter ml) (ok : BlkOk X.N X.env.scope scope own) (hv : ∀ i ∈ p.ixs, i ∈ own.map (·.2))
    (hg : ∀ (s : Shared) (H : Hp) (C : Addr) (cl : List (Str × Addr)) (fp : List Addr), GM (X.blk s H scope (compEnvC scope cl C X.env) fp) tg p)
    (ht : ∀ (s : Shared) (H : Hp) (C : Addr) (cl : List (Str × Addr)) (fp : List Addr), TsM (X.blk s H scope (compEnvC scope cl C X.env) fp) ifs mt)
    (he : ∀ (s : Shared) (H : Hp) (C : Addr) (cl : List (Str × Addr)) (fp : List Addr), EM (X.blk s H scope (compEnvC scope cl C X.env) fp) elt me) (hs : ∀ x, foldedSetIterable iter X.env x = pure x := by intro _; rfl) :
    PS X (.Assign [.Name y py] (.ListComp elt [⟨tg, iter, ifs, 0⟩] scope pos) spos) (tAsg (tN X.K (mLc ml p (own.map (·.2)) mt me)) (gName i)) :=
  PS.of (ps_setLc (g := tG X.K p) (tt := tM X.K mt) (te := tE X.K me) hc hN hy hyl hsw hi ok hg ht he hs) fun E σ H q => lc_of hv q
/-- .. kept as a value -/
theorem sm_valN {st : Stmt} {i : Nat} {m : ML} (h : PS X st (tAsg (tN X.K m) (gName i))) : SM X st (mSet i (mLst m)) := PS.of h fun E σ H ⟨g, w, o, ρ, S, fl, S', s, hm, q⟩ => by
  obtain ⟨d, S1, e1, hm⟩ := R.bind_ok hm
  cases hm
  obtain ⟨ds, S2, e2, hm⟩ := R.bind_ok e1
  cases hm
  refine ⟨g, w, o, ρ, S, ds, _, s, e2, fun p vs g1 H1 x1 hp n1 e3 s1 r1 => q g1 o H1 x1.s _ ((s.ext x1 (s1.less sub_app)).set ⟨p, vs, rfl, ⟨n1, s.noF hp, e3⟩, RelDs.less sub_app _ _ r1⟩)⟩
theorem sm_locN {st : Stmt} {i : Nat} {m : ML} (h : PS X st (tAsg (tN X.K m) (gName i))) : SM X st (mSet i (mLoc m)) := PS.of h fun E σ H ⟨g, w, o, ρ, S, fl, S', s, hm, q⟩ => by
  obtain ⟨d, S1, e1, hm⟩ := R.bind_ok hm
  cases hm
  obtain ⟨ds, S2, e2, hm⟩ := R.bind_ok e1
  cases hm
  refine ⟨g, w, o, ρ, S, ds, _, s, e2, fun p vs g1 H1 x1 hp n1 e3 s1 r1 => ?_⟩
  obtain ⟨ns, eg, hns⟩ := x1.more
  have x2 : Ext g H (g1 ++ [p]) H1 := ⟨⟨ns ++ [p], by rw [eg, List.append_assoc], fun b hb => by
    rcases List.mem_append.mp hb with z | z
    · exact hns b z
    · rw [List.mem_singleton.mp z]; exact hp⟩, x1.keep, x1.live, x1.tups, x1.frz⟩
  have s2 := s1.addG n1 (c := .lst ds) ⟨vs, e3, r1⟩
  exact q _ o H1 x2.s _ ((s.ext x2 s2).set ⟨p, rfl, by rw [← s1.len]; exact List.getElem?_concat_length⟩)
end
end Mo
set_option maxRecDepth 100000
set_option maxHeartbeats 1000000
/-! Mo: several names at once, some of them with cells of their own. -/
namespace Mo
open PySem PySem.Spec PyProof.Rows L2

section
variable {K : PySem.W.Frag} {g g' f w o ns : List Addr} {H H' : Hp} {p : Addr} {S S' : Store} {ρ : MEnv} {σ : L2.St}
theorem freshL {R : List Addr → Prop} (step : ∀ f p, H p = none → R f → R (f ++ [p])) : ∀ {ns : List Addr} {f : List Addr}, (∀ p ∈ ns, H p = none) → R f → R (f ++ ns)
  | [], f, _, h => by rw [List.append_nil]; exact h
  | p :: ns, f, hn, h => by
    have := freshL step (ns := ns) (f := f ++ [p]) (fun q hq => hn q (List.mem_cons_of_mem _ hq)) (step f p (hn p List.mem_cons_self) h)
    rw [List.append_assoc] at this
    exact this
theorem RelD.freshs {d : D} {v : V} (hn : ∀ p ∈ ns, H p = none) (h : RelD K g f H d v) : RelD K g (f ++ ns) H d v := freshL (R := fun f => RelD K g f H d v) (fun _ _ hp h => RelD.fresh hp d v h) hn h
theorem RelC.freshs {c : Cell} {a : Addr} (hn : ∀ p ∈ ns, H p = none) (h : RelC K g f H a c) : RelC K g (f ++ ns) H a c := freshL (R := fun f => RelC K g f H a c) (fun _ _ hp h => RelC.fresh hp h) hn h
/-- a place of its own that no name stands for as yet -/
theorem Sta.addO (s : Sta K g w o ρ S σ H) (x : Ext g H g' H') (hp : H p = none) (hn : p ∉ g') (hl : H' p ≠ none) (t : RelS K g' ((w ++ o) ++ [p]) H' S') : Sta K g' w (o ++ [p]) ρ S' σ H' := by
  have ea : w ++ (o ++ [p]) = (w ++ o) ++ [p] := (List.append_assoc w o [p]).symm
  have hpo : p ∉ w ++ o := s.noF hp
  refine ⟨s.len, fun j d h => ?_, fun j d h => ?_, s.inj, fun a ha => ?_, fun a ha => ?_, by rw [ea]; exact t⟩
  · obtain ⟨v, e1, r1⟩ := s.val j d h
    exact ⟨v, e1, by rw [ea]; exact RelD.ext x d v (RelD.fresh hp d v r1)⟩
  · obtain ⟨a, e1, m, r1⟩ := s.own j d h
    exact ⟨a, e1, List.mem_append_left _ m, by rw [ea]; exact (r1.fresh hp).ext x (s.out a m).1⟩
  · rcases List.mem_append.mp ha with m | m
    · exact ⟨x.out (s.out a m).1 (s.liv a (List.mem_append_right _ m)), (s.out a m).2⟩
    · rw [List.mem_singleton.mp m]
      exact ⟨hn, fun z => hpo (List.mem_append_left _ z)⟩
  · rw [ea] at ha
    rcases List.mem_append.mp ha with m | m
    · exact x.live a (s.liv a m)
    · rw [List.mem_singleton.mp m]
      exact hl
/-- what several names are to stand for: the own places are ns, in order -/
def RelSl (K : PySem.W.Frag) (g f : List Addr) (H : Hp) : List Slot → List V → List Addr → Prop
  | [], vs, ns => vs = [] ∧ ns = []
  | .val d :: r, vs, ns => ∃ v vr, vs = v :: vr ∧ RelD K g f H d v ∧ RelSl K g f H r vr ns
  | .own c :: r, vs, ns => ∃ a vr nr, vs = .ref a :: vr ∧ ns = a :: nr ∧ RelC K g f H a c ∧ RelSl K g f H r vr nr
abbrev MSl := MEnv → Store → R (List Slot)
def tSl (K : PySem.W.Frag) (m : MSl) : TA := fun σ H Q => ∃ g w o ρ S ss S', Sta K g w o ρ S σ H ∧ m ρ S = .ok ss S' ∧
  ∀ vs ns g' H', Ext g H g' H' → Sta K g' w (o ++ ns) ρ S' σ H' → (∀ p ∈ ns, H p = none) → ns.Nodup → RelSl K g' (w ++ (o ++ ns)) H' ss vs ns → Q vs H'
def SlM (X : Cx) (es : List Expr) (m : MSl) : Prop := PA X es (tSl X.K m)
def sNil : MSl := fun _ S => .ok [] S
def sVal (m : ME) (r : MSl) : MSl := fun ρ S => (m ρ S).bind fun d S1 => (r ρ S1).bind fun ss S2 => .ok (.val d :: ss) S2
def sOwnL (m : ML) (r : MSl) : MSl := fun ρ S => (m ρ S).bind fun l S1 => (r ρ S1).bind fun ss S2 => .ok (.own (.lst l) :: ss) S2
theorem back_none (x : Ext g H g' H') {q : Addr} (h : H' q = none) : H q = none := by
  cases e : H q with
  | none => rfl
  | some u => exact absurd h (x.live q (by rw [e]; simp))
end
section
variable {X : Cx} {e : Expr} {es : List Expr} {me : ME} {ml : ML} {r : MSl}
theorem slm_nil : SlM X [] sNil := PA.of pa_nil fun σ H Q ⟨g, w, o, ρ, S, ss, S', s, hm, q⟩ => by
  cases hm
  exact q [] [] g H .refl (by rw [List.append_nil]; exact s) (fun _ h => nomatch h) List.nodup_nil ⟨rfl, rfl⟩
theorem slm_val (ha : EM X e me) (hr : SlM X es r) (hs : starEach (e :: es) X.env = (false, eval e X.env) :: starEach es X.env := by rfl) : SlM X (e :: es) (sVal me r) := PA.of (pa_cons ha hr hs) fun σ H Q ⟨g, w, o, ρ, S, ss, S', s, hm, q⟩ => by
  obtain ⟨d, S1, h1, hm⟩ := R.bind_ok hm
  obtain ⟨dr, S2, h2, hm⟩ := R.bind_ok hm
  cases hm
  refine ⟨g, w, o, ρ, S, d, S1, s, h1, fun v g1 H1 x1 s1 r1 => ?_⟩
  refine ⟨g1, w, o, ρ, S1, dr, _, s.ext x1 s1, h2, fun vs ns g2 H2 x2 st2 hns nd rs => ?_⟩
  refine q (v :: vs) ns g2 H2 (x1.trans x2) st2 (fun p hp => back_none x1 (hns p hp)) nd ⟨v, vs, rfl, ?_, rs⟩
  rw [← List.append_assoc]
  exact RelD.ext x2 d v (RelD.freshs hns r1)
theorem slm_ownL (ha : NM X e ml) (hr : SlM X es r) (hs : starEach (e :: es) X.env = (false, eval e X.env) :: starEach es X.env := by rfl) : SlM X (e :: es) (sOwnL ml r) := PA.of (pa_cons ha hr hs) fun σ H Q ⟨g, w, o, ρ, S, ss, S', s, hm, q⟩ => by
  obtain ⟨l, S1, h1, hm⟩ := R.bind_ok hm
  obtain ⟨dr, S2, h2, hm⟩ := R.bind_ok hm
  cases hm
  refine ⟨g, w, o, ρ, S, l, S1, s, h1, fun p us g1 H1 x1 hp n1 e1 s1 r1 => ?_⟩
  have st1 := s.addO x1 hp n1 (by rw [e1]; simp) s1
  refine ⟨g1, w, o ++ [p], ρ, S1, dr, _, st1, h2, fun vs ns g2 H2 x2 st2 hns nd rs => ?_⟩
  have ea : (o ++ [p]) ++ ns = o ++ (p :: ns) := by rw [List.append_assoc]; rfl
  have ew : w ++ (o ++ (p :: ns)) = ((w ++ o) ++ [p]) ++ ns := by simp [List.append_assoc]
  rw [ea] at st2 rs
  refine q (.ref p :: vs) (p :: ns) g2 H2 (x1.trans x2) st2 (fun b hb => ?_) (List.nodup_cons.mpr ⟨fun m => ?_, nd⟩) ⟨p, vs, ns, rfl, rfl, ?_, rs⟩
  · rcases List.mem_cons.mp hb with e | hb
    · rw [e]; exact hp
    · exact back_none x1 (hns b hb)
  · have := hns p m
    rw [e1] at this
    cases this
  · rw [ew]
    exact (RelC.freshs hns (c := .lst l) ⟨us, e1, r1⟩).ext x2 n1
/-- names that take them -/
def setSl (ρ : MEnv) : List (Nat × Slot) → MEnv
  | [] => ρ
  | (i, s) :: r => setSl (ρ.set i (some s)) r
theorem Sta.setO {K : PySem.W.Frag} {g w o : List Addr} {ρ : MEnv} {S : Store} {σ : L2.St} {H : Hp} {i : Nat} {a : Addr} {c : Cell} (s : Sta K g w o ρ S σ H) (ha : a ∈ o) (hno : ∀ (j : Nat) (c : Cell), ρ[j]? = some (some (Slot.own c)) → σ[j]? ≠ some (some (V.ref a)))
    (r : RelC K g (w ++ o) H a c) : Sta K g w o (ρ.set i (some (.own c))) S (σ.set i (some (.ref a))) H := by
  have lt_of : ∀ {u : Slot} {d : Option Slot}, (ρ.set i (some u))[i]? = some d → i < ρ.length := fun {u d} h => by have := lt_of_get h; simpa using this
  refine ⟨by rw [List.length_set, List.length_set]; exact s.len, fun j d h => ?_, fun j d h => ?_, fun j k d e b h1 h2 h3 h4 => ?_, s.out, s.liv, s.sto⟩
  · by_cases hj : i = j
    · subst hj
      rw [List.getElem?_set_self (lt_of h)] at h
      cases h
    · rw [List.getElem?_set_ne hj] at h ⊢
      exact s.val j d h
  · by_cases hj : i = j
    · subst hj
      have hl := lt_of h
      rw [List.getElem?_set_self hl] at h
      cases h
      exact ⟨a, List.getElem?_set_self (by rw [← s.len]; exact hl), ha, r⟩
    · rw [List.getElem?_set_ne hj] at h ⊢
      exact s.own j d h
  · by_cases hj : i = j
    · subst hj
      have hl := lt_of h1
      rw [List.getElem?_set_self (by rw [← s.len]; exact hl)] at h3
      cases h3
      by_cases hk : i = k
      · exact hk
      · rw [List.getElem?_set_ne hk] at h2 h4
        exact absurd h4 (hno k e h2)
    · rw [List.getElem?_set_ne hj] at h1 h3
      by_cases hk : i = k
      · subst hk
        have hl := lt_of h2
        rw [List.getElem?_set_self (by rw [← s.len]; exact hl)] at h4
        cases h4
        exact absurd h3 (hno j d h1)
      · rw [List.getElem?_set_ne hk] at h2 h4
        exact s.inj j k d e b h1 h2 h3 h4
theorem Sta.setSl {K : PySem.W.Frag} {g w o : List Addr} {S : Store} {H : Hp} : ∀ (is : List Nat) (ss : List Slot) (vs : List V) (ns : List Addr) (ρ : MEnv) (σ : L2.St), Sta K g w o ρ S σ H → (∀ p ∈ ns, p ∈ o) → ns.Nodup →
    (∀ p ∈ ns, ∀ (j : Nat) (c : Cell), ρ[j]? = some (some (Slot.own c)) → σ[j]? ≠ some (some (V.ref p))) → RelSl K g (w ++ o) H ss vs ns → is.length = ss.length → Sta K g w o (Mo.setSl ρ (is.zip ss)) S (setV σ (is.zip vs)) H
  | [], [], _, _, _, _, s, _, _, _, ⟨e, _⟩, _ => by subst e; exact s
  | i :: is, .val d :: ss, _, ns, ρ, σ, s, h1, h2, h3, ⟨v, vr, e, r, t⟩, hl => by
    subst e
    refine Sta.setSl is ss vr ns (ρ.set i (some (.val d))) (σ.set i (some v)) (s.set r) h1 h2 (fun p hp j c hj => ?_) t (by simpa using hl)
    by_cases hi : i = j
    · subst hi
      have hl : i < ρ.length := by have := lt_of_get hj; simpa using this
      rw [List.getElem?_set_self hl] at hj
      cases hj
    · rw [List.getElem?_set_ne hi] at hj ⊢
      exact h3 p hp j c hj
  | i :: is, .own c :: ss, _, _, ρ, σ, s, h1, h2, h3, ⟨a, vr, nr, e, en, r, t⟩, hl => by
    subst e; subst en
    obtain ⟨n1, n2⟩ := List.nodup_cons.mp h2
    refine Sta.setSl is ss vr nr (ρ.set i (some (.own c))) (σ.set i (some (.ref a))) (s.setO (h1 a List.mem_cons_self) (fun j d hj => h3 a List.mem_cons_self j d hj) r) (fun p hp => h1 p (List.mem_cons_of_mem _ hp)) n2 (fun p hp j d hj => ?_) t (by simpa using hl)
    by_cases hi : i = j
    · subst hi
      have hl : i < ρ.length := by have := lt_of_get hj; simpa using this
      rw [List.getElem?_set_self (by rw [← s.len]; exact hl)]
      intro z
      cases z
      exact n1 hp
    · rw [List.getElem?_set_ne hi] at hj ⊢
      exact h3 p (List.mem_cons_of_mem _ hp) j d hj
  | [], _ :: _, _, _, _, _, _, _, _, _, _, hl => by simp at hl
  | _ :: _, [], _, _, _, _, _, _, _, _, _, hl => by simp at hl
/-- a, b = e, f -/
def mPar (is : List Nat) (m : MSl) : MS := fun ρ S => (m ρ S).bind fun ss S1 => if is.length = ss.length then .ok (.nx (setSl ρ (is.zip ss))) S1 else .bad
theorem par_of {is : List Nat} {m : MSl} {E : Ends} {σ : L2.St} {H : Hp} (q : tS X.K (mPar is m) E σ H) : tSl X.K m σ H fun vs H1 => vs.length = is.length ∧ E.nx (setV σ (is.zip vs)) H1 := by
  obtain ⟨g, w, o, ρ, S, fl, S', s, hm, q⟩ := q
  obtain ⟨ss, S1, h1, hm⟩ := R.bind_ok hm
  split at hm
  · rename_i hl
    cases hm
    refine ⟨g, w, o, ρ, S, ss, _, s, h1, fun vs ns g1 H1 x1 st hns nd rs => ⟨?_, q g1 (o ++ ns) H1 ?_ _ ?_⟩⟩
    · have len : ∀ (ss : List Slot) (vs : List V) (ns : List Addr), RelSl X.K g1 (w ++ (o ++ ns)) H1 ss vs ns → True := fun _ _ _ _ => trivial
      have go : ∀ {f : List Addr} (ss : List Slot) (vs : List V) (ns : List Addr), RelSl X.K g1 f H1 ss vs ns → vs.length = ss.length := by
        intro f ss
        induction ss with
        | nil => intro vs ns h; rw [h.1]; rfl
        | cons c ss ih =>
          intro vs ns h
          cases c with
          | val d => obtain ⟨v, vr, e, _, t⟩ := h; rw [e, List.length_cons, List.length_cons, ih _ _ t]
          | own c => obtain ⟨a, vr, nr, e, _, _, t⟩ := h; rw [e, List.length_cons, List.length_cons, ih _ _ t]
      rw [hl]
      exact go ss vs ns rs
    · refine ⟨x1.more, fun a u h n _ => x1.keep a u h n, x1.live, x1.tups, x1.frz, fun a h => ?_⟩
      rcases List.mem_append.mp h with m | m
      · exact .inl m
      · exact .inr (hns a m)
    · refine Sta.setSl is ss vs ns ρ σ st (fun p hp => List.mem_append_right _ hp) nd (fun p hp j c hj e => ?_) rs hl
      obtain ⟨a, e1, m, _⟩ := s.own j c hj
      rw [e] at e1; cases e1
      exact s.liv p (List.mem_append_right _ m) (hns p hp)
  · cases hm
theorem sm_par2 {st : Stmt} {i j : Nat} {m : MSl} (h : PS X st (tPar i j (tSl X.K m))) : SM X st (mPar [i, j] m) := PS.of h fun E σ H q => by
  have q := par_of q
  obtain ⟨g, w, o, ρ, S, ss, S', s, hm, q⟩ := q
  refine ⟨g, w, o, ρ, S, ss, S', s, hm, fun vs ns g1 H1 x1 st1 hns nd rs => ?_⟩
  obtain ⟨hl, q⟩ := q vs ns g1 H1 x1 st1 hns nd rs
  match vs, hl, q with
  | [a, b], _, q => exact ⟨a, b, rfl, q⟩
theorem sm_par3 {st : Stmt} {i j k : Nat} {m : MSl} (h : PS X st (tPar3 i j k (tSl X.K m))) : SM X st (mPar [i, j, k] m) := PS.of h fun E σ H q => by
  have q := par_of q
  obtain ⟨g, w, o, ρ, S, ss, S', s, hm, q⟩ := q
  refine ⟨g, w, o, ρ, S, ss, S', s, hm, fun vs ns g1 H1 x1 st1 hns nd rs => ?_⟩
  obtain ⟨hl, q⟩ := q vs ns g1 H1 x1 st1 hns nd rs
  match vs, hl, q with
  | [a, b, c], _, q => exact ⟨a, b, c, rfl, q⟩
end
end Mo
set_option maxRecDepth 100000
set_option maxHeartbeats 1000000
/-! Mo: what operators, subscripts, built-ins do with data. -/
namespace Mo
open PySem PySem.Spec PyProof.Rows L2

/-! ### data as a whole -/
mutual
def toP : D → Option PyData
  | .non => some .none
  | .bl b => some (.bool b)
  | .int i => some (.int i)
  | .str x => some (.str x)
  | .tup l => (toPs l).map .tuple
  | .lst l => (toPs l).map .list
  | .loc _ => none
  | .raw _ => none
  | .scr _ => none
def toPs : List D → Option (List PyData)
  | [] => some []
  | d :: ds => match toP d, toPs ds with
    | some p, some ps => some (p :: ps)
    | _, _ => none
end
section
variable {K : PySem.W.Frag} {g f : List Addr} {H : Hp}
mutual
theorem RelD.dp : ∀ (d : D) (v : V) (p : PyData), RelD K g f H d v → toP d = some p → Dp K H v p
  | .non, _, _, h, e => by unfold toP at e; cases e; cases h; exact .non
  | .bl b, _, _, h, e => by unfold toP at e; cases e; cases h; exact .bl b
  | .int i, _, _, h, e => by unfold toP at e; cases e; cases h; exact .int i
  | .str x, _, _, h, e => by unfold toP at e; cases e; cases h; exact .str x
  | .tup l, _, _, ⟨a, vs, ev, q, r⟩, e => by
    unfold toP at e
    cases hp : toPs l with
    | none => rw [hp] at e; cases e
    | some ps => rw [hp] at e; cases e; subst ev; exact .tup q (RelDs.dp l vs ps r hp)
  | .lst l, _, _, ⟨a, vs, ev, q, r⟩, e => by
    unfold toP at e
    cases hp : toPs l with
    | none => rw [hp] at e; cases e
    | some ps => rw [hp] at e; cases e; subst ev; exact .lst q.sq (RelDs.dp l vs ps r hp)
  | .loc n, _, _, _, e => by unfold toP at e; cases e
  | .raw n, _, _, _, e => by unfold toP at e; cases e
  | .scr n, _, _, _, e => by unfold toP at e; cases e
theorem RelDs.dp : ∀ (l : List D) (vs : List V) (ps : List PyData), RelDs K g f H l vs → toPs l = some ps → DpAll K H vs ps
  | [], _, _, h, e => by unfold toPs at e; cases e; cases h; exact .nil
  | d :: ds, _, _, ⟨v, r, ev, q, t⟩, e => by
    unfold toPs at e
    split at e
    · rename_i p ps hp hps
      cases e
      subst ev
      exact .cons (RelD.dp d v p q hp) (RelDs.dp ds r ps t hps)
    · cases e
end
/-- a plain answer: nothing is made -/
theorem FinE.same {d : D} {v : V} {S : Store} {Q : VK} (q : FinE K g f H d S Q) (s : RelS K g f H S) (r : RelD K g f H d v) : Q v H := q v g H .refl s r

/-! ### numbers -/
/-- two numbers in, under c, a value out -/
def gI (c : Int → Int → Prop) [∀ i j, Decidable (c i j)] (h : Int → Int → D) : G2 := fun x y S => match x, y with
  | .int i, .int j => if c i j then .ok (h i j) S else .bad
  | _, _ => .bad
theorem od_I {c C : Int → Int → Prop} [∀ i j, Decidable (c i j)] {h : Int → Int → D} {hv : Int → Int → V} (hc : ∀ i j, c i j → C i j) (hh : ∀ K g f H i j, RelD K g f H (h i j) (hv i j)) : OpD K (rI C hv) (gI c h) := by
  intro g f H S dx dy d S' x y Q s rx ry hm q
  unfold gI at hm
  split at hm
  · rename_i i j
    split at hm
    · rename_i hcc
      cases hm
      exact ⟨i, j, rx, ry, hc i j hcc, q.same s (hh _ _ _ _ _ _)⟩
    · cases hm
  · cases hm
def gI0 (h : Int → Int → D) : G2 := fun x y S => match x, y with
  | .int i, .int j => .ok (h i j) S
  | _, _ => .bad
theorem od_I0 {h : Int → Int → D} {hv : Int → Int → V} (hh : ∀ K g f H i j, RelD K g f H (h i j) (hv i j)) : OpD K (rI0 hv) (gI0 h) := by
  intro g f H S dx dy d S' x y Q s rx ry hm q
  unfold gI0 at hm
  split at hm
  · rename_i i j
    cases hm
    exact ⟨i, j, rx, ry, q.same s (hh _ _ _ _ _ _)⟩
  · cases hm
def gOr (h h' : G2) : G2 := fun x y S => match h x y S with
  | .ok d S' => .ok d S'
  | .bad => h' x y S
theorem OpD.or {r r' : R2} {h h' : G2} (a : OpD K r h) (b : OpD K r' h') : OpD K (fun x y H Q => r x y H Q ∨ r' x y H Q) (gOr h h') := by
  intro g f H S dx dy d S' x y Q s rx ry hm q
  unfold gOr at hm
  split at hm
  · rename_i e
    cases hm
    exact .inl (a g f H S dx dy _ _ x y Q s rx ry e q)
  · exact .inr (b g f H S dx dy d S' x y Q s rx ry hm q)
abbrev gAddI : G2 := gI0 fun i j => .int (i + j)
abbrev gSubI : G2 := gI0 fun i j => .int (i - j)
def cMul (i j : Int) : Prop := i.natAbs.log2 + j.natAbs.log2 < 1000000
def cDiv (_ j : Int) : Prop := 0 < j ∧ j.natAbs.log2 < 9000
def cMod (_ j : Int) : Prop := 0 < j
def cPow (i j : Int) : Prop := 0 ≤ j ∧ j ≤ 1000000 ∧ i.natAbs < 2 ^ 64
instance : ∀ i j, Decidable (cMul i j) := fun _ _ => by unfold cMul; infer_instance
instance : ∀ i j, Decidable (cDiv i j) := fun _ _ => by unfold cDiv; infer_instance
instance : ∀ i j, Decidable (cMod i j) := fun _ _ => by unfold cMod; infer_instance
instance : ∀ i j, Decidable (cPow i j) := fun _ _ => by unfold cPow; infer_instance
abbrev gMulI : G2 := gI cMul fun i j => .int (i * j)
abbrev gDivI : G2 := gI cDiv fun i j => .int (i / j)
abbrev gModI : G2 := gI cMod fun i j => .int (i % j)
abbrev gPowI : G2 := gI cPow fun i j => .int (i ^ j.toNat)
theorem od_add : OpD K (rI0 fun i j => .int (i + j)) gAddI := od_I0 fun _ _ _ _ _ _ => rfl
theorem od_sub : OpD K (rI0 fun i j => .int (i - j)) gSubI := od_I0 fun _ _ _ _ _ _ => rfl
theorem od_mul : OpD K (rI CMulW fun i j => .int (i * j)) gMulI := od_I (fun _ _ h => h) fun _ _ _ _ _ _ => rfl
theorem od_div : OpD K (rI CDivW fun i j => .int (i / j)) gDivI := od_I (fun _ _ h => h) fun _ _ _ _ _ _ => rfl
theorem od_mod : OpD K (rI (fun _ j => 0 < j) fun i j => .int (i % j)) gModI := od_I (fun _ _ h => h) fun _ _ _ _ _ _ => rfl
theorem od_pow : OpD K (rI CPow fun i j => .int (i ^ j.toNat)) gPowI := od_I (fun _ _ h => h) fun _ _ _ _ _ _ => rfl
abbrev gLt : G2 := gI0 fun i j => .bl (decide (i < j))
abbrev gLe : G2 := gI0 fun i j => .bl (decide (i ≤ j))
abbrev gGt : G2 := gI0 fun i j => .bl (decide (j < i))
abbrev gGe : G2 := gI0 fun i j => .bl (decide (j ≤ i))
theorem od_lt : OpD K (rI0 fun i j => .bl (decide (i < j))) gLt := od_I0 fun _ _ _ _ _ _ => rfl
theorem od_le : OpD K (rI0 fun i j => .bl (decide (i ≤ j))) gLe := od_I0 fun _ _ _ _ _ _ => rfl
theorem od_gt : OpD K (rI0 fun i j => .bl (decide (j < i))) gGt := od_I0 fun _ _ _ _ _ _ => rfl
theorem od_ge : OpD K (rI0 fun i j => .bl (decide (j ≤ i))) gGe := od_I0 fun _ _ _ _ _ _ => rfl
/-- == and != of data -/
def eqD (x y : D) : Option Bool := match toP x, toP y with
  | some p, some q => if SeqAt.shaped p = true ∧ SeqAt.shaped q = true then some (PyData.eqv p q) else none
  | _, _ => none
def gEq : G2 := fun x y S => match eqD x y with
  | some b => .ok (.bl b) S
  | none => .bad
def gNe : G2 := fun x y S => match eqD x y with
  | some b => .ok (.bl (!b)) S
  | none => .bad
theorem eqD_of {x y : D} {b : Bool} (h : eqD x y = some b) : ∃ p q, toP x = some p ∧ toP y = some q ∧ SeqAt.shaped p = true ∧ SeqAt.shaped q = true ∧ b = PyData.eqv p q := by
  unfold eqD at h
  split at h
  · rename_i p q hp hq
    split at h
    · rename_i hs
      cases h
      exact ⟨p, q, hp, hq, hs.1, hs.2, rfl⟩
    · cases h
  · cases h
theorem od_eq : OpD K (rEqD K) gEq := by
  intro g f H S dx dy d S' x y Q s rx ry hm q
  unfold gEq at hm
  split at hm
  · rename_i b hb
    cases hm
    obtain ⟨p, p', h1, h2, h3, h4, rfl⟩ := eqD_of hb
    exact ⟨p, p', RelD.dp _ _ _ rx h1, RelD.dp _ _ _ ry h2, h3, h4, q.same s rfl⟩
  · cases hm
theorem od_ne : OpD K (rNeD K) gNe := by
  intro g f H S dx dy d S' x y Q s rx ry hm q
  unfold gNe at hm
  split at hm
  · rename_i b hb
    cases hm
    obtain ⟨p, p', h1, h2, h3, h4, rfl⟩ := eqD_of hb
    exact ⟨p, p', RelD.dp _ _ _ rx h1, RelD.dp _ _ _ ry h2, h3, h4, q.same s rfl⟩
  · cases hm
/-- is None, is not None -/
def isNon : D → Bool
  | .non => true
  | _ => false
theorem RelD.non_iff {d : D} {v : V} (r : RelD K g f H d v) (hr : ∀ u, d ≠ .raw u) : decide (v = .non) = isNon d := by
  cases d with
  | non => cases r; rfl
  | bl _ => cases r; rfl
  | int _ => cases r; rfl
  | str _ => cases r; rfl
  | tup l => obtain ⟨a, vs, e, _⟩ := r; subst e; rfl
  | lst l => obtain ⟨a, vs, e, _⟩ := r; subst e; rfl
  | loc n => obtain ⟨a, e, _⟩ := r; subst e; rfl
  | raw u => exact absurd rfl (hr u)
  | scr l => obtain ⟨a, e, _⟩ := r; subst e; rfl
def notRaw : D → Bool
  | .raw _ => false
  | _ => true
theorem notRaw_of {d : D} (h : notRaw d = true) : ∀ u, d ≠ .raw u := fun u e => by subst e; cases h
def gIsN : G2 := fun x y S => match y with
  | .non => if notRaw x = true then .ok (.bl (isNon x)) S else .bad
  | _ => .bad
def gNotN : G2 := fun x y S => match y with
  | .non => if notRaw x = true then .ok (.bl (!isNon x)) S else .bad
  | _ => .bad
theorem od_isN : OpD K (fun x y H Q => y = .non ∧ Q (.bl (decide (x = .non))) H) gIsN := by
  intro g f H S dx dy d S' x y Q s rx ry hm q
  unfold gIsN at hm
  split at hm
  · split at hm
    · rename_i hr
      cases hm
      refine ⟨ry, ?_⟩
      rw [rx.non_iff (notRaw_of hr)]
      exact q.same s rfl
    · cases hm
  · cases hm
theorem od_notN : OpD K (fun x y H Q => y = .non ∧ Q (.bl (!decide (x = .non))) H) gNotN := by
  intro g f H S dx dy d S' x y Q s rx ry hm q
  unfold gNotN at hm
  split at hm
  · split at hm
    · rename_i hr
      cases hm
      refine ⟨ry, ?_⟩
      rw [rx.non_iff (notRaw_of hr)]
      exact q.same s rfl
    · cases hm
  · cases hm

/-! ### subscripts -/
theorem RelDs.atI {l : List D} {vs : List V} {i : Int} {d : D} (r : RelDs K g f H l vs) (h : L2.atI l i = some d) : ∃ v, L2.atI vs i = some v ∧ RelD K g f H d v := by
  unfold L2.atI at h ⊢
  rw [← r.length]
  cases e : L2.ixN l.length i with
  | none => rw [e] at h; cases h
  | some j =>
    rw [e] at h
    exact RelDs.get r (show l[j]? = some d from h)
def gIx : G2 := fun x y S => match x, y with
  | .tup l, .int i => match atI l i with
    | some d => .ok d S
    | none => .bad
  | .lst l, .int i => match atI l i with
    | some d => .ok d S
    | none => .bad
  | .scr l, .int i => match atI l i with
    | some k => .ok (.int k) S
    | none => .bad
  | .loc n, .int i => match S[n]? with
    | some (.lst l) => match atI l i with
      | some d => .ok d S
      | none => .bad
    | _ => .bad
  | _, _ => .bad
theorem atI_map {α β : Type} (h : α → β) (l : List α) (i : Int) : atI (l.map h) i = (atI l i).map h := by
  unfold atI
  rw [List.length_map]
  cases ixN l.length i with
  | none => rfl
  | some j => show (l.map h)[j]? = _; rw [List.getElem?_map]; rfl
theorem od_ix : OpD K (rIx K) gIx := by
  intro g f H S dx dy d S' x y Q s rx ry hm q
  unfold gIx at hm
  split at hm
  · rename_i l i
    obtain ⟨a, vs, e, hq, r⟩ := rx
    split at hm
    · rename_i d' hd
      cases hm
      obtain ⟨v, hv, rv⟩ := r.atI hd
      exact .inr (.inl ⟨a, vs, i, v, e, ry, hq, hv, q.same s rv⟩)
    · cases hm
  · rename_i l i
    obtain ⟨a, vs, e, hq, r⟩ := rx
    split at hm
    · rename_i d' hd
      cases hm
      obtain ⟨v, hv, rv⟩ := r.atI hd
      exact .inl ⟨a, vs, i, v, e, ry, hq.sq, hv, q.same s rv⟩
    · cases hm
  · rename_i l i
    obtain ⟨a, e, hq⟩ := rx
    split at hm
    · rename_i k hk
      cases hm
      exact .inl ⟨a, _, i, .int k, e, ry, hq.sq, by rw [atI_map, hk]; rfl, q.same s rfl⟩
    · cases hm
  · rename_i n i
    obtain ⟨a, e, hq⟩ := rx
    split at hm
    · rename_i l hl
      split at hm
      · rename_i d' hd
        cases hm
        obtain ⟨vs, hH, r⟩ := s.cel n _ a hl hq
        obtain ⟨v, hv, rv⟩ := r.atI hd
        exact .inl ⟨a, vs, i, v, e, ry, .of hH, hv, q.same s rv⟩
      · cases hm
    · cases hm
  · cases hm
end

/-! ### lists that are read at once -/
/-- e is a list: whose, is not told -/
def FinQ (K : PySem.W.Frag) (g f : List Addr) (H : Hp) (l : List D) (S' : Store) (Q : VK) : Prop :=
  ∀ a vs g' H', Ext g H g' H' → RelS K g' f H' S' → SqL K H' a vs → RelDs K g' f H' l vs → Q (.ref a) H'
def tQ (K : PySem.W.Frag) (m : ML) : TE := fun σ H Q => ∃ g w o ρ S l S', Sta K g w o ρ S σ H ∧ m ρ S = .ok l S' ∧ FinQ K g (w ++ o) H l S' Q
def QM (X : Cx) (e : Expr) (m : ML) : Prop := PE X e (tQ X.K m)
section
variable {X : Cx} {e a b : Expr} {me mi : ME} {ml : ML} {pos p : Pos} {x : Str}
theorem qm_val (h : EM X e me) : QM X e (iLst me) := PE.of h fun σ H Q ⟨g, w, o, ρ, S, l, S', s, hm, q⟩ => by
  obtain ⟨d, S1, h1, h2⟩ := R.bind_ok hm
  obtain ⟨rfl, rfl⟩ := seqD_ok h2
  exact ⟨g, w, o, ρ, S, _, _, s, h1, fun v g1 H1 x1 s1 ⟨a, vs, ev, hr, r⟩ => by subst ev; exact q a vs g1 H1 x1 s1 hr.sq r⟩
theorem qm_new (h : NM X e ml) : QM X e ml := PE.of h fun σ H Q ⟨g, w, o, ρ, S, l, S', s, hm, q⟩ =>
  ⟨g, w, o, ρ, S, l, S', s, hm, fun p vs g1 H1 x1 hp n1 e1 s1 r1 => q p vs g1 H1 x1 (s1.less sub_app) (.of e1) (RelDs.less sub_app _ _ r1)⟩
/-- a name's own list -/
def qOwn (i : Nat) : ML := fun ρ S => match ρ[i]? with
  | some (some (.own (.lst l))) => .ok l S
  | _ => .bad
theorem qm_own {i : Nat} (h : PE X e (tVar i)) : QM X e (qOwn i) := PE.of h fun σ H Q ⟨g, w, o, ρ, S, l, S', s, hm, q⟩ => by
  unfold qOwn at hm
  split at hm
  · rename_i l' e'
    cases hm
    obtain ⟨a, e1, m, vs, hH, r⟩ := s.own i _ e'
    exact ⟨_, e1, q a vs g H .refl s.sto (.of hH) r⟩
  · cases hm
def locD : D → Store → R (List D)
  | .loc n, S => match S[n]? with
    | some (.lst l) => .ok l S
    | _ => .bad
  | _, _ => .bad
def iLoc (m : ME) : ML := fun ρ S => (m ρ S).bind locD
theorem locD_ok : ∀ {d : D} {S S' : Store} {l : List D}, locD d S = .ok l S' → ∃ n, d = .loc n ∧ S[n]? = some (.lst l) ∧ S' = S
  | .loc n, S, S', l, h => by
    dsimp only [locD] at h
    cases e : S[n]? with
    | none => rw [e] at h; cases h
    | some c =>
      rw [e] at h
      cases c with
      | lst l' => cases h; exact ⟨n, rfl, e, rfl⟩
      | dK _ => cases h
      | dT _ => cases h
      | dF _ => cases h
  | .non, _, _, _, h | .bl _, _, _, _, h | .int _, _, _, _, h | .str _, _, _, _, h | .tup _, _, _, _, h | .lst _, _, _, _, h | .raw _, _, _, _, h | .scr _, _, _, _, h => by cases h
theorem qm_loc (h : EM X e me) : QM X e (iLoc me) := PE.of h fun σ H Q ⟨g, w, o, ρ, S, l, S', s, hm, q⟩ => by
  obtain ⟨d, S1, h1, h2⟩ := R.bind_ok hm
  obtain ⟨n, rfl, hn, rfl⟩ := locD_ok h2
  exact ⟨g, w, o, ρ, S, _, _, s, h1, fun v g1 H1 x1 s1 ⟨a, ev, hg⟩ => by
    subst ev
    obtain ⟨vs, hH, r⟩ := s1.cel n _ a hn hg
    exact q a vs g1 H1 x1 s1 (.of hH) r⟩
def scrD : D → Store → R (List D)
  | .scr l, S => .ok (l.map .int) S
  | _, _ => .bad
def iScr (m : ME) : ML := fun ρ S => (m ρ S).bind scrD
theorem rel_ints {K : PySem.W.Frag} {g f : List Addr} {H : Hp} : ∀ l : List Int, RelDs K g f H (l.map .int) (l.map V.int)
  | [] => rfl
  | k :: l => ⟨.int k, _, rfl, rfl, rel_ints l⟩
theorem qm_scr (h : EM X e me) : QM X e (iScr me) := PE.of h fun σ H Q ⟨g, w, o, ρ, S, l, S', s, hm, q⟩ => by
  obtain ⟨d, S1, h1, h2⟩ := R.bind_ok hm
  cases d <;> first | cases h2; done | skip
  cases h2
  exact ⟨g, w, o, ρ, S, _, _, s, h1, fun v g1 H1 x1 s1 ⟨a, ev, hr⟩ => by subst ev; exact q a _ g1 H1 x1 s1 hr.sq (rel_ints _)⟩

/-! ### built-ins of one argument -/
/-- f(e), what e is being judged by t -/
def B1 (X : Cx) (e : Expr) (t : TE) : Prop := PA X [e] (tCons t tNil)
theorem b1 {t : TE} (h : PE X e t) (hs : starEach [e] X.env = (false, eval e X.env) :: starEach [] X.env := by rfl) : B1 X e t := pa_cons h pa_nil hs
/-- from a list to a value -/
def mQ (h : List D → Store → R D) (m : ML) : ME := fun ρ S => (m ρ S).bind h
theorem q_of {r : List V → Hp → VK → Prop} {h : List D → Store → R D} {σ : L2.St} {H : Hp} {Q : VK}
    (hr : ∀ g f H (S : Store) l d S' a vs Q, RelS X.K g f H S → SqL X.K H a vs → RelDs X.K g f H l vs → h l S = .ok d S' → FinE X.K g f H d S' Q → r [.ref a] H Q)
    (q : tE X.K (mQ h ml) σ H Q) : tCB r (tCons (tQ X.K ml) tNil) σ H Q := by
  obtain ⟨g, w, o, ρ, S, d, S', s, hm, q⟩ := q
  obtain ⟨l, S1, h1, hm⟩ := R.bind_ok hm
  exact ⟨g, w, o, ρ, S, l, S1, s, h1, fun a vs g1 H1 x1 s1 hq r1 => hr g1 (w ++ o) H1 S1 l d S' a vs Q s1 hq r1 hm fun v g2 H2 x2 s2 r2 => q v g2 H2 (x1.trans x2) s2 r2⟩
def hLen (l : List D) (S : Store) : R D := .ok (.int l.length) S
theorem em_len (h : QM X e ml) (hg : Gl X "len") (hm : X.mg "len" = none) (hs : starEach [e] X.env = (false, eval e X.env) :: starEach [] X.env := by rfl) (hpl : (backTo pos (starEach [] X.env)).any (·.1) = false := by rfl) : EM X (.Call (.Name "len" p) [e] [] pos) (mQ hLen ml) :=
  PE.of (pe_callB call_len_seq hg hm PySem.boot_len (b1 h hs) (by decide) (by decide) hs hpl) fun σ H Q q => q_of (fun g f H S l d S' a vs Q s hq r hm q => by
    cases hm
    exact ⟨a, vs, rfl, .inl hq, by rw [← r.length]; exact q.same s rfl⟩) q
def hTup (l : List D) (S : Store) : R D := .ok (.tup l) S
theorem em_tupleQ (h : QM X e ml) (hg : Gl X "tuple") (hm : X.mg "tuple" = none) (hb : bootBuiltins "tuple" = some (.type "tuple") := by decide +kernel) (hs : starEach [e] X.env = (false, eval e X.env) :: starEach [] X.env := by rfl) (hpl : (backTo pos (starEach [] X.env)).any (·.1) = false := by rfl) :
    EM X (.Call (.Name "tuple" p) [e] [] pos) (mQ hTup ml) :=
  PE.of (pe_callTy call_tuple_of hg hm hb (b1 h hs) (by decide) (by decide) hs hpl) fun σ H Q q => q_of (fun g f H S l d S' a vs Q s hq r hm q => by
    cases hm
    exact ⟨a, vs, rfl, .inl ⟨hq, fun t ht => q _ g _ (.new ht) (s.new ht) ⟨t, vs, rfl, .inl (.inl upd_same), RelDs.ext (.new ht) _ _ r⟩⟩⟩) q
/-- from a list to a new list -/
def mQL (h : List D → Store → R (List D)) (m : ML) : ML := fun ρ S => (m ρ S).bind h
theorem qn_of {r : List V → Hp → VK → Prop} {h : List D → Store → R (List D)} {σ : L2.St} {H : Hp} {Q : VK}
    (hr : ∀ g f H (S : Store) l d S' a vs Q, RelS X.K g f H S → SqL X.K H a vs → RelDs X.K g f H l vs → h l S = .ok d S' → FinN X.K g f H d S' Q → r [.ref a] H Q)
    (q : tN X.K (mQL h ml) σ H Q) : tCB r (tCons (tQ X.K ml) tNil) σ H Q := by
  obtain ⟨g, w, o, ρ, S, d, S', s, hm, q⟩ := q
  obtain ⟨l, S1, h1, hm⟩ := R.bind_ok hm
  exact ⟨g, w, o, ρ, S, l, S1, s, h1, fun a vs g1 H1 x1 s1 hq r1 => hr g1 (w ++ o) H1 S1 l d S' a vs Q s1 hq r1 hm fun p us g2 H2 x2 hp n2 e2 s2 r2 => q p us g2 H2 (x1.trans x2) (back_none x1 hp) n2 e2 s2 r2⟩
theorem FinN.put {K : PySem.W.Frag} {g f : List Addr} {H : Hp} {l : List D} {S : Store} {Q : VK} {vs : List V} (q : FinN K g f H l S Q) (s : RelS K g f H S) (r : RelDs K g f H l vs) : ∀ t, H t = none → Q (.ref t) (upd H t (.lst vs)) :=
  fun t ht => q t vs g _ (.new ht) ht (s.noG ht) upd_same ((s.fresh ht).new ht) (RelDs.ext (.new ht) _ _ (RelDs.fresh ht _ _ r))
def hList (l : List D) (S : Store) : R (List D) := .ok l S
theorem nm_listQ (h : QM X e ml) (hg : Gl X "list") (hm : X.mg "list" = none) (hb : bootBuiltins "list" = some (.type "list") := by decide +kernel) (hs : starEach [e] X.env = (false, eval e X.env) :: starEach [] X.env := by rfl) (hpl : (backTo pos (starEach [] X.env)).any (·.1) = false := by rfl) :
    NM X (.Call (.Name "list" p) [e] [] pos) (mQL hList ml) :=
  PE.of (pe_callTy call_list_of hg hm hb (b1 h hs) (by decide) (by decide) hs hpl) fun σ H Q q => qn_of (fun g f H S l d S' a vs Q s hq r hm q => by
    cases hm
    exact ⟨a, vs, rfl, .inl hq, q.put s r⟩) q
/-- all, any, sum of flat items -/
def blsD : List D → Option (List Bool)
  | [] => some []
  | .bl b :: r => (blsD r).map (b :: ·)
  | _ => none
def intsD : List D → Option (List Int)
  | [] => some []
  | .int b :: r => (intsD r).map (b :: ·)
  | _ => none
theorem blsD_rel {K : PySem.W.Frag} {g f : List Addr} {H : Hp} : ∀ {l : List D} {vs : List V} {bs : List Bool}, RelDs K g f H l vs → blsD l = some bs → vs = bs.map V.bl
  | [], _, _, h, e => by unfold blsD at e; cases e; cases h; rfl
  | d :: l, _, _, ⟨v, r, ev, q, t⟩, e => by
    cases d <;> unfold blsD at e <;> first | cases e; done | skip
    rename_i b
    cases hb : blsD l with
    | none => rw [hb] at e; cases e
    | some bs => rw [hb] at e; cases e; subst ev; cases q; rw [blsD_rel t hb]; rfl
theorem intsD_rel {K : PySem.W.Frag} {g f : List Addr} {H : Hp} : ∀ {l : List D} {vs : List V} {bs : List Int}, RelDs K g f H l vs → intsD l = some bs → vs = bs.map V.int
  | [], _, _, h, e => by unfold intsD at e; cases e; cases h; rfl
  | d :: l, _, _, ⟨v, r, ev, q, t⟩, e => by
    cases d <;> unfold intsD at e <;> first | cases e; done | skip
    rename_i b
    cases hb : intsD l with
    | none => rw [hb] at e; cases e
    | some bs => rw [hb] at e; cases e; subst ev; cases q; rw [intsD_rel t hb]; rfl
def hAll (l : List D) (S : Store) : R D := match blsD l with
  | some bs => .ok (.bl (bs.all id)) S
  | none => .bad
def hAny (l : List D) (S : Store) : R D := match blsD l with
  | some bs => .ok (.bl (bs.any id)) S
  | none => .bad
def hSum (l : List D) (S : Store) : R D := match intsD l with
  | some ns => .ok (.int ns.sum) S
  | none => .bad
theorem em_all (hc : X.calm = true) (h : QM X e ml) (hg : Gl X "all") (hm : X.mg "all" = none) (hb : bootBuiltins "all" = some (.builtin "all") := by decide +kernel) (hs : starEach [e] X.env = (false, eval e X.env) :: starEach [] X.env := by rfl) (hpl : (backTo pos (starEach [] X.env)).any (·.1) = false := by rfl) :
    EM X (.Call (.Name "all" p) [e] [] pos) (mQ hAll ml) :=
  PE.of (pe_callB (cr_all hc) hg hm hb (b1 h hs) (by decide) (by decide) hs hpl) fun σ H Q q => q_of (fun g f H S l d S' a vs Q s hq r hm q => by
    unfold hAll at hm
    split at hm
    · rename_i bs hbs
      cases hm
      have := blsD_rel r hbs
      subst this
      exact ⟨a, bs, rfl, hq, q.same s rfl⟩
    · cases hm) q
theorem em_any (hc : X.calm = true) (h : QM X e ml) (hg : Gl X "any") (hm : X.mg "any" = none) (hb : bootBuiltins "any" = some (.builtin "any") := by decide +kernel) (hs : starEach [e] X.env = (false, eval e X.env) :: starEach [] X.env := by rfl) (hpl : (backTo pos (starEach [] X.env)).any (·.1) = false := by rfl) :
    EM X (.Call (.Name "any" p) [e] [] pos) (mQ hAny ml) :=
  PE.of (pe_callB (cr_any hc) hg hm hb (b1 h hs) (by decide) (by decide) hs hpl) fun σ H Q q => q_of (fun g f H S l d S' a vs Q s hq r hm q => by
    unfold hAny at hm
    split at hm
    · rename_i bs hbs
      cases hm
      have := blsD_rel r hbs
      subst this
      exact ⟨a, bs, rfl, hq, q.same s rfl⟩
    · cases hm) q
theorem em_sum (hc : X.calm = true) (h : QM X e ml) (hg : Gl X "sum") (hm : X.mg "sum" = none) (hb : bootBuiltins "sum" = some (.builtin "sum") := by decide +kernel) (hs : starEach [e] X.env = (false, eval e X.env) :: starEach [] X.env := by rfl) (hpl : (backTo pos (starEach [] X.env)).any (·.1) = false := by rfl) :
    EM X (.Call (.Name "sum" p) [e] [] pos) (mQ hSum ml) :=
  PE.of (pe_callB (cr_sum hc) hg hm hb (b1 h hs) (by decide) (by decide) hs hpl) fun σ H Q q => q_of (fun g f H S l d S' a vs Q s hq r hm q => by
    unfold hSum at hm
    split at hm
    · rename_i bs hbs
      cases hm
      have := intsD_rel r hbs
      subst this
      exact ⟨a, bs, rfl, hq, q.same s rfl⟩
    · cases hm) q

/-! ### built-ins of values -/
def mB1 (h : D → Store → R D) (m : ME) : ME := fun ρ S => (m ρ S).bind h
def mA (h : List D → Store → R D) (m : MA) : ME := fun ρ S => (m ρ S).bind h
theorem a_of {r : List V → Hp → VK → Prop} {h : List D → Store → R D} {l : MA} {σ : L2.St} {H : Hp} {Q : VK}
    (hr : ∀ g f H (S : Store) l d S' vs Q, RelS X.K g f H S → RelDs X.K g f H l vs → h l S = .ok d S' → FinE X.K g f H d S' Q → r vs H Q)
    (q : tE X.K (mA h l) σ H Q) : tCB r (tA X.K l) σ H Q := by
  obtain ⟨g, w, o, ρ, S, d, S', s, hm, q⟩ := q
  obtain ⟨l, S1, h1, hm⟩ := R.bind_ok hm
  exact ⟨g, w, o, ρ, S, l, S1, s, h1, fun vs g1 H1 x1 s1 r1 => hr g1 (w ++ o) H1 S1 l d S' vs Q s1 r1 hm fun v g2 H2 x2 s2 r2 => q v g2 H2 (x1.trans x2) s2 r2⟩
def hAbs : List D → Store → R D
  | [.int i], S => .ok (.int (if i < 0 then -i else i)) S
  | _, _ => .bad
def hMax2 : List D → Store → R D
  | [.int i, .int j], S => .ok (.int (if j > i then j else i)) S
  | _, _ => .bad
def hMin2 : List D → Store → R D
  | [.int i, .int j], S => .ok (.int (if j < i then j else i)) S
  | _, _ => .bad
def hInt : List D → Store → R D
  | [.int i], S => .ok (.int i) S
  | [.bl k], S => .ok (.int (if k then 1 else 0)) S
  | _, _ => .bad
variable {l : MA} {es : List Expr}
theorem em_abs (h : AM X [e] l) (hg : Gl X "abs") (hm : X.mg "abs" = none) (hb : bootBuiltins "abs" = some (.builtin "abs") := by decide +kernel) (hs : starEach [e] X.env = (false, eval e X.env) :: starEach [] X.env := by rfl) (hpl : (backTo pos (starEach [] X.env)).any (·.1) = false := by rfl) :
    EM X (.Call (.Name "abs" p) [e] [] pos) (mA hAbs l) :=
  PE.of (pe_callB call_abs hg hm hb h (by decide) (by decide) hs hpl) fun σ H Q q => a_of (fun g f H S l d S' vs Q s r hm q => by
    unfold hAbs at hm
    split at hm
    · cases hm
      obtain ⟨v, t, ev, rv, rn⟩ := r
      cases rv; cases rn
      exact ⟨_, ev, q.same s rfl⟩
    · cases hm) q
theorem em_max2 (hc : X.calm = true) (h : AM X [a, b] l) (hg : Gl X "max") (hm : X.mg "max" = none) (hb : bootBuiltins "max" = some (.builtin "max") := by decide +kernel) (hs : starEach [a, b] X.env = (false, eval a X.env) :: starEach [b] X.env := by rfl) (hpl : (backTo pos (starEach [b] X.env)).any (·.1) = false := by rfl) :
    EM X (.Call (.Name "max" p) [a, b] [] pos) (mA hMax2 l) :=
  PE.of (pe_callB (call_max2 hc) hg hm hb h (by decide) (by decide) hs hpl) fun σ H Q q => a_of (fun g f H S l d S' vs Q s r hm q => by
    unfold hMax2 at hm
    split at hm
    · cases hm
      obtain ⟨v, t, ev, rv, v2, t2, ev2, rv2, rn⟩ := r
      cases rv; subst ev2; cases rv2; cases rn
      exact ⟨_, _, ev, q.same s rfl⟩
    · cases hm) q
theorem em_min2 (hc : X.calm = true) (h : AM X [a, b] l) (hg : Gl X "min") (hm : X.mg "min" = none) (hb : bootBuiltins "min" = some (.builtin "min") := by decide +kernel) (hs : starEach [a, b] X.env = (false, eval a X.env) :: starEach [b] X.env := by rfl) (hpl : (backTo pos (starEach [b] X.env)).any (·.1) = false := by rfl) :
    EM X (.Call (.Name "min" p) [a, b] [] pos) (mA hMin2 l) :=
  PE.of (pe_callB (call_min2 hc) hg hm hb h (by decide) (by decide) hs hpl) fun σ H Q q => a_of (fun g f H S l d S' vs Q s r hm q => by
    unfold hMin2 at hm
    split at hm
    · cases hm
      obtain ⟨v, t, ev, rv, v2, t2, ev2, rv2, rn⟩ := r
      cases rv; subst ev2; cases rv2; cases rn
      exact ⟨_, _, ev, q.same s rfl⟩
    · cases hm) q
theorem em_int1 (h : AM X [e] l) (hg : Gl X "int") (hm : X.mg "int" = none) (hb : bootBuiltins "int" = some (.type "int") := by decide +kernel) (hs : starEach [e] X.env = (false, eval e X.env) :: starEach [] X.env := by rfl) (hpl : (backTo pos (starEach [] X.env)).any (·.1) = false := by rfl) :
    EM X (.Call (.Name "int" p) [e] [] pos) (mA hInt l) :=
  PE.of (pe_callTy call_int1 hg hm hb h (by decide) (by decide) hs hpl) fun σ H Q q => a_of (fun g f H S l d S' vs Q s r hm q => by
    unfold hInt at hm
    split at hm
    · cases hm
      obtain ⟨v, t, ev, rv, rn⟩ := r
      cases rv; cases rn
      exact .inl ⟨_, ev, q.same s rfl⟩
    · cases hm
      obtain ⟨v, t, ev, rv, rn⟩ := r
      cases rv; cases rn
      exact .inr ⟨_, ev, q.same s rfl⟩
    · cases hm) q
/-- -a -/
def gNeg : D → Store → R D
  | .int i, S => .ok (.int (-i)) S
  | _, _ => .bad
theorem em_neg (h : EM X a me) : EM X (.UnaryOp .USub a pos) (mB1 gNeg me) := PE.of (pe_un un_neg h) fun σ H Q ⟨g, w, o, ρ, S, d, S', s, hm, q⟩ => by
  obtain ⟨d1, S1, h1, h2⟩ := R.bind_ok hm
  cases d1 <;> first | cases h2; done | skip
  cases h2
  exact ⟨g, w, o, ρ, S, _, _, s, h1, fun v g1 H1 x1 s1 r1 => ⟨_, r1, q _ g1 H1 x1 s1 rfl⟩⟩

/-! ### a list that changes -/
/-- x.append(e), x a name with a list of its own -/
def mApp (i : Nat) (m : ME) : MS := fun ρ S => (m ρ S).bind fun d S1 => match ρ[i]? with
  | some (some (.own (.lst l))) => if l.length < sizeLine then .ok (.nx (ρ.set i (some (.own (.lst (l ++ [d])))))) S1 else .bad
  | _ => .bad
theorem sm_append {o : Expr} {apos cpos spos : Pos} {i : Nat} (ho : PE X o (tVar i)) (ha : EM X e me) (hbase : attributeBase o "append" X.env (eval o X.env) = eval o X.env := by rfl)
    (hfew : ((backTo cpos (starEach [e] X.env)).all (fun x => !x.1) && (backToKw cpos (keywordEach [] X.env)).all (fun x => x.1.isSome) && decide ([e].length + ([] : List Keyword).length + (if ([] : List Keyword).isEmpty then 0 else 1) < 30)) = true := by rfl)
    (hline : (apos.endLine == cpos.line) = true := by rfl) (hs : starEach [e] X.env = (false, eval e X.env) :: starEach [] X.env := by rfl) (hplain : (backTo cpos (starEach [] X.env)).any (·.1) = false := by rfl)
    (hsw : swapsWith (.Call (.Attribute o "append" apos) [e] [] cpos) none spos.line X.env = pure false := by rfl) : SM X (.Expr (.Call (.Attribute o "append" apos) [e] [] cpos) spos) (mApp i me) :=
  PS.of (ps_expr (pe_bm PySem.F.plainAttrs_list PySem.F.slot_list_append PySem.F.type_list_append mt_append ho (pa_cons ha pa_nil hs) hbase hfew hline hs hplain) hsw) fun E σ H ⟨g, w, o, ρ, S, fl, S', s, hm, q⟩ => by
    obtain ⟨d, S1, h1, hm⟩ := R.bind_ok hm
    split at hm
    · rename_i l hl
      split at hm
      · rename_i hz
        cases hm
        obtain ⟨a, e1, m, vs, hH, r⟩ := s.own i _ hl
        refine ⟨_, e1, .inl ⟨rfl, vs, .of hH⟩, ?_⟩
        refine ⟨g, w, o, ρ, S, d, _, s, h1, fun v g1 H1 x1 s1 r1 => ?_⟩
        have st1 := s.ext x1 s1
        obtain ⟨a', e1', m', vs', hH', r'⟩ := st1.own i _ hl
        rw [e1] at e1'; cases e1'
        have mD : Mut (H1 a) := by rw [hH']; trivial
        have fD : a ∈ w ++ o := List.mem_append_right _ m
        refine ⟨a, vs', v, rfl, rfl, hH', by rw [← r'.length]; exact hz, q g1 o _ (x1.s.trans (.updO mD m)) _ (st1.updO hl e1 mD ?_)⟩
        exact ⟨vs' ++ [v], upd_same, RelDs.upd mD (.inl fD) _ _ (RelDs.append r' ⟨v, [], rfl, r1, rfl⟩)⟩
      · cases hm
    · cases hm
/-- x[i] = e, x a cell of the store -/
def putC (c k d : D) (S : Store) : Option Store := match c, k with
  | .loc n, .int j => match S[n]? with
    | some (.lst l) => (ixN l.length j).map fun m => S.set n (.lst (l.set m d))
    | _ => none
  | _, _ => none
theorem putC_ok : ∀ {c k d : D} {S S' : Store}, putC c k d S = some S' → ∃ n j l m, c = .loc n ∧ k = .int j ∧ S[n]? = some (.lst l) ∧ ixN l.length j = some m ∧ S' = S.set n (.lst (l.set m d))
  | .loc n, .int j, d, S, S', h => by
    dsimp only [putC] at h
    cases e : S[n]? with
    | none => rw [e] at h; cases h
    | some c =>
      rw [e] at h
      cases c with
      | lst l =>
        cases e2 : ixN l.length j with
        | none => have h : (ixN l.length j).map (fun m => S.set n (.lst (l.set m d))) = some S' := h; rw [e2] at h; cases h
        | some m => have h : (ixN l.length j).map (fun m => S.set n (.lst (l.set m d))) = some S' := h; rw [e2] at h; cases h; exact ⟨n, j, l, m, rfl, rfl, e, e2, rfl⟩
      | dK _ => cases h
      | dT _ => cases h
      | dF _ => cases h
  | .loc n, .non, _, _, _, h | .loc n, .bl _, _, _, _, h | .loc n, .str _, _, _, _, h | .loc n, .tup _, _, _, _, h | .loc n, .lst _, _, _, _, h | .loc n, .loc _, _, _, _, h | .loc n, .raw _, _, _, _, h | .loc n, .scr _, _, _, _, h => by cases h
  | .non, _, _, _, _, h | .bl _, _, _, _, _, h | .int _, _, _, _, _, h | .str _, _, _, _, _, h | .tup _, _, _, _, _, h | .lst _, _, _, _, _, h | .raw _, _, _, _, _, h | .scr _, _, _, _, _, h => by cases h
def mSetC (o i e : ME) : MS := fun ρ S => (e ρ S).bind fun d S1 => (o ρ S1).bind fun c S2 => (i ρ S2).bind fun k S3 => match putC c k d S3 with
  | some S4 => .ok (.nx ρ) S4
  | none => .bad
theorem sm_setC {st : Stmt} {mo : ME} (h : PS X st (tAsg (tE X.K me) (gSub (tE X.K mo) (tE X.K mi) rSetL))) : SM X st (mSetC mo mi me) := PS.of h fun E σ H ⟨g, w, o, ρ, S, fl, S', s, hm, q⟩ => by
  obtain ⟨d, S1, h1, hm⟩ := R.bind_ok hm
  obtain ⟨c, S2, h2, hm⟩ := R.bind_ok hm
  obtain ⟨k, S3, h3, hm⟩ := R.bind_ok hm
  split at hm
  · rename_i S4 hp
    cases hm
    obtain ⟨n, j, l, m, rfl, rfl, hl, hmx, rfl⟩ := putC_ok hp
    refine ⟨g, w, o, ρ, S, d, S1, s, h1, fun v g1 H1 x1 s1 r1 => ?_⟩
    have t1 := s.ext x1 s1
    refine ⟨g1, w, o, ρ, S1, _, S2, t1, h2, fun vc g2 H2 x2 s2 r2 => ?_⟩
    have t2 := t1.ext x2 s2
    refine ⟨g2, w, o, ρ, S2, _, S3, t2, h3, fun vk g3 H3 x3 s3 r3 => ?_⟩
    have t3 := t2.ext x3 s3
    obtain ⟨a, ea, hg⟩ := RelD.ext x3 _ _ r2
    obtain ⟨vs, hH, r⟩ := s3.cel n _ a hl hg
    have mD : Mut (H3 a) := by rw [hH]; trivial
    have gD : a ∈ g3 := List.mem_of_getElem? hg
    have rv := RelD.ext (x2.trans x3) d v r1
    refine ⟨a, vs, j, m, ea, r3, hH, by rw [← r.length]; exact hmx, ?_⟩
    have x4 : Ext g3 H3 g3 (upd H3 a (.lst (vs.set m v))) := .updG mD gD
    have s4 := s3.updG (c := .lst (l.set m d)) (u := .lst (vs.set m v)) mD hg ⟨_, upd_same, RelDs.upd mD (.inr gD) _ _ (RelDs.set r rv)⟩
    exact q g3 o _ (((x1.trans x2).trans x3).trans x4).s σ (t3.ext x4 s4)
  · cases hm
end
end Mo
set_option maxRecDepth 100000
set_option maxHeartbeats 1000000
/-! Mo: the law's own head. -/
namespace Mo
open PySem PySem.Spec PyProof.Rows L2

section
variable {P : Program} {w : World} {K : PySem.W.Frag} {mg mb : Str → Option Value} {k : Nat} {fa a : Addr} {fd : FuncData} {x : Str} {s : Shared} {ob : Obj} {its : Array Value} {n : Nat}
/-- from an abstract heap that holds the script alone, or nothing -/
theorem head_core (kin : K.In s.heap) (hG : s.heap.Ns mainGlobals mg) (hB : s.heap.Ns builtinsNs mb) (hbb : ∀ y : Str, y ≠ "__name__" → mb y = bootBuiltins y) (lim : s.heap.NoLimit) (gens : s.gens = #[])
    (ho : s.heap.get? a = some ob) (hd : ob.data = .seq its n) (hr : Room k callerA) (F : ∀ base : Heap, K.In base → base.Ns mainGlobals mg → FnG P w K mg base CX0 k fa fd [x] (spM K 1 m))
    (hbind : ∀ (s : Shared) (u : Value), BindsTo s fd ⟨[u], []⟩ [(x, u)]) (H : Hp) (hH : ∀ b u, H b = some u → b = a ∧ K.lookup a = none ∧ ∃ xs, u = .frz ob (.lst xs)) (hok : HOk P w H s.heap)
    (hsp : spM K 1 m [.ref a] H (fun v _ => v = .bl true) E0) :
    codeAny (model P w) callerA (.call (.ref fa) ⟨[.ref a], []⟩) (fun r s' => r = .ok (.ret (.bool true)) ∧ OldK s.heap s'.heap ∧ s'.os = s.os ∧ AllBare s'.gens) s := by
  have un : ∀ {b : Addr}, b ≠ a → H b = none := fun {b} hb => by
    cases e : H b with
    | none => rfl
    | some u => exact absurd (hH b u e).1 hb
  have apart : ∀ {b : Addr} {o : Obj} {es : Array DictEntry} {ep : Nat}, s.heap.get? b = some o → o.data = .dict es ep → b ≠ a := fun {b o es ep} e d z => by
    subst z
    rw [ho] at e
    cases e
    rw [hd] at d
    cases d
  have ns : ∀ {b : Addr} {f : Str → Option Value}, s.heap.Ns b f → (hidT s.heap H).Ns b f := by
    rintro b f ⟨o, es, ep, e, d, r⟩
    exact ⟨o, es, ep, hidT_get e (un (apart e d)), d, r⟩
  have kin' : K.In (hidT s.heap H) := by
    intro b o e
    refine hidT_get (kin b o e) ?_
    cases q : H b with
    | none => rfl
    | some u =>
      obtain ⟨hb, hk, _⟩ := hH b u q
      subst hb
      rw [hk] at e
      cases e
  have lim' : (hidT s.heap H).NoLimit := by
    obtain ⟨mc, h1, h2⟩ := lim
    exact ⟨mc, ns h1, h2⟩
  have env : Env0 P w K mg (hidT s.heap H) callerA [] s H :=
    { frames := rfl, mod := ⟨kin', ns hG, ⟨mb, ns hB, hbb⟩, lim'⟩, bs := fun b o e => of_hidT e, bsz := Nat.le_of_eq (hidT_size _ _), funs := trivial, frf := fun b hb => (nomatch hb), hok := hok, bare := .of_eq gens }
  refine codeAny_mono ((F _ kin' (ns hG)).go callerA [] s H ⟨[.ref a], []⟩ [.ref a] [.ref a] _ _ rfl hr env (hbind s (.ref a)) (.cons rfl .nil) hsp) ?_
  intro r s' hq
  match r, hq with
  | .error e, hq => exact hq.elim
  | .ok .next, hq => exact hq.elim
  | .ok .brk, hq => exact hq.elim
  | .ok .cont, hq => exact hq.elim
  | .ok (.ret u), ⟨v, H', os, bare, ch, hok', rv, q⟩ =>
    subst q
    cases rv
    refine ⟨rfl, OldK.of_keep fun b o e => ?_, os, bare⟩
    by_cases hb : b = a
    · subst hb
      cases q : H b with
      | none => exact ch.keep b o e q (fun z => nomatch z) (fun z => nomatch z)
      | some u =>
        obtain ⟨_, _, xs, rfl⟩ := hH b u q
        have e1 := (hok b _ q).1
        have e2 := (hok' b _ (ch.frzs b ob _ q)).1
        rw [e] at e1
        cases e1
        exact e2
    · exact ch.keep b o e (un hb) (fun z => nomatch z) (fun z => nomatch z)
end
section
variable {l : PySem.W.OpenLaw} {n k : Nat} {q : Program} {loose : List Str} {XP : (Str → Option Value) → Heap → Prop} {YP : World → Heap → Prop} {d : DefRec} {K : Params → PySem.W.Frag} {x : Str} {m : MF}
/-- what k_head leaves, from the law's meaning at every script -/
theorem walk_g (hn : l.most = some n) (hn2 : n ≤ sizeLine) (hdf : d.params.defaults = []) (hr : Room k callerA) (hY : ∀ (w : World) (h : Heap), YP w h → (K w.params).In h)
    (F : ∀ (w : World) (mg : Str → Option Value) (fa : Addr) (h : Heap), (K w.params).In h → h.Ns mainGlobals mg → mg d.name = some (.ref fa) →
      ∃ fd : FuncData, (∀ (s : Shared) (u : Value), BindsTo s fd ⟨[u], []⟩ [(x, u)]) ∧ ∀ base : Heap, (K w.params).In base → base.Ns mainGlobals mg → FnG l.prog w (K w.params) mg base CX0 k fa fd [x] (spM (K w.params) 1 m))
    (hm : ∀ ns : List Int, ns.length ≤ n → ∃ S', m [.scr ns] [] = .ok (.bl true) S') : PySem.W.WalkO q loose XP YP l.row.toRowW d [] (fun f vs => PySem.call f vs) := by
  refine Att.attach_call hn hdf ?_
  intro w s0 s1 mg mb fa o pm cd doc a vs ns G Y ho hd hcd hmg hobj hints hlen hg
  have KX := hY w _ Y
  obtain ⟨fd, hb, hF⟩ := F w mg fa _ KX G.T.g hmg
  have rv := vals_ints hints
  have hz : ns.length ≤ sizeLine := Nat.le_trans hlen hn2
  obtain ⟨S', hS⟩ := hm ns hlen
  have sp : ∀ H : Hp, ScrL (K w.params) [] [] H a (ns.map V.int) → spM (K w.params) 1 m [.ref a] H (fun v _ => v = .bl true) E0 := fun H hs =>
    ⟨rfl, [], [], [.scr ns], [], .bl true, S', fun b hb => (nomatch hb), ⟨rfl, List.nodup_nil, fun n c a e _ => by simp at e⟩, ⟨.ref a, [], rfl, ⟨a, rfl, hs⟩, rfl⟩, hS, fun v g' H' _ _ r => r⟩
  by_cases hk : (K w.params).lookup a = none
  · refine head_core (H := fun b => if b = a then some (.frz { cls := .type "list", data := .seq vs.toArray } (.lst (ns.map V.int))) else none) KX G.T.g G.T.b G.T.builtins G.T.nolimit hg hobj rfl hr hF hb (fun b u e => ?_) (fun b u e => ?_) (sp _ (.inl ⟨(fun z => nomatch z), (fun z => nomatch z), .inr ⟨_, if_pos rfl⟩⟩))
    · skip
      by_cases hba : b = a
      · rw [if_pos hba] at e
        cases e
        exact ⟨hba, hk, _, rfl⟩
      · rw [if_neg hba] at e; cases e
    · dsimp only at e
      by_cases hba : b = a
      · rw [if_pos hba] at e
        cases e
        subst hba
        exact ⟨hobj, by rw [List.length_map]; exact hz, vs, _, rv, hobj⟩
      · rw [if_neg hba] at e; cases e
  · cases e : (K w.params).lookup a with
    | none => exact absurd e hk
    | some oK =>
      have e2 := KX a oK e
      rw [hobj] at e2
      cases e2
      refine head_core (H := fun _ => none) KX G.T.g G.T.b G.T.builtins G.T.nolimit hg hobj rfl hr hF hb (fun b u e => nomatch e) (fun b u e => nomatch e) (sp _ (.inr ⟨_, vs.toArray, _, e, rfl, rfl, rfl, ?_, by simpa using rv⟩))
      rw [List.size_toArray, hints.length]
      exact hz
end
end Mo
set_option maxRecDepth 100000
set_option maxHeartbeats 1000000
/-! Mo: order, sorted, min, max, repr of data; dicts as cells of the store. -/
namespace Mo
open PySem PySem.Spec PyProof.Rows L2

/-! ### back from data -/
mutual
def ofP : PyData → D
  | .none => .non
  | .bool b => .bl b
  | .int i => .int i
  | .str x => .str x
  | .tuple l => .tup (ofPs l)
  | .list l => .lst (ofPs l)
  | .dict _ => .non
def ofPs : List PyData → List D
  | [] => []
  | p :: ps => ofP p :: ofPs ps
end
mutual
theorem ofP_toP : ∀ (d : D) (p : PyData), toP d = some p → ofP p = d
  | .non, _, e => by unfold toP at e; cases e; rw [ofP]
  | .bl b, _, e => by unfold toP at e; cases e; rw [ofP]
  | .int i, _, e => by unfold toP at e; cases e; rw [ofP]
  | .str x, _, e => by unfold toP at e; cases e; rw [ofP]
  | .tup l, _, e => by
    unfold toP at e
    cases h : toPs l with
    | none => rw [h] at e; cases e
    | some ps => rw [h] at e; cases e; rw [ofP, ofPs_toPs l ps h]
  | .lst l, _, e => by
    unfold toP at e
    cases h : toPs l with
    | none => rw [h] at e; cases e
    | some ps => rw [h] at e; cases e; rw [ofP, ofPs_toPs l ps h]
  | .loc n, _, e => by unfold toP at e; cases e
  | .raw n, _, e => by unfold toP at e; cases e
  | .scr n, _, e => by unfold toP at e; cases e
theorem ofPs_toPs : ∀ (l : List D) (ps : List PyData), toPs l = some ps → ofPs ps = l
  | [], _, e => by unfold toPs at e; cases e; rw [ofPs]
  | d :: ds, _, e => by
    unfold toPs at e
    split at e
    · rename_i p ps hp hps
      cases e
      rw [ofPs, ofP_toP d p hp, ofPs_toPs ds ps hps]
    · cases e
end
mutual
theorem toP_noDict : ∀ (d : D) (p : PyData), toP d = some p → p.hasDict = false
  | .non, _, e => by unfold toP at e; cases e; rw [PyData.hasDict]
  | .bl b, _, e => by unfold toP at e; cases e; rw [PyData.hasDict]
  | .int i, _, e => by unfold toP at e; cases e; rw [PyData.hasDict]
  | .str x, _, e => by unfold toP at e; cases e; rw [PyData.hasDict]
  | .tup l, _, e => by
    unfold toP at e
    cases h : toPs l with
    | none => rw [h] at e; cases e
    | some ps => rw [h] at e; cases e; rw [PyData.hasDict, toPs_noDict l ps h]
  | .lst l, _, e => by
    unfold toP at e
    cases h : toPs l with
    | none => rw [h] at e; cases e
    | some ps => rw [h] at e; cases e; rw [PyData.hasDict, toPs_noDict l ps h]
  | .loc n, _, e => by unfold toP at e; cases e
  | .raw n, _, e => by unfold toP at e; cases e
  | .scr n, _, e => by unfold toP at e; cases e
theorem toPs_noDict : ∀ (l : List D) (ps : List PyData), toPs l = some ps → PyData.hasDictAll ps = false
  | [], _, e => by unfold toPs at e; cases e; rw [PyData.hasDictAll]
  | d :: ds, _, e => by
    unfold toPs at e
    split at e
    · rename_i p ps hp hps
      cases e
      rw [PyData.hasDictAll, toP_noDict d p hp, toPs_noDict ds ps hps]; rfl
    · cases e
end
theorem toPs_length : ∀ {l : List D} {ps : List PyData}, toPs l = some ps → l.length = ps.length
  | [], _, e => by unfold toPs at e; cases e; rfl
  | d :: ds, _, e => by
    unfold toPs at e
    split at e
    · rename_i p ps hp hps
      cases e
      rw [List.length_cons, List.length_cons, toPs_length hps]
    · cases e
theorem toPs_get : ∀ {l : List D} {ps : List PyData} {i : Nat} {d : D}, toPs l = some ps → l[i]? = some d → ∃ p, ps[i]? = some p ∧ toP d = some p
  | [], _, i, _, _, h => by simp at h
  | d :: ds, _, i, e, hp, h => by
    unfold toPs at hp
    split at hp
    · rename_i p ps h1 h2
      cases hp
      cases i with
      | zero => simp at h; subst h; exact ⟨p, rfl, h1⟩
      | succ i => exact toPs_get (i := i) h2 (by simpa using h)
    · cases hp

/-! ### repr -/
def notNoneP : PyData → Bool
  | .none => false
  | _ => true
/-- what repr gives of a tuple or a list -/
def shownOk (p : PyData) : Prop := p.showable = true ∧ p.depth ≤ 60 ∧ p.shown.length ≤ sizeLine
instance : ∀ p, Decidable (shownOk p) := fun _ => by unfold shownOk; infer_instance
def gRepr (d : D) (S : Store) : R D := match d with
  | .tup _ => match toP d with
    | some p => if shownOk p then .ok (.str p.shown) S else .bad
    | none => .bad
  | .lst _ => match toP d with
    | some p => if shownOk p then .ok (.str p.shown) S else .bad
    | none => .bad
  | _ => .bad
section
variable {X : Cx}
theorem cr_repr (hg : X.A.guards = some []) (hu : X.A.units + 64 < cLine) : CallR X (.builtin "repr") (fun xs H Q => ∃ a p, xs = [.ref a] ∧ Dp X.K H (.ref a) p ∧ p.hasDict = false ∧ shownOk p ∧ Q (.str p.shown) H) := by
  intro pins s σ H xs us Q I r h
  obtain ⟨a, p, rfl, hd, nd, ⟨h1, h2, h3⟩, q⟩ := h
  rw [Vals.ref1 r]
  obtain ⟨as, rd⟩ := Dp.reads I p (.ref a) (.ref a) hd rfl
  refine repr_of_reads' rd h1 (fun z => by rw [nd] at z; cases z) hg (by omega) (fun _ _ e => e) (fun h' u tk hk => ?_) h3
  exact ⟨.str p.shown, H, I.kept (t' := tk) hk, ⟨u, rfl⟩, q⟩
variable {e a b : Expr} {me ma mb mk mv : ME} {ml : ML} {l : MA} {pos p : Pos}
theorem em_repr (hgd : X.A.guards = some []) (hu : X.A.units + 64 < cLine) (h : EM X e me) (hg : Gl X "repr") (hm : X.mg "repr" = none) (hb : bootBuiltins "repr" = some (.builtin "repr") := by decide +kernel) (hs : starEach [e] X.env = (false, eval e X.env) :: starEach [] X.env := by rfl) (hpl : (backTo pos (starEach [] X.env)).any (·.1) = false := by rfl) :
    EM X (.Call (.Name "repr" p) [e] [] pos) (mB1 gRepr me) :=
  PE.of (pe_callB (cr_repr hgd hu) hg hm hb (b1 h hs) (by decide) (by decide) hs hpl) fun σ H Q ⟨g, w, o, ρ, S, d, S', s, hm, q⟩ => by
    obtain ⟨d1, S1, h1, h2⟩ := R.bind_ok hm
    refine ⟨g, w, o, ρ, S, d1, S1, s, h1, fun v g1 H1 x1 s1 r1 => ?_⟩
    unfold gRepr at h2
    split at h2
    · rename_i l
      split at h2
      · rename_i pd hp
        split at h2
        · rename_i hok
          cases h2
          have dp := RelD.dp _ _ _ r1 hp
          obtain ⟨a, vs, ev, _⟩ := r1
          subst ev
          exact ⟨a, pd, rfl, dp, toP_noDict _ _ hp, hok, q _ g1 H1 x1 s1 rfl⟩
        · cases h2
      · cases h2
    · rename_i l
      split at h2
      · rename_i pd hp
        split at h2
        · rename_i hok
          cases h2
          have dp := RelD.dp _ _ _ r1 hp
          obtain ⟨a, vs, ev, _⟩ := r1
          subst ev
          exact ⟨a, pd, rfl, dp, toP_noDict _ _ hp, hok, q _ g1 H1 x1 s1 rfl⟩
        · cases h2
      · cases h2
    · cases h2

/-! ### min, max of data -/
def alikeB (ps : List PyData) : Bool := ps.all (fun x => ps.all (PySem.W.alike x)) && ps.all notNoneP
theorem alikeB_of {ps : List PyData} (h : alikeB ps = true) : PySem.W.AlikeAll ps := by
  unfold alikeB at h
  rw [Bool.and_eq_true, List.all_eq_true, List.all_eq_true] at h
  refine ⟨fun x hx y hy => List.all_eq_true.mp (h.1 x hx) y hy, fun x hx e => ?_⟩
  have := h.2 x hx
  subst e
  cases this
def hMinD (l : List D) (S : Store) : R D := match toPs l with
  | some (p :: ps) => if alikeB (p :: ps) = true ∧ PyData.depthAll (p :: ps) ≤ 60 then .ok (ofP (PySem.W.minD p ps)) S else .bad
  | _ => .bad
def hMaxD (l : List D) (S : Store) : R D := match toPs l with
  | some (p :: ps) => if alikeB (p :: ps) = true ∧ PyData.depthAll (p :: ps) ≤ 60 then .ok (ofP (PySem.W.maxD p ps)) S else .bad
  | _ => .bad
theorem alike_data {ps : List PyData} (h : PySem.W.AlikeAll ps) {x y : PyData} (hx : x ∈ ps) (hy : y ∈ ps) : PySem.W.alike x y = true := h.1 x hx y hy
theorem minD_mem (x : PyData) : ∀ xs : List PyData, PySem.W.minD x xs ∈ x :: xs := by
  intro xs
  unfold PySem.W.minD
  induction xs generalizing x with
  | nil => simp
  | cons y ys ih =>
    rw [List.foldl_cons]
    have := ih (if PySem.W.dataLt y x = true then y else x)
    rcases List.mem_cons.mp this with e | e
    · rw [e]
      split <;> simp
    · simp [e]
theorem maxD_mem (x : PyData) : ∀ xs : List PyData, PySem.W.maxD x xs ∈ x :: xs := by
  intro xs
  unfold PySem.W.maxD
  induction xs generalizing x with
  | nil => simp
  | cons y ys ih =>
    rw [List.foldl_cons]
    have := ih (if PySem.W.dataLt x y = true then y else x)
    rcases List.mem_cons.mp this with e | e
    · rw [e]
      split <;> simp
    · simp [e]
/-- the answer: one of the items, the least (the greatest) -/
theorem pick_item {K : PySem.W.Frag} {g f : List Addr} {H : Hp} {l : List D} {ps : List PyData} {vs : List V} {its : List Value} {h h' : Heap} {as bs : List Addr} {i : Nat} {v : Value} {p : PyData} (ha : PySem.W.AlikeAll ps) (hp : toPs l = some ps) (r : RelDs K g f H l vs) (rv : Vals vs its)
    (hr : ReadsAll h its ps as) (hk : ∀ b o, h.get? b = some o → h'.get? b = some o) (hi : its[i]? = some v) (hm : p ∈ ps) (hb : Reads h' v p bs) : ∃ x, RelV x v ∧ RelD K g f H (ofP p) x := by
  obtain ⟨bs', rd, hlt, mem, _⟩ := PySem.W.readsAll_at hr i v hi
  have hl : i < l.length := by rw [toPs_length hp]; exact hlt
  obtain ⟨x, ex, rx⟩ := r.get (List.getElem?_eq_getElem hl)
  obtain ⟨p', ep, tp⟩ := toPs_get hp (List.getElem?_eq_getElem hl)
  have e1 : ps.getD i .none = p' := by rw [List.getD_eq_getElem?_getD, ep]; rfl
  rw [e1] at rd mem
  have e2 : p' = p := PySem.W.alike_unique p' p v _ _ (ha.1 p' mem p hm) (PySem.W.reads_keeps hk rd) hb
  subst e2
  obtain ⟨u, eu, ru⟩ := rv.get ex
  rw [eu] at hi
  cases hi
  exact ⟨x, ru, by rw [ofP_toP _ _ tp]; exact rx⟩
theorem cr_minD (hc : X.calm = true) (hu : X.A.units + 64 < cLine) : CallR X (.builtin "min") (fun xs H Q => ∃ a vs l d S g f, xs = [.ref a] ∧ SqL X.K H a vs ∧ RelDs X.K g f H l vs ∧ hMinD l S = .ok d S ∧ ∀ v, RelD X.K g f H d v → Q v H) := by
  intro pins s σ H xs us Q I r h
  obtain ⟨a, vs, l, d, S, g, f, rfl, hs, rl, hm, q⟩ := h
  rw [Vals.ref1 r]
  obtain ⟨its, rv, pl, _⟩ := I.list hs
  unfold hMinD at hm
  split at hm
  · rename_i p ps hp
    split at hm
    · rename_i hc2
      cases hm
      have ha := alikeB_of hc2.1
      obtain ⟨as, hr⟩ := Dp.readsAll I _ _ its (RelDs.dp _ _ _ rl hp) rv
      refine PySem.W.min_list_data (I.ok.hd hc) pl.isList (x := p) (xs := ps) (by simpa using hr) ha (by omega) fun i v h' tk bs hi hb hk => ?_
      obtain ⟨x, rx, rd⟩ := pick_item ha hp rl rv hr hk (by simpa using hi) (minD_mem p ps) hb
      exact ⟨x, H, I.kept (t' := tk) hk, rx, q x rd⟩
    · cases hm
  · cases hm
theorem cr_maxD (hc : X.calm = true) (hu : X.A.units + 64 < cLine) : CallR X (.builtin "max") (fun xs H Q => ∃ a vs l d S g f, xs = [.ref a] ∧ SqL X.K H a vs ∧ RelDs X.K g f H l vs ∧ hMaxD l S = .ok d S ∧ ∀ v, RelD X.K g f H d v → Q v H) := by
  intro pins s σ H xs us Q I r h
  obtain ⟨a, vs, l, d, S, g, f, rfl, hs, rl, hm, q⟩ := h
  rw [Vals.ref1 r]
  obtain ⟨its, rv, pl, _⟩ := I.list hs
  unfold hMaxD at hm
  split at hm
  · rename_i p ps hp
    split at hm
    · rename_i hc2
      cases hm
      have ha := alikeB_of hc2.1
      obtain ⟨as, hr⟩ := Dp.readsAll I _ _ its (RelDs.dp _ _ _ rl hp) rv
      refine PySem.W.max_list_data (I.ok.hd hc) pl.isList (x := p) (xs := ps) (by simpa using hr) ha (by omega) fun i v h' tk bs hi hb hk => ?_
      obtain ⟨x, rx, rd⟩ := pick_item ha hp rl rv hr hk (by simpa using hi) (maxD_mem p ps) hb
      exact ⟨x, H, I.kept (t' := tk) hk, rx, q x rd⟩
    · cases hm
  · cases hm
theorem hMinD_S {l : List D} {S S' : Store} {d : D} (h : hMinD l S = .ok d S') : S' = S ∧ hMinD l S = .ok d S := by
  have h0 := h
  unfold hMinD at h
  split at h
  · split at h
    · cases h; exact ⟨rfl, h0⟩
    · cases h
  · cases h
theorem hMaxD_S {l : List D} {S S' : Store} {d : D} (h : hMaxD l S = .ok d S') : S' = S ∧ hMaxD l S = .ok d S := by
  have h0 := h
  unfold hMaxD at h
  split at h
  · split at h
    · cases h; exact ⟨rfl, h0⟩
    · cases h
  · cases h
theorem em_minQ (hc : X.calm = true) (hu : X.A.units + 64 < cLine) (h : QM X e ml) (hg : Gl X "min") (hm : X.mg "min" = none) (hb : bootBuiltins "min" = some (.builtin "min") := by decide +kernel) (hs : starEach [e] X.env = (false, eval e X.env) :: starEach [] X.env := by rfl) (hpl : (backTo pos (starEach [] X.env)).any (·.1) = false := by rfl) :
    EM X (.Call (.Name "min" p) [e] [] pos) (mQ hMinD ml) :=
  PE.of (pe_callB (cr_minD hc hu) hg hm hb (b1 h hs) (by decide) (by decide) hs hpl) fun σ H Q q => q_of (fun g f H S l d S' a vs Q s hq r hm q => by
    obtain ⟨rfl, h2⟩ := hMinD_S hm
    exact ⟨a, vs, l, d, S', g, f, rfl, hq, r, h2, fun v rv => q.same s rv⟩) q
theorem em_maxQ (hc : X.calm = true) (hu : X.A.units + 64 < cLine) (h : QM X e ml) (hg : Gl X "max") (hm : X.mg "max" = none) (hb : bootBuiltins "max" = some (.builtin "max") := by decide +kernel) (hs : starEach [e] X.env = (false, eval e X.env) :: starEach [] X.env := by rfl) (hpl : (backTo pos (starEach [] X.env)).any (·.1) = false := by rfl) :
    EM X (.Call (.Name "max" p) [e] [] pos) (mQ hMaxD ml) :=
  PE.of (pe_callB (cr_maxD hc hu) hg hm hb (b1 h hs) (by decide) (by decide) hs hpl) fun σ H Q q => q_of (fun g f H S l d S' a vs Q s hq r hm q => by
    obtain ⟨rfl, h2⟩ := hMaxD_S hm
    exact ⟨a, vs, l, d, S', g, f, rfl, hq, r, h2, fun v rv => q.same s rv⟩) q
end
end Mo
set_option maxRecDepth 100000
set_option maxHeartbeats 1000000
/-! Mo: max and min of two data, sorted, dicts, enumerate, list * n. -/
namespace Mo
open PySem PySem.Spec PyProof.Rows L2

/-! ### max(a, b), min(a, b) of data -/
section
variable {prog : Program} {w : World} {A : Around} {E : Value → Shared → Prop} {s : Shared}
theorem max_two_data {a b : Value} {x y : PyData} {as bs : List Addr} {Q : Value → Shared → Prop} (hh : A.handled = none) (ra : Reads s.heap a x as) (rb : Reads s.heap b y bs) (hal : PySem.W.AlikeAll [x, y]) (hu : A.units + 1 + PyData.depthAll [x, y] < cLine)
    (h : ∀ h' tk, (∀ c o, s.heap.get? c = some o → h'.get? c = some o) → Q (if PySem.W.dataLt x y = true then b else a) { s with heap := h', toks := tk }) : wpAny (model prog w) A (call (.builtin "max") [a, b]) Q E s := by
  have hT : (s.heap.push { cls := .type "tuple", data := .seq #[a, b] }).IsTuple s.heap.objs.size #[a, b] := ⟨_, Heap.get?_push_size _ rfl, rfl, 0, rfl⟩
  have nm : (toString "max" ++ toString ".loop" : String) = "max.loop" := by decide
  have k0 : ∀ c o, s.heap.get? c = some o → (s.heap.push { cls := .type "tuple", data := .seq #[a, b] }).get? c = some o := fun c o e => Heap.get?_push_of_some _ e
  have hr : ReadsAll (s.heap.push { cls := .type "tuple", data := .seq #[a, b] }) #[a, b].toList [x, y] (as ++ (bs ++ [])) := .cons (Reads.keeps k0 ra) (.cons (Reads.keeps k0 rb) .nil)
  refine call_function_tree F.kind_max F.plain_max F.entry_max (F.args_max2 _ _) ?_
  show wpAny _ A.in1 (Builtin.Builtins.bindParams "max" ["key", "default"] 0 ⟨[], []⟩ >>= _) _ _ s
  refine wpAny_bind (wpAny_of_eq (show Builtin.Builtins.bindParams "max" ["key", "default"] 0 ⟨[], []⟩ = pure [none, none] from rfl) ?_)
  show wpAny _ A.in1 (newTuple [a, b] >>= _) _ _ s
  refine wpAny_bind (wpAny_newObj_type ?_)
  refine wpAny_bind (PySem.W.iter_tupleW (A := A.in1) (s := { s with heap := s.heap.push { cls := .type "tuple", data := .seq #[a, b] } }) hh hT fun s2 e W st hfp hw hk => ?_)
  refine wpAny_bind (wpAny_newObj_type ?_)
  have nf : s2.heap.objs.size ∉ [(s.heap.push { cls := .type "tuple", data := .seq #[a, b] }).objs.size, s.heap.objs.size] := fun hm => Nat.lt_irrefl _ (hfp _ hm)
  rw [nm]
  refine wpAny_pure ⟨plainId_quiet F.plain_max_loop _, codeAny_max_loop_firstH W _ hw _ (PySem.W.cmpIn_gt (A := A.in1) (s := { s with heap := s.heap.push { cls := .type "tuple", data := .seq #[a, b] } }) hr hal (by show A.units + 1 + _ < _; exact hu)) s2.heap.objs.size nf (fresh_in hk) _ (by show 0 < 2; decide)
    (fun c o q => Heap.get?_push_of_some _ (hk c o q)) (W.frame 0 s2 _ s2.toks st (Nat.le_refl _) fun c _ o q => Heap.get?_push_of_some _ q) (Heap.get?_push_size _ rfl) fun v s' hP hm => ?_⟩
  obtain ⟨h', tk, rfl, hk'⟩ := PySem.W.moved_old e rfl (Moved.drop_new (tk := s2.toks) hm (Nat.le_refl _))
  have hv : v = if PySem.W.dataLt x y = true then b else a := by
    cases hc : PySem.W.dataLt x y <;> simp [argBest, hc] at hP <;> simp [hP]
  rw [hv]
  exact h h' tk fun c o q => hk' c o (k0 c o q)
theorem min_two_data {a b : Value} {x y : PyData} {as bs : List Addr} {Q : Value → Shared → Prop} (hh : A.handled = none) (ra : Reads s.heap a x as) (rb : Reads s.heap b y bs) (hal : PySem.W.AlikeAll [x, y]) (hu : A.units + 1 + PyData.depthAll [x, y] < cLine)
    (h : ∀ h' tk, (∀ c o, s.heap.get? c = some o → h'.get? c = some o) → Q (if PySem.W.dataLt y x = true then b else a) { s with heap := h', toks := tk }) : wpAny (model prog w) A (call (.builtin "min") [a, b]) Q E s := by
  have hT : (s.heap.push { cls := .type "tuple", data := .seq #[a, b] }).IsTuple s.heap.objs.size #[a, b] := ⟨_, Heap.get?_push_size _ rfl, rfl, 0, rfl⟩
  have nm : (toString "min" ++ toString ".loop" : String) = "min.loop" := by decide
  have k0 : ∀ c o, s.heap.get? c = some o → (s.heap.push { cls := .type "tuple", data := .seq #[a, b] }).get? c = some o := fun c o e => Heap.get?_push_of_some _ e
  have hr : ReadsAll (s.heap.push { cls := .type "tuple", data := .seq #[a, b] }) #[a, b].toList [x, y] (as ++ (bs ++ [])) := .cons (Reads.keeps k0 ra) (.cons (Reads.keeps k0 rb) .nil)
  refine call_function_tree F.kind_min F.plain_min F.entry_min (F.args_min2 _ _) ?_
  show wpAny _ A.in1 (Builtin.Builtins.bindParams "min" ["key", "default"] 0 ⟨[], []⟩ >>= _) _ _ s
  refine wpAny_bind (wpAny_of_eq (show Builtin.Builtins.bindParams "min" ["key", "default"] 0 ⟨[], []⟩ = pure [none, none] from rfl) ?_)
  show wpAny _ A.in1 (newTuple [a, b] >>= _) _ _ s
  refine wpAny_bind (wpAny_newObj_type ?_)
  refine wpAny_bind (PySem.W.iter_tupleW (A := A.in1) (s := { s with heap := s.heap.push { cls := .type "tuple", data := .seq #[a, b] } }) hh hT fun s2 e W st hfp hw hk => ?_)
  refine wpAny_bind (wpAny_newObj_type ?_)
  have nf : s2.heap.objs.size ∉ [(s.heap.push { cls := .type "tuple", data := .seq #[a, b] }).objs.size, s.heap.objs.size] := fun hm => Nat.lt_irrefl _ (hfp _ hm)
  rw [nm]
  refine wpAny_pure ⟨plainId_quiet F.plain_min_loop _, codeAny_min_loop_firstH W _ hw _ (PySem.W.cmpIn_lt (A := A.in1) (s := { s with heap := s.heap.push { cls := .type "tuple", data := .seq #[a, b] } }) hr hal (by show A.units + 1 + _ < _; exact hu)) s2.heap.objs.size nf (fresh_in hk) _ (by show 0 < 2; decide)
    (fun c o q => Heap.get?_push_of_some _ (hk c o q)) (W.frame 0 s2 _ s2.toks st (Nat.le_refl _) fun c _ o q => Heap.get?_push_of_some _ q) (Heap.get?_push_size _ rfl) fun v s' hP hm => ?_⟩
  obtain ⟨h', tk, rfl, hk'⟩ := PySem.W.moved_old e rfl (Moved.drop_new (tk := s2.toks) hm (Nat.le_refl _))
  have hv : v = if PySem.W.dataLt y x = true then b else a := by
    cases hc : PySem.W.dataLt y x <;> simp [argBest, hc] at hP <;> simp [hP]
  rw [hv]
  exact h h' tk fun c o q => hk' c o (k0 c o q)
end
/-- the two alike, not too deep -/
def two? (x y : D) : Option (PyData × PyData) := match toP x, toP y with
  | some p, some q => if alikeB [p, q] = true ∧ PyData.depthAll [p, q] ≤ 60 then some (p, q) else none
  | _, _ => none
def hMax2D : List D → Store → R D
  | [x, y], S => match two? x y with
    | some (p, q) => .ok (if PySem.W.dataLt p q = true then y else x) S
    | none => .bad
  | _, _ => .bad
def hMin2D : List D → Store → R D
  | [x, y], S => match two? x y with
    | some (p, q) => .ok (if PySem.W.dataLt q p = true then y else x) S
    | none => .bad
  | _, _ => .bad
theorem two_of {x y : D} {p q : PyData} (h : two? x y = some (p, q)) : toP x = some p ∧ toP y = some q ∧ PySem.W.AlikeAll [p, q] ∧ PyData.depthAll [p, q] ≤ 60 := by
  unfold two? at h
  split at h
  · rename_i p' q' h1 h2
    split at h
    · rename_i hc
      cases h
      exact ⟨h1, h2, alikeB_of hc.1, hc.2⟩
    · cases h
  · cases h
section
variable {X : Cx} {e a b : Expr} {me ma mb mk mv mo : ME} {ml : ML} {l : MA} {pos p : Pos}
theorem cr_max2D (hc : X.calm = true) (hu : X.A.units + 64 < cLine) : CallR X (.builtin "max") (fun xs H Q => ∃ x y p q, xs = [x, y] ∧ Dp X.K H x p ∧ Dp X.K H y q ∧ PySem.W.AlikeAll [p, q] ∧ PyData.depthAll [p, q] ≤ 60 ∧ Q (if PySem.W.dataLt p q = true then y else x) H) := by
  intro pins s σ H xs us Q I r h
  obtain ⟨x, y, p, q, rfl, h1, h2, ha, hd, hq⟩ := h
  obtain ⟨u, v, rfl, ru, rv⟩ := Vals.two r
  obtain ⟨as, r1⟩ := Dp.reads I p x u h1 ru
  obtain ⟨bs, r2⟩ := Dp.reads I q y v h2 rv
  refine max_two_data (I.ok.hd hc) r1 r2 ha (by omega) fun h' tk hk => ⟨_, H, I.kept (t' := tk) hk, ?_, hq⟩
  by_cases z : PySem.W.dataLt p q = true
  · rw [if_pos z, if_pos z]; exact rv
  · rw [if_neg z, if_neg z]; exact ru
theorem cr_min2D (hc : X.calm = true) (hu : X.A.units + 64 < cLine) : CallR X (.builtin "min") (fun xs H Q => ∃ x y p q, xs = [x, y] ∧ Dp X.K H x p ∧ Dp X.K H y q ∧ PySem.W.AlikeAll [p, q] ∧ PyData.depthAll [p, q] ≤ 60 ∧ Q (if PySem.W.dataLt q p = true then y else x) H) := by
  intro pins s σ H xs us Q I r h
  obtain ⟨x, y, p, q, rfl, h1, h2, ha, hd, hq⟩ := h
  obtain ⟨u, v, rfl, ru, rv⟩ := Vals.two r
  obtain ⟨as, r1⟩ := Dp.reads I p x u h1 ru
  obtain ⟨bs, r2⟩ := Dp.reads I q y v h2 rv
  refine min_two_data (I.ok.hd hc) r1 r2 ha (by omega) fun h' tk hk => ⟨_, H, I.kept (t' := tk) hk, ?_, hq⟩
  by_cases z : PySem.W.dataLt q p = true
  · rw [if_pos z, if_pos z]; exact rv
  · rw [if_neg z, if_neg z]; exact ru
theorem em_max2D (hc : X.calm = true) (hu : X.A.units + 64 < cLine) (h : AM X [a, b] l) (hg : Gl X "max") (hm : X.mg "max" = none) (hb : bootBuiltins "max" = some (.builtin "max") := by decide +kernel) (hs : starEach [a, b] X.env = (false, eval a X.env) :: starEach [b] X.env := by rfl) (hpl : (backTo pos (starEach [b] X.env)).any (·.1) = false := by rfl) :
    EM X (.Call (.Name "max" p) [a, b] [] pos) (mA hMax2D l) :=
  PE.of (pe_callB (cr_max2D hc hu) hg hm hb h (by decide) (by decide) hs hpl) fun σ H Q q => a_of (fun g f H S l d S' vs Q s r hm q => by
    match l, r, hm with
    | [x, y], ⟨v, t, ev, rv, v2, t2, ev2, rv2, rn⟩, hm =>
      dsimp only [hMax2D] at hm
      split at hm
      · rename_i p' q' h2
        cases hm
        obtain ⟨t1, t2', ha, hd⟩ := two_of h2
        cases rn; subst ev2
        refine ⟨v, v2, p', q', ev, RelD.dp _ _ _ rv t1, RelD.dp _ _ _ rv2 t2', ha, hd, ?_⟩
        by_cases z : PySem.W.dataLt p' q' = true
        · rw [if_pos z] at q ⊢; exact q.same s rv2
        · rw [if_neg z] at q ⊢; exact q.same s rv
      · cases hm
    | [], _, hm => cases hm
    | [_], _, hm => cases hm
    | _ :: _ :: _ :: _, _, hm => cases hm) q
theorem em_min2D (hc : X.calm = true) (hu : X.A.units + 64 < cLine) (h : AM X [a, b] l) (hg : Gl X "min") (hm : X.mg "min" = none) (hb : bootBuiltins "min" = some (.builtin "min") := by decide +kernel) (hs : starEach [a, b] X.env = (false, eval a X.env) :: starEach [b] X.env := by rfl) (hpl : (backTo pos (starEach [b] X.env)).any (·.1) = false := by rfl) :
    EM X (.Call (.Name "min" p) [a, b] [] pos) (mA hMin2D l) :=
  PE.of (pe_callB (cr_min2D hc hu) hg hm hb h (by decide) (by decide) hs hpl) fun σ H Q q => a_of (fun g f H S l d S' vs Q s r hm q => by
    match l, r, hm with
    | [x, y], ⟨v, t, ev, rv, v2, t2, ev2, rv2, rn⟩, hm =>
      dsimp only [hMin2D] at hm
      split at hm
      · rename_i p' q' h2
        cases hm
        obtain ⟨t1, t2', ha, hd⟩ := two_of h2
        cases rn; subst ev2
        refine ⟨v, v2, p', q', ev, RelD.dp _ _ _ rv t1, RelD.dp _ _ _ rv2 t2', ha, hd, ?_⟩
        by_cases z : PySem.W.dataLt q' p' = true
        · rw [if_pos z] at q ⊢; exact q.same s rv2
        · rw [if_neg z] at q ⊢; exact q.same s rv
      · cases hm
    | [], _, hm => cases hm
    | [_], _, hm => cases hm
    | _ :: _ :: _ :: _, _, hm => cases hm) q

/-! ### sorted -/
def encD (d : D) : PyData := (toP d).getD .none
def sortableB (ps : List PyData) : Bool := ps.all (fun p => match p with | .tuple (_ :: _) => true | _ => false) || ps.all fun p => match p with | .none => false | .tuple _ => false | _ => true
theorem sortableB_of {ps : List PyData} (h : sortableB ps = true) : PySem.W.Sortable ps := by
  unfold sortableB at h
  rw [Bool.or_eq_true, List.all_eq_true, List.all_eq_true] at h
  rcases h with h | h
  · refine .inl fun d hd => ?_
    have := h d hd
    split at this
    · exact ⟨_, _, rfl⟩
    · cases this
  · refine .inr fun d hd => ⟨fun e => ?_, fun xs e => ?_⟩
    · have := h d hd
      rw [e] at this
      cases this
    · have := h d hd
      rw [e] at this
      cases this
def sortD (l : List D) : List D := l.mergeSort (PySem.W.dataLe false encD)
def hSorted (l : List D) (S : Store) : R (List D) := match toPs l with
  | some ps => if ps.all (fun x => ps.all (PySem.W.alike x)) = true ∧ sortableB ps = true ∧ PyData.depthAll ps ≤ 60 then .ok (sortD l) S else .bad
  | none => .bad
theorem each_vals {ys : List (D × V)} : ∀ {out : List Value}, PySem.W.EachIs (fun v (b : D × V) => RelV b.2 v) out ys → Vals (ys.map (·.2)) out := by
  induction ys with
  | nil => intro out h; cases h; exact .nil
  | cons y ys ih => intro out h; cases h with | cons r t => exact .cons r (ih t)
theorem depth_le_all : ∀ {ps : List PyData} {p : PyData}, p ∈ ps → p.depth ≤ PyData.depthAll ps
  | q :: ps, p, h => by
    rw [PyData.depthAll]
    rcases List.mem_cons.mp h with e | e
    · rw [e]; exact Nat.le_max_left _ _
    · exact Nat.le_trans (depth_le_all e) (Nat.le_max_right _ _)
theorem cr_sortedD (hu : X.A.units + 64 < cLine) : CallR X (.builtin "sorted") (fun xs H Q => ∃ a vs l ps g f, xs = [.ref a] ∧ SqL X.K H a vs ∧ RelDs X.K g f H l vs ∧ toPs l = some ps ∧ PySem.W.AllAlike ps ∧ PySem.W.Sortable ps ∧ PyData.depthAll ps ≤ 60 ∧
    ∀ p us, H p = none → RelDs X.K g f H (sortD l) us → Q (.ref p) (upd H p (.lst us))) := by
  intro pins s σ H xs us Q I r h
  obtain ⟨a, vs, l, ps, g, f, rfl, hs, rl, hp, hal, hso, hd, q⟩ := h
  rw [Vals.ref1 r]
  obtain ⟨its, rv, pl, hz⟩ := I.list hs
  obtain ⟨as, hr⟩ := Dp.readsAll I _ _ its (RelDs.dp _ _ _ rl hp) rv
  -- items, values, data side by side
  have eenc : ∀ {l : List D} {ps : List PyData}, toPs l = some ps → l.map encD = ps := by
    intro l
    induction l with
    | nil => intro ps h; unfold toPs at h; cases h; rfl
    | cons d l ih =>
      intro ps h
      unfold toPs at h
      split at h
      · rename_i p ps' h1 h2
        cases h
        rw [List.map_cons, ih h2]
        unfold encD
        rw [h1]; rfl
      · cases h
  have e1 := eenc hp
  have hz1 : (l.zip vs).map (·.1) = l := List.map_fst_zip (by rw [rl.length]; exact Nat.le_refl _)
  have hz2 : (l.zip vs).map (·.2) = vs := List.map_snd_zip (by rw [rl.length]; exact Nat.le_refl _)
  have hze : (l.zip vs).map (fun b => encD b.1) = ps := by rw [← e1, ← hz1, List.map_map]; rw [hz1]; rfl
  have E1 : ∀ {zs : List (D × V)} {its : List Value}, Vals (zs.map (·.2)) its → PySem.W.EachIs (fun v (b : D × V) => RelV b.2 v) its zs := by
    intro zs
    induction zs with
    | nil => intro its h; cases h; exact .nil
    | cons z zs ih => intro its h; cases h with | cons r t => exact .cons r (ih t)
  have ea : PySem.W.EachIs (fun v (b : D × V) => RelV b.2 v) its (l.zip vs) := E1 (by rw [hz2]; exact rv)
  have er : PySem.W.EachIs (fun v (b : D × V) => ∃ as, Reads s.heap v (encD b.1) as) its (l.zip vs) := PySem.W.readsAll_each (fun b : D × V => encD b.1) (by rw [hze]; exact hr)
  have hlen : (l.zip vs).length = vs.length := by rw [← hz2, List.length_map, hz2]
  refine PySem.W.sorted_data (R := fun v (b : D × V) => RelV b.2 v) (enc := fun b : D × V => encD b.1) pl.isList ea er (by rw [hze]; exact hal) (by rw [hze]; exact hso) (by rw [hlen]; exact hz) (fun b hb => ?_) fun out hl2 ho => ?_
  · have : encD b.1 ∈ ps := by rw [← hze]; exact List.mem_map.mpr ⟨b, hb, rfl⟩
    have := depth_le_all this
    omega
  · obtain ⟨ep, he'⟩ := PyProof.Rows.sortedAll_at s.heap its (List.toArray out)
    have hs2 : ((l.zip vs).mergeSort (PySem.W.dataLe false fun b : D × V => encD b.1)).map (·.1) = sortD l := by
      unfold sortD
      rw [List.map_mergeSort (r := PySem.W.dataLe false fun b : D × V => encD b.1) (s := PySem.W.dataLe false encD) (f := (·.1)) (fun _ _ _ _ => rfl), hz1]
    have rel : ∀ {zs : List (D × V)}, (∀ z ∈ zs, RelD X.K g f H z.1 z.2) → RelDs X.K g f H (zs.map (·.1)) (zs.map (·.2)) := by
      intro zs
      induction zs with
      | nil => intro _; rfl
      | cons z zs ih => intro hz; exact ⟨z.2, _, rfl, hz z List.mem_cons_self, ih fun y hy => hz y (List.mem_cons_of_mem _ hy)⟩
    have relz : ∀ {l : List D} {vs : List V}, RelDs X.K g f H l vs → ∀ z ∈ l.zip vs, RelD X.K g f H z.1 z.2 := by
      intro l
      induction l with
      | nil => intro vs h z hz; simp at hz
      | cons d l ih =>
        intro vs h z hz
        obtain ⟨v, r, e, q, t⟩ := h
        subst e
        rcases List.mem_cons.mp hz with e | hz
        · rw [e]; exact q
        · exact ih t z hz
    have rr : RelDs X.K g f H (sortD l) (((l.zip vs).mergeSort (PySem.W.dataLe false fun b : D × V => encD b.1)).map (·.2)) := by
      rw [← hs2]
      exact rel fun z hz => relz rl z ((List.mergeSort_perm _ _).mem_iff.mp hz)
    refine ⟨.ref _, upd H (s.heap.objs.size + 1) (.lst _), I.laid (t' := s.toks) (fun _ _ => PyProof.Rows.sortedAll_old) (Nat.le_succ _) ⟨?_, out, ep, each_vals ho, he'⟩, rfl, q _ _ (I.hok.fresh (Nat.le_succ _)) rr⟩
    rw [List.length_map, (List.mergeSort_perm _ _).length_eq, hlen]
    exact hz
theorem nm_sorted (hu : X.A.units + 64 < cLine) (h : QM X e ml) (hg : Gl X "sorted") (hm : X.mg "sorted" = none) (hb : bootBuiltins "sorted" = some (.builtin "sorted") := by decide +kernel) (hs : starEach [e] X.env = (false, eval e X.env) :: starEach [] X.env := by rfl) (hpl : (backTo pos (starEach [] X.env)).any (·.1) = false := by rfl) :
    NM X (.Call (.Name "sorted" p) [e] [] pos) (mQL hSorted ml) :=
  PE.of (pe_callB (cr_sortedD hu) hg hm hb (b1 h hs) (by decide) (by decide) hs hpl) fun σ H Q q => qn_of (fun g f H S l d S' a vs Q s hq r hm q => by
    unfold hSorted at hm
    split at hm
    · rename_i ps hp
      split at hm
      · rename_i hc
        cases hm
        refine ⟨a, vs, l, ps, g, f, rfl, hq, r, hp, fun x hx y hy => ?_, sortableB_of hc.2.1, hc.2.2, fun t us ht rs => q.put s rs t ht⟩
        exact List.all_eq_true.mp (List.all_eq_true.mp hc.1 x hx) y hy
      · cases hm
    · cases hm) q

/-! ### list * n, list + list -/
def gRep : D → D → Store → R (List D)
  | .lst l, .int k, S => if -(2 ^ 63) ≤ k ∧ k < 2 ^ 63 ∧ l.length * k.toNat ≤ sizeLine then .ok (List.replicate k.toNat l).flatten S else .bad
  | _, _, _ => .bad
def gCatL : D → D → Store → R (List D)
  | .lst l, .lst m, S => if l.length + m.length ≤ sizeLine then .ok (l ++ m) S else .bad
  | _, _, _ => .bad
def n2 (h : D → D → Store → R (List D)) (a b : ME) : ML := fun ρ S => (a ρ S).bind fun x S1 => (b ρ S1).bind fun y S2 => h x y S2
theorem nop_of {r : R2} {h : D → D → Store → R (List D)} (od : ∀ (g f : List Addr) (H : Hp) (S : Store) (dx dy : D) (d : List D) (S' : Store) (x y : V) (Q : VK), RelS X.K g f H S → RelD X.K g f H dx x → RelD X.K g f H dy y → h dx dy S = .ok d S' → FinN X.K g f H d S' Q → r x y H Q)
    {σ : L2.St} {H : Hp} {Q : VK} (q : tN X.K (n2 h ma mb) σ H Q) : tOp r (tE X.K ma) (tE X.K mb) σ H Q := by
  obtain ⟨g, w, o, ρ, S, d, S', s, hm, q⟩ := q
  obtain ⟨x, S1, h1, hm⟩ := R.bind_ok hm
  obtain ⟨y, S2, h2, hm⟩ := R.bind_ok hm
  refine ⟨g, w, o, ρ, S, x, S1, s, h1, fun vx g1 H1 x1 s1 r1 => ?_⟩
  refine ⟨g1, w, o, ρ, S1, y, S2, s.ext x1 s1, h2, fun vy g2 H2 x2 s2 r2 => ?_⟩
  exact od g2 (w ++ o) H2 S2 x y d S' vx vy Q s2 (RelD.ext x2 x vx r1) r2 hm fun p vs g3 H3 x3 hp n3 e3 s3 r3 => q p vs g3 H3 ((x1.trans x2).trans x3) (back_none (x1.trans x2) hp) n3 e3 s3 r3
theorem rel_rep {K : PySem.W.Frag} {g f : List Addr} {H : Hp} {l : List D} {vs : List V} (r : RelDs K g f H l vs) : ∀ k : Nat, RelDs K g f H (List.replicate k l).flatten (List.replicate k vs).flatten
  | 0 => rfl
  | k + 1 => by
    rw [List.replicate_succ, List.replicate_succ, List.flatten_cons, List.flatten_cons]
    exact RelDs.append r (rel_rep r k)
theorem nm_rep (ha : EM X a ma) (hb : EM X b mb) : NM X (.BinOp a .Mult b pos) (n2 gRep ma mb) := PE.of (pe_op op_rep ha hb) fun σ H Q q => nop_of (fun g f H S dx dy d S' x y Q s rx ry hm q => by
  unfold gRep at hm
  split at hm
  · rename_i l k
    split at hm
    · rename_i hc
      cases hm
      obtain ⟨a, vs, ev, hr, r⟩ := rx
      exact ⟨a, k, vs, ev, ry, hr.2.2, hc.1, hc.2.1, by rw [← r.length]; exact hc.2.2, q.put s (rel_rep r _)⟩
    · cases hm
  · cases hm) q
theorem nm_cat (ha : EM X a ma) (hb : EM X b mb) : NM X (.BinOp a .Add b pos) (n2 gCatL ma mb) := PE.of (pe_op op_cat ha hb) fun σ H Q q => nop_of (fun g f H S dx dy d S' x y Q s rx ry hm q => by
  unfold gCatL at hm
  split at hm
  · rename_i l m
    split at hm
    · rename_i hc
      cases hm
      obtain ⟨a, vs, ev, hr, r⟩ := rx
      obtain ⟨a2, vs2, ev2, hr2, r2⟩ := ry
      exact ⟨a, a2, vs, vs2, ev, ev2, hr.2.2, hr2.2.2, by rw [← r.length, ← r2.length]; exact hc, q.put s (RelDs.append r r2)⟩
    · cases hm
  · cases hm) q
end
end Mo
set_option maxRecDepth 100000
set_option maxHeartbeats 1000000
/-! Mo: dicts as cells of the store, enumerate, append to a cell. -/
namespace Mo
open PySem PySem.Spec PyProof.Rows L2

section
variable {κ : Type} [DecidableEq κ]
def valA (l : List (κ × D)) (k : κ) : Option D := (l.find? fun kv => decide (kv.1 = k)).map (·.2)
def putA (l : List (κ × D)) (k : κ) (d : D) : List (κ × D) :=
  if (l.any fun kv => decide (kv.1 = k)) = true then l.map (fun kv => if kv.1 = k then (kv.1, d) else kv) else l ++ [(k, d)]
variable {K : PySem.W.Frag} {g f : List Addr} {H : Hp}
theorem RelKv.length : ∀ {l : List (κ × D)} {kvs : List (κ × V)}, RelKv K g f H l kvs → l.length = kvs.length
  | [], _, h => by cases h; rfl
  | p :: ps, _, ⟨v, r, e, _, t⟩ => by rw [e, List.length_cons, List.length_cons, RelKv.length t]
theorem RelKv.keys : ∀ {l : List (κ × D)} {kvs : List (κ × V)}, RelKv K g f H l kvs → kvs.map (·.1) = l.map (·.1)
  | [], _, h => by cases h; rfl
  | p :: ps, _, ⟨v, r, e, _, t⟩ => by rw [e, List.map_cons, List.map_cons, RelKv.keys t]
theorem RelKv.any {k : κ} : ∀ {l : List (κ × D)} {kvs : List (κ × V)}, RelKv K g f H l kvs → (kvs.any fun kv => decide (kv.1 = k)) = (l.any fun kv => decide (kv.1 = k))
  | [], _, h => by cases h; rfl
  | p :: ps, _, ⟨v, r, e, _, t⟩ => by rw [e, List.any_cons, List.any_cons, RelKv.any t]
theorem RelKv.val {k : κ} : ∀ {l : List (κ × D)} {kvs : List (κ × V)}, RelKv K g f H l kvs → (∀ d, valA l k = some d → ∃ v, valV kvs k = some v ∧ RelD K g f H d v) ∧ (valA l k = none → valV kvs k = none)
  | [], _, h => by cases h; exact ⟨(fun d e => nomatch e), (fun _ => rfl)⟩
  | p :: ps, _, ⟨v, r, e, q, t⟩ => by
    subst e
    obtain ⟨i1, i2⟩ := RelKv.val (k := k) t
    by_cases hk : p.1 = k
    · refine ⟨fun d hd => ⟨v, by simp [valV, List.find?_cons, hk], ?_⟩, fun hn => ?_⟩
      · simp [valA, List.find?_cons, hk] at hd
        subst hd
        exact q
      · simp [valA, List.find?_cons, hk] at hn
    · have e1 : valA (p :: ps) k = valA ps k := by simp [valA, List.find?_cons, hk]
      have e2 : valV ((p.1, v) :: r) k = valV r k := by simp [valV, List.find?_cons, hk]
      rw [e1, e2]
      exact ⟨i1, i2⟩
theorem RelKv.append {d : D} {v : V} {k : κ} : ∀ {l : List (κ × D)} {kvs : List (κ × V)}, RelKv K g f H l kvs → RelD K g f H d v → RelKv K g f H (l ++ [(k, d)]) (kvs ++ [(k, v)])
  | [], _, h, q => by cases h; exact ⟨v, [], rfl, q, rfl⟩
  | p :: ps, _, ⟨v', r, e, q', t⟩, q => by subst e; exact ⟨v', _, rfl, q', RelKv.append t q⟩
theorem RelKv.swap {d : D} {v : V} {k : κ} : ∀ {l : List (κ × D)} {kvs : List (κ × V)}, RelKv K g f H l kvs → RelD K g f H d v → RelKv K g f H (l.map fun kv => if kv.1 = k then (kv.1, d) else kv) (kvs.map fun kv => if kv.1 = k then (kv.1, v) else kv)
  | [], _, h, q => by cases h; rfl
  | p :: ps, _, ⟨v', r, e, q', t⟩, q => by
    subst e
    rw [List.map_cons, List.map_cons]
    by_cases hk : p.1 = k
    · rw [if_pos hk, if_pos hk]
      exact ⟨v, _, rfl, q, RelKv.swap t q⟩
    · rw [if_neg hk, if_neg hk]
      exact ⟨v', _, rfl, q', RelKv.swap t q⟩
theorem RelKv.put {l : List (κ × D)} {kvs : List (κ × V)} {d : D} {v : V} {k : κ} (r : RelKv K g f H l kvs) (q : RelD K g f H d v) : RelKv K g f H (putA l k d) (putK kvs k v) := by
  unfold putA putK
  rw [r.any]
  split
  · exact r.swap q
  · exact r.append q
end
def keyD : D → Option Key
  | .int i => some (.inl i)
  | .str x => some (.inr x)
  | _ => none
theorem keyD_rel {K : PySem.W.Frag} {g f : List Addr} {H : Hp} {d : D} {v : V} {k : Key} (r : RelD K g f H d v) (h : keyD d = some k) : v = kV k := by
  cases d <;> unfold keyD at h <;> first | cases h; done | skip
  · cases h; cases r; rfl
  · cases h; cases r; rfl
def dictAt (S : Store) : D → Option (List (Key × D))
  | .loc n => match S[n]? with
    | some (.dK l) => some l
    | _ => none
  | _ => none
theorem dictAt_of {S : Store} {d : D} {l : List (Key × D)} (h : dictAt S d = some l) : ∃ n, d = .loc n ∧ S[n]? = some (.dK l) := by
  cases d with
  | loc n =>
    dsimp only [dictAt] at h
    cases e : S[n]? with
    | none => rw [e] at h; cases h
    | some c =>
      rw [e] at h
      cases c with
      | dK l' => cases h; exact ⟨n, rfl, e⟩
      | lst _ => cases h
      | dT _ => cases h
      | dF _ => cases h
  | _ => cases h
/-- read, walked through or not -/
def dictR (S : Store) : D → Option (List (Key × D))
  | .loc n => match S[n]? with
    | some (.dK l) => some l
    | some (.dF l) => some l
    | _ => none
  | _ => none
theorem dictR_of {S : Store} {d : D} {l : List (Key × D)} (h : dictR S d = some l) : ∃ n, d = .loc n ∧ (S[n]? = some (.dK l) ∨ S[n]? = some (.dF l)) := by
  cases d with
  | loc n =>
    dsimp only [dictR] at h
    cases e : S[n]? with
    | none => rw [e] at h; cases h
    | some c =>
      rw [e] at h
      cases c with
      | dK l' => cases h; exact ⟨n, rfl, .inl e⟩
      | lst _ => cases h
      | dT _ => cases h
      | dF l' => cases h; exact ⟨n, rfl, .inr e⟩
  | _ => cases h
theorem RelS.rd {K : PySem.W.Frag} {g f : List Addr} {H : Hp} {S : Store} {n : Nat} {a : Addr} {l : List (Key × D)} (s : RelS K g f H S) (hn : S[n]? = some (.dK l) ∨ S[n]? = some (.dF l)) (hg : g[n]? = some a) : ∃ kvs, Rd H a (.dK kvs) ∧ RelKv K g f H l kvs := by
  rcases hn with hn | hn
  · obtain ⟨kvs, hH, r⟩ := s.cel n _ a hn hg
    exact ⟨kvs, .inl hH, r⟩
  · obtain ⟨kvs, hH, r⟩ := s.cel n _ a hn hg
    exact ⟨kvs, .inr hH, r⟩
section
variable {X : Cx} {e a b o i : Expr} {me ma mb mk mx mv mo : ME} {ml : ML} {l : MA} {pos p apos cpos : Pos}
def mDNewK : ME := fun _ S => .ok (.loc S.length) (S ++ [.dK []])
theorem em_dnewK : EM X (.Dict [] [] pos) mDNewK := PE.of pe_dnewK fun σ H Q ⟨g, w, o, ρ, S, d, S', s, hm, q⟩ => by
  cases hm
  intro p hp
  have x : Ext g H (g ++ [p]) (upd H p (.dK [])) := ⟨⟨[p], rfl, fun b hb => by rw [List.mem_singleton.mp hb]; exact hp⟩, fun a u h _ => (Ext.new (g := []) hp).keep a u h (by simp), (Ext.new (g := []) hp).live, (Ext.new (g := []) hp).tups, (Ext.new (g := []) hp).frz⟩
  exact q _ (g ++ [p]) _ x (((s.sto.fresh hp).new hp).addG (s.sto.noG hp) (c := .dK []) ⟨[], upd_same, rfl⟩) ⟨p, rfl, by rw [← s.sto.len]; exact List.getElem?_concat_length⟩
/-- d[k] -/
def gDGet : G2 := fun x y S => match dictR S x, keyD y with
  | some l, some k => match valA l k with
    | some d => .ok d S
    | none => .bad
  | _, _ => .bad
theorem em_dget (hu : X.A.units + 64 < cLine) (ho : EM X o mo) (hi : EM X i mk) (hs : NoSl i) : EM X (.Subscript o i pos) (m2 gDGet mo mk) :=
  PE.of (pe_dget (by omega) ho hi hs) fun σ H Q q => op_of (r := fun x y H Q => ∃ a v, x = V.ref a ∧ DGet H a y (some v) ∧ Q v H) (fun g f H S dx dy d S' x y Q s rx ry hm q => by
    unfold gDGet at hm
    split at hm
    · rename_i l k hl hk
      split at hm
      · rename_i d' hd
        cases hm
        obtain ⟨n, rfl, hn⟩ := dictR_of hl
        obtain ⟨a, ev, hg⟩ := rx
        obtain ⟨kvs, hH, r⟩ := s.rd hn hg
        obtain ⟨v, hv, rv⟩ := (r.val (k := k)).1 _ hd
        refine ⟨a, v, ev, ?_, q.same s rv⟩
        rw [keyD_rel ry hk, ← hv]
        exact .inl ⟨kvs, k, hH, rfl, rfl⟩
      · cases hm
    · cases hm) q
/-- d.get(k, x) -/
def mDGet2 (md mk mx : ME) : ME := fun ρ S => (md ρ S).bind fun c S1 => match dictR S1 c with
  | none => .bad
  | some _ => (mk ρ S1).bind fun y S2 => (mx ρ S2).bind fun z S3 => match dictR S3 c, keyD y with
    | some l, some k => .ok ((valA l k).getD z) S3
    | _, _ => .bad
theorem em_dget2 {f : Expr} (hu : X.A.units + 64 < cLine) (ho : EM X o mo) (he : EM X e mk) (hf : EM X f mx) (m : M2 X o "get" apos e f cpos) : EM X (.Call (.Attribute o "get" apos) [e, f] [] cpos) (mDGet2 mo mk mx) :=
  PE.of (pe_dget2 (by omega) ho he hf m) fun σ H Q ⟨g, w, o, ρ, S, d, S', s, hm, q⟩ => by
    obtain ⟨c, S1, h1, hm⟩ := R.bind_ok hm
    split at hm
    · cases hm
    rename_i l0 hl0
    obtain ⟨y, S2, h2, hm⟩ := R.bind_ok hm
    obtain ⟨z, S3, h3, hm⟩ := R.bind_ok hm
    split at hm
    · rename_i l k hl hk
      cases hm
      obtain ⟨n, rfl, hn0⟩ := dictR_of hl0
      obtain ⟨n', en, hn⟩ := dictR_of hl
      cases en
      refine ⟨g, w, o, ρ, S, _, S1, s, h1, fun vc g1 H1 x1 s1 ⟨a, ev, hg⟩ => ?_⟩
      obtain ⟨kvs0, hH0, _⟩ := s1.rd hn0 hg
      refine ⟨a, ev, .inl ⟨kvs0, hH0⟩, ?_⟩
      have t1 := s.ext x1 s1
      refine ⟨g1, w, o, ρ, S1, y, S2, t1, h2, fun vy g2 H2 x2 s2 r2 => ?_⟩
      refine ⟨g2, w, o, ρ, S2, z, _, t1.ext x2 s2, h3, fun vz g3 H3 x3 s3 r3 => ?_⟩
      obtain ⟨kvs, hH, r⟩ := s3.rd hn ((x2.trans x3).get hg)
      refine ⟨valV kvs k, ?_, q _ g3 H3 ((x1.trans x2).trans x3) s3 ?_⟩
      · rw [keyD_rel r2 hk]
        exact .inl ⟨kvs, k, hH, rfl, rfl⟩
      · cases hv : valA l k with
        | none => rw [(r.val (k := k)).2 hv]; exact r3
        | some d => obtain ⟨v, e, rv⟩ := (r.val (k := k)).1 d hv; rw [e]; exact rv
    · cases hm
/-- d[k] = v -/
def putDict (c y d : D) (S : Store) : Option Store := match c with
  | .loc n => match dictAt S (.loc n), keyD y with
    | some l, some k => if l.length < sizeLine then some (S.set n (.dK (putA l k d))) else none
    | _, _ => none
  | _ => none
theorem putDict_ok {c y d : D} {S S' : Store} (h : putDict c y d S = some S') : ∃ n l k, c = .loc n ∧ S[n]? = some (.dK l) ∧ keyD y = some k ∧ l.length < sizeLine ∧ S' = S.set n (.dK (putA l k d)) := by
  cases c with
  | loc n =>
    dsimp only [putDict] at h
    cases e1 : dictAt S (.loc n) with
    | none => rw [e1] at h; cases h
    | some l =>
      cases e2 : keyD y with
      | none => rw [e1, e2] at h; cases h
      | some k =>
        rw [e1, e2] at h
        dsimp only at h
        split at h
        · rename_i hz
          cases h
          obtain ⟨n', en, hn⟩ := dictAt_of e1
          cases en
          exact ⟨n, l, k, rfl, hn, rfl, hz, rfl⟩
        · cases h
  | _ => cases h
def mDPut (md mk mv : ME) : MS := fun ρ S => (mv ρ S).bind fun d S1 => (md ρ S1).bind fun c S2 => (mk ρ S2).bind fun y S3 => match putDict c y d S3 with
  | some S4 => .ok (.nx ρ) S4
  | none => .bad
theorem sm_dput {value : Expr} {pos' : Pos} (hu : X.A.units + 64 < cLine) (ho : EM X o mo) (hi : EM X i mk) (hv : EM X value mv) (hs : swapsWith value (some (.Subscript o i pos')) pos.line X.env = pure false := by rfl) :
    SM X (.Assign [.Subscript o i pos'] value pos) (mDPut mo mk mv) := PS.of (ps_dput (by omega) ho hi hv hs) fun E σ H ⟨g, w, o, ρ, S, fl, S', s, hm, q⟩ => by
  obtain ⟨d, S1, h1, hm1⟩ := R.bind_ok hm
  obtain ⟨c, S2, h2, hm2⟩ := R.bind_ok hm1
  obtain ⟨y, S3, h3, hm3⟩ := R.bind_ok hm2
  split at hm3
  · rename_i S4 hp
    cases hm3
    obtain ⟨n, l, k, rfl, hn, hk, hz, rfl⟩ := putDict_ok hp
    refine ⟨g, w, o, ρ, S, d, S1, s, h1, fun v g1 H1 x1 s1 r1 => ?_⟩
    have t1 := s.ext x1 s1
    refine ⟨g1, w, o, ρ, S1, _, S2, t1, h2, fun vc g2 H2 x2 s2 r2 => ?_⟩
    have t2 := t1.ext x2 s2
    refine ⟨g2, w, o, ρ, S2, y, S3, t2, h3, fun vy g3 H3 x3 s3 r3 => ?_⟩
    have t3 := t2.ext x3 s3
    obtain ⟨a, ea, hg⟩ := RelD.ext x3 _ _ r2
    obtain ⟨kvs, hH, r⟩ := s3.cel n _ a hn hg
    have mD : Mut (H3 a) := by rw [hH]; trivial
    have gD : a ∈ g3 := List.mem_of_getElem? hg
    have rv := RelD.ext (x2.trans x3) d v r1
    refine ⟨a, upd H3 a (.dK (putK kvs k v)), ea, ?_, ?_⟩
    · rw [keyD_rel r3 hk]
      exact DPut.k hH (by rw [← r.length]; exact hz)
    · have x4 : Ext g3 H3 g3 (upd H3 a (.dK (putK kvs k v))) := .updG mD gD
      have s4 := s3.updG (c := .dK (putA l k d)) (u := .dK (putK kvs k v)) mD hg ⟨_, upd_same, RelKv.upd mD (.inr gD) _ _ (r.put rv)⟩
      exact q g3 o _ (((x1.trans x2).trans x3).trans x4).s σ (t3.ext x4 s4)
  · cases hm3
/-- d.setdefault(k, x) -/
def setDef (c y z : D) (S : Store) : R D := match c with
  | .loc n => match dictAt S (.loc n), keyD y with
    | some l, some k => if l.length < sizeLine then (match valA l k with
      | some d => .ok d S
      | none => .ok z (S.set n (.dK (putA l k z)))) else .bad
    | _, _ => .bad
  | _ => .bad
theorem setDef_ok {c y z d : D} {S S' : Store} (h : setDef c y z S = .ok d S') : ∃ n l k, c = .loc n ∧ S[n]? = some (.dK l) ∧ keyD y = some k ∧ l.length < sizeLine ∧ ((valA l k = some d ∧ S' = S) ∨ (valA l k = none ∧ d = z ∧ S' = S.set n (.dK (putA l k z)))) := by
  cases c with
  | loc n =>
    dsimp only [setDef] at h
    cases e1 : dictAt S (.loc n) with
    | none => rw [e1] at h; cases h
    | some l =>
      cases e2 : keyD y with
      | none => rw [e1, e2] at h; cases h
      | some k =>
        rw [e1, e2] at h
        dsimp only at h
        split at h
        · rename_i hz
          obtain ⟨n', en, hn⟩ := dictAt_of e1
          cases en
          refine ⟨n, l, k, rfl, hn, rfl, hz, ?_⟩
          cases e3 : valA l k with
          | some d' => rw [e3] at h; cases h; exact .inl ⟨rfl, rfl⟩
          | none => rw [e3] at h; cases h; exact .inr ⟨rfl, rfl, rfl⟩
        · cases h
  | _ => cases h
def mDSet (md mk mx : ME) : ME := fun ρ S => (md ρ S).bind fun c S1 => match dictAt S1 c with
  | none => .bad
  | some _ => (mk ρ S1).bind fun y S2 => (mx ρ S2).bind fun z S3 => setDef c y z S3
theorem em_dsetd {f : Expr} (ho : EM X o mo) (he : EM X e mk) (hf : EM X f mx) (m : M2 X o "setdefault" apos e f cpos) : EM X (.Call (.Attribute o "setdefault" apos) [e, f] [] cpos) (mDSet mo mk mx) :=
  PE.of (pe_dsetd ho he hf m) fun σ H Q ⟨g, w, o, ρ, S, d, S', s, hm, q⟩ => by
    obtain ⟨c, S1, h1, hm1⟩ := R.bind_ok hm
    split at hm1
    · cases hm1
    rename_i l0 hl0
    obtain ⟨y, S2, h2, hm2⟩ := R.bind_ok hm1
    obtain ⟨z, S3, h3, hm3⟩ := R.bind_ok hm2
    obtain ⟨n, l, k, rfl, hn, hk, hz, hor⟩ := setDef_ok hm3
    obtain ⟨n0, en0, hn0⟩ := dictAt_of hl0
    cases en0
    refine ⟨g, w, o, ρ, S, _, S1, s, h1, fun vc g1 H1 x1 s1 ⟨a, ev, hg⟩ => ?_⟩
    obtain ⟨kvs0, hH0, _⟩ := s1.cel n _ a hn0 hg
    refine ⟨a, ev, .inl ⟨kvs0, .inl hH0⟩, ?_⟩
    have t1 := s.ext x1 s1
    refine ⟨g1, w, o, ρ, S1, y, S2, t1, h2, fun vy g2 H2 x2 s2 r2 => ?_⟩
    refine ⟨g2, w, o, ρ, S2, z, S3, t1.ext x2 s2, h3, fun vz g3 H3 x3 s3 r3 => ?_⟩
    have hg3 := (x2.trans x3).get hg
    obtain ⟨kvs, hH, r⟩ := s3.cel n _ a hn hg3
    have mD : Mut (H3 a) := by rw [hH]; trivial
    have gD : a ∈ g3 := List.mem_of_getElem? hg3
    refine ⟨kvs, k, hH, keyD_rel r2 hk, by rw [← r.length]; exact hz, fun v hv => ?_, fun hv => ?_⟩
    · rcases hor with ⟨hva, rfl⟩ | ⟨hva, _, _⟩
      · obtain ⟨v', e', rv⟩ := (r.val (k := k)).1 d hva
        rw [hv] at e'
        cases e'
        exact q v g3 H3 ((x1.trans x2).trans x3) s3 rv
      · rw [(r.val (k := k)).2 hva] at hv; cases hv
    · rcases hor with ⟨hva, _⟩ | ⟨hva, rfl, rfl⟩
      · obtain ⟨v', e', rv⟩ := (r.val (k := k)).1 d hva
        rw [hv] at e'; cases e'
      · have x4 : Ext g3 H3 g3 (upd H3 a (.dK (putK kvs k vz))) := .updG mD gD
        have s4 := s3.updG (c := .dK (putA l k d)) (u := .dK (putK kvs k vz)) mD hg3 ⟨_, upd_same, RelKv.upd mD (.inr gD) _ _ (r.put r3)⟩
        exact q vz g3 _ (((x1.trans x2).trans x3).trans x4) s4 (RelD.ext x4 _ _ r3)
/-- e.append(x), e a list of the store -/
def appC (c d : D) (S : Store) : Option Store := match c with
  | .loc n => match locD (.loc n) S with
    | .ok l _ => if l.length < sizeLine then some (S.set n (.lst (l ++ [d]))) else none
    | .bad => none
  | _ => none
theorem appC_ok {c d : D} {S S' : Store} (h : appC c d S = some S') : ∃ n l, c = .loc n ∧ S[n]? = some (.lst l) ∧ l.length < sizeLine ∧ S' = S.set n (.lst (l ++ [d])) := by
  cases c with
  | loc n =>
    dsimp only [appC] at h
    cases e : locD (.loc n) S with
    | bad => rw [e] at h; cases h
    | ok l S1 =>
      rw [e] at h
      dsimp only at h
      split at h
      · rename_i hz
        cases h
        obtain ⟨n2, en, hn, _⟩ := locD_ok e
        cases en
        exact ⟨n, l, rfl, hn, hz, rfl⟩
      · cases h
  | _ => cases h
def isLoc (c : D) (S : Store) : Bool := match locD c S with
  | .ok _ _ => true
  | .bad => false
theorem isLoc_of {c : D} {S : Store} (h : isLoc c S = true) : ∃ n l, c = .loc n ∧ S[n]? = some (.lst l) := by
  unfold isLoc at h
  cases e : locD c S with
  | bad => rw [e] at h; cases h
  | ok l S1 => obtain ⟨n, e1, e2, _⟩ := locD_ok e; exact ⟨n, l, e1, e2⟩
def mAppC (mo me : ME) : MS := fun ρ S => (mo ρ S).bind fun c S1 => if isLoc c S1 = true then (me ρ S1).bind fun d S2 => match appC c d S2 with
    | some S3 => .ok (.nx ρ) S3
    | none => .bad
  else .bad
theorem sm_appC {spos : Pos} (ho : EM X o mo) (ha : EM X e me) (hbase : attributeBase o "append" X.env (eval o X.env) = eval o X.env := by rfl)
    (hfew : ((backTo cpos (starEach [e] X.env)).all (fun x => !x.1) && (backToKw cpos (keywordEach [] X.env)).all (fun x => x.1.isSome) && decide ([e].length + ([] : List Keyword).length + (if ([] : List Keyword).isEmpty then 0 else 1) < 30)) = true := by rfl)
    (hline : (apos.endLine == cpos.line) = true := by rfl) (hs : starEach [e] X.env = (false, eval e X.env) :: starEach [] X.env := by rfl) (hplain : (backTo cpos (starEach [] X.env)).any (·.1) = false := by rfl)
    (hsw : swapsWith (.Call (.Attribute o "append" apos) [e] [] cpos) none spos.line X.env = pure false := by rfl) : SM X (.Expr (.Call (.Attribute o "append" apos) [e] [] cpos) spos) (mAppC mo me) :=
  PS.of (ps_expr (pe_bm PySem.F.plainAttrs_list PySem.F.slot_list_append PySem.F.type_list_append mt_append ho (pa_cons ha pa_nil hs) hbase hfew hline hs hplain) hsw) fun E σ H ⟨g, w, o, ρ, S, fl, S', s, hm, q⟩ => by
    obtain ⟨c, S1, h1, hm1⟩ := R.bind_ok hm
    split at hm1
    · rename_i hloc
      obtain ⟨d, S2, h2, hm2⟩ := R.bind_ok hm1
      split at hm2
      · rename_i S3 hp
        cases hm2
        obtain ⟨n, l, rfl, hn, hz, rfl⟩ := appC_ok hp
        obtain ⟨n1, l1, en, hn1⟩ := isLoc_of hloc
        cases en
        refine ⟨g, w, o, ρ, S, _, _, s, h1, fun vc g1 H1 x1 s1 ⟨a, ev, hg⟩ => ?_⟩
        obtain ⟨vs1, hH1, _⟩ := s1.cel n _ a hn1 hg
        subst ev
        refine ⟨.inl ⟨rfl, vs1, .of hH1⟩, ?_⟩
        have t1 := s.ext x1 s1
        refine ⟨g1, w, o, ρ, _, d, _, t1, h2, fun v g2 H2 x2 s2 r2 => ?_⟩
        have t2 := t1.ext x2 s2
        have hg2 := x2.get hg
        obtain ⟨vs, hH, r⟩ := s2.cel n _ a hn hg2
        have mD : Mut (H2 a) := by rw [hH]; trivial
        have gD : a ∈ g2 := List.mem_of_getElem? hg2
        have x4 : Ext g2 H2 g2 (upd H2 a (.lst (vs ++ [v]))) := .updG mD gD
        have s4 := s2.updG (c := .lst (l ++ [d])) (u := .lst (vs ++ [v])) mD hg2 ⟨_, upd_same, RelDs.upd mD (.inr gD) _ _ (RelDs.append r ⟨v, [], rfl, r2, rfl⟩)⟩
        exact ⟨a, vs, v, rfl, rfl, hH, by rw [← r.length]; exact hz, q g2 o _ ((x1.trans x2).trans x4).s σ (t2.ext x4 s4)⟩
      · cases hm2
    · cases hm1
/-- sorted(d): its keys, numbers -/
def intKeys : List (Key × D) → Option (List Int)
  | [] => some []
  | (.inl k, _) :: r => (intKeys r).map (k :: ·)
  | _ => none
def sortI (l : List Int) : List Int := l.mergeSort fun a b => decide (a ≤ b)
theorem intKeys_of : ∀ {l : List (Key × D)} {ks : List Int}, intKeys l = some ks → l.map (·.1) = ks.map Sum.inl
  | [], _, h => by unfold intKeys at h; cases h; rfl
  | (.inl k, d) :: r, _, h => by
    unfold intKeys at h
    cases e : intKeys r with
    | none => rw [e] at h; cases h
    | some ks => rw [e] at h; cases h; rw [List.map_cons, List.map_cons, intKeys_of e]
  | (.inr k, d) :: r, _, h => by unfold intKeys at h; cases h
def hSortedDI (d : D) (S : Store) : R (List D) := match dictR S d with
  | some l => match intKeys l with
    | some ks => if ks.length < 64 then .ok ((sortI ks).map .int) S else .bad
    | none => .bad
  | none => .bad
theorem sorted_one : ∀ {xs ys : List Int}, xs.Perm ys → xs.Pairwise (· ≤ ·) → ys.Pairwise (· ≤ ·) → xs = ys := fun {xs ys} hp h1 h2 =>
  hp.eq_of_pairwise (fun a b _ _ h h' => Int.le_antisymm h h') h1 h2
theorem nm_sortedDI (hc : X.calm = true) (h : EM X e me) (hg : Gl X "sorted") (hm : X.mg "sorted" = none) (hb : bootBuiltins "sorted" = some (.builtin "sorted") := by decide +kernel) (hs : starEach [e] X.env = (false, eval e X.env) :: starEach [] X.env := by rfl) (hpl : (backTo pos (starEach [] X.env)).any (·.1) = false := by rfl) :
    NM X (.Call (.Name "sorted" p) [e] [] pos) (fun ρ S => (me ρ S).bind hSortedDI) :=
  PE.of (pe_callB (call_sortedDI hc) hg hm hb (b1 h hs) (by decide) (by decide) hs hpl) fun σ H Q ⟨g, w, o, ρ, S, d, S', s, hm, q⟩ => by
    obtain ⟨c, S1, h1, h2⟩ := R.bind_ok hm
    refine ⟨g, w, o, ρ, S, c, S1, s, h1, fun v g1 H1 x1 s1 r1 => ?_⟩
    unfold hSortedDI at h2
    split at h2
    · rename_i l hl
      split at h2
      · rename_i ks hk
        split at h2
        · rename_i h64
          cases h2
          obtain ⟨n, rfl, hn⟩ := dictR_of hl
          obtain ⟨a, ev, hgn⟩ := r1
          obtain ⟨kvs, hH, r⟩ := s1.rd hn hgn
          subst ev
          refine ⟨a, kvs, ks, rfl, hH, by rw [r.keys, intKeys_of hk], h64, fun ys t hp hw ht => ?_⟩
          have e1 : ys = sortI ks := sorted_one (hp.trans (List.mergeSort_perm _ _).symm) hw (by
            have := List.pairwise_mergeSort (le := fun a b : Int => decide (a ≤ b)) (fun a b c h1 h2 => by simp at *; omega) (fun a b => by simp; omega) ks
            exact this.imp fun h => by simpa using h)
          subst e1
          have q' : FinN X.K g1 (w ++ o) H1 ((sortI ks).map .int) _ Q := fun p vs g2 H2 x2 hp n2 e2 s2 r2 => q p vs g2 H2 (x1.trans x2) (back_none x1 hp) n2 e2 s2 r2
          exact q'.put s1 (rel_ints _) t ht
        · cases h2
      · cases h2
    · cases h2
/-- enumerate(list) -/
def enumD : Nat → List D → List D
  | _, [] => []
  | k, d :: ds => .tup [.int (k : Nat), d] :: enumD (k + 1) ds
theorem enumD_get : ∀ {l : List D} {k i : Nat} {d : D}, (enumD k l)[i]? = some d → ∃ e, l[i]? = some e ∧ d = .tup [.int ((k + i : Nat) : Int), e]
  | [], _, i, _, h => by simp [enumD] at h
  | d :: ds, k, 0, _, h => by simp [enumD] at h; exact ⟨d, rfl, h.symm⟩
  | d :: ds, k, i + 1, _, h => by
    obtain ⟨e, h1, h2⟩ := enumD_get (l := ds) (k := k + 1) (i := i) (by simpa [enumD] using h)
    exact ⟨e, by simpa using h1, by rw [h2, show k + 1 + i = k + (i + 1) by omega]⟩
theorem enumD_length : ∀ (l : List D) (k : Nat), (enumD k l).length = l.length
  | [], _ => rfl
  | d :: ds, k => by rw [enumD, List.length_cons, List.length_cons, enumD_length ds]
theorem Walks.enum {K : PySem.W.Frag} {g w o : List Addr} {H : Hp} {a : Addr} {vs : List V} {l : List D} (hr : RestL g (w ++ o) H a vs) (r : RelDs K g (w ++ o) H l vs) : Walks K g w o H (Ite K a) (enumD 0 l) where
  item := fun i d g1 o1 H1 h x => by
    have q := hr.extS x
    have r1 := RelDs.extS x l vs r
    obtain ⟨e, h1, h2⟩ := enumD_get h
    obtain ⟨v, ev, rv⟩ := r1.get h1
    refine ⟨⟨vs, v, q.sq, ev⟩, fun y H2 ⟨T, z, ey, hT, eH, hz⟩ => ?_⟩
    have := hz vs q.sq
    rw [ev] at this
    cases this
    subst ey; subst eH; subst h2
    refine ⟨.new hT, T, _, rfl, .inl (.inl upd_same), .int _, _, rfl, ?_, v, [], rfl, RelD.ext (.new hT) e v rv, rfl⟩
    show V.int _ = V.int _
    rw [Nat.zero_add]
  stop := fun i g1 o1 H1 h x => ⟨vs, (hr.extS x).sq, by rw [← r.length, ← enumD_length l 0]; exact h⟩
def iEnumM (m : ME) : ML := fun ρ S => (m ρ S).bind fun d S1 => (seqD d S1).bind fun l S2 => .ok (enumD 0 l) S2
theorem im_enum {elts : List Expr} {kk : Nat} {tpos : Pos} (h : EM X e me) (hg : Gl X "enumerate") (hm : X.mg "enumerate" = none) (hs : starEach [e] X.env = [(false, eval e X.env)] := by rfl) : IM X (.Tuple elts kk tpos) (.Call (.Name "enumerate" p) [e] [] pos) (iEnumM me) :=
  PI.of (pi_enum hg hm (b1 h hs) hs) fun σ H Rr ⟨g, w, o, ρ, S, l, S', s, hm, q⟩ => by
    obtain ⟨d, S1, h1, hm⟩ := R.bind_ok hm
    obtain ⟨l', S2, h2, hm⟩ := R.bind_ok hm
    obtain ⟨rfl, rfl⟩ := seqD_ok h2
    cases hm
    exact ⟨g, w, o, ρ, S, _, _, s, h1, fun v g1 H1 x1 s1 ⟨a, vs, ev, hr, r⟩ => by subst ev; exact ⟨a, vs, rfl, hr.sq, q g1 H1 _ x1 s1 (.enum hr r)⟩⟩
/-- what is walked, a list or a tuple -/
def iSeqD : D → Store → R (List D)
  | .lst l, S => .ok l S
  | .tup l, S => .ok l S
  | _, _ => .bad
def iSeq (m : ME) : ML := fun ρ S => (m ρ S).bind iSeqD
theorem im_seq {tg : Expr} (h : EM X e me) : IM X tg e (iSeq me) := ⟨fun pins s σ H Rr I ⟨g, w, o, ρ, S, l, S', st, hm, q⟩ => by
  obtain ⟨d, S1, h1, h2⟩ := R.bind_ok hm
  cases d <;> first | cases h2; done | skip
  · cases h2
    exact (im_tup (tg := tg) h).run pins s σ H Rr I ⟨g, w, o, ρ, S, l, S', st, by unfold iTup; rw [h1]; rfl, q⟩
  · cases h2
    exact (im_list (tg := tg) h).run pins s σ H Rr I ⟨g, w, o, ρ, S, l, S', st, by unfold iLst; rw [h1]; rfl, q⟩⟩
/-- len of a value -/
def gLen (d : D) (S : Store) : R D := match d with
  | .tup l => .ok (.int l.length) S
  | .lst l => .ok (.int l.length) S
  | .scr l => .ok (.int l.length) S
  | .loc n => match S[n]? with
    | some (.lst l) => .ok (.int l.length) S
    | _ => .bad
  | _ => .bad
theorem em_lenV (h : EM X e me) (hg : Gl X "len") (hm : X.mg "len" = none) (hs : starEach [e] X.env = (false, eval e X.env) :: starEach [] X.env := by rfl) (hpl : (backTo pos (starEach [] X.env)).any (·.1) = false := by rfl) : EM X (.Call (.Name "len" p) [e] [] pos) (mB1 gLen me) :=
  PE.of (pe_callB call_len_seq hg hm PySem.boot_len (b1 h hs) (by decide) (by decide) hs hpl) fun σ H Q ⟨g, w, o, ρ, S, d, S', s, hm, q⟩ => by
    obtain ⟨c, S1, h1, h2⟩ := R.bind_ok hm
    refine ⟨g, w, o, ρ, S, c, S1, s, h1, fun v g1 H1 x1 s1 r1 => ?_⟩
    cases c with
    | tup l => cases h2; obtain ⟨a, vs, ev, hr, r⟩ := r1; subst ev; exact ⟨a, vs, rfl, .inr hr, by rw [← r.length]; exact q _ g1 H1 x1 s1 rfl⟩
    | lst l => cases h2; obtain ⟨a, vs, ev, hr, r⟩ := r1; subst ev; exact ⟨a, vs, rfl, .inl hr.sq, by rw [← r.length]; exact q _ g1 H1 x1 s1 rfl⟩
    | scr l =>
      cases h2; obtain ⟨a, ev, hr⟩ := r1; subst ev
      refine ⟨a, _, rfl, .inl hr.sq, ?_⟩
      rw [List.length_map]
      exact q _ g1 H1 x1 s1 rfl
    | loc n =>
      obtain ⟨a, ev, hg⟩ := r1
      subst ev
      dsimp only [gLen] at h2
      cases en : S1[n]? with
      | none => rw [en] at h2; cases h2
      | some c =>
        rw [en] at h2
        cases c with
        | lst l => cases h2; obtain ⟨vs, hH, r⟩ := s1.cel n _ a en hg; exact ⟨a, vs, rfl, .inl (.of hH), by rw [← r.length]; exact q _ g1 H1 x1 s1 rfl⟩
        | dK l => cases h2
        | dT l => cases h2
        | dF l => cases h2
    | _ => cases h2
end
end Mo
set_option maxRecDepth 100000
set_option maxHeartbeats 1000000
/-! Mo: what a generated text names. -/
namespace Mo
open PySem PySem.Spec PyProof.Rows L2

/-- a def of the program, with its meaning -/
structure Own (P : Program) (w : World) (K : PySem.W.Frag) (mg : Str → Option Value) (base : Heap) (k n : Nat) (x : Str) (ps : List Str) (a : Addr) (fd : FuncData) (m : MF) : Prop where
  at_ : mg x = some (.ref a)
  kp : PySem.W.keepIn K (.ref a) = true
  ok : FnG P w K mg base CX0 k a fd ps (spM K n m)
/-- places among the positional values and, behind them, the keywords' -/
def pickIx (ix : List Nat) {α : Type} (us ws : List α) : List α := ix.filterMap fun i => (us ++ ws)[i]?
theorem vals_pick {xs : List V} {ys : List Value} (r : Vals xs ys) : ∀ ix : List Nat, Vals (ix.filterMap fun i => xs[i]?) (ix.filterMap fun i => ys[i]?)
  | [] => .nil
  | i :: ix => by
    cases e : xs[i]? with
    | none =>
      have e2 := r.none_of e
      rw [List.filterMap_cons_none e, List.filterMap_cons_none e2]
      exact vals_pick r ix
    | some x =>
      obtain ⟨u, e2, ru⟩ := r.get e
      rw [List.filterMap_cons_some e, List.filterMap_cons_some e2]
      exact .cons ru (vals_pick r ix)
theorem rel_pick {K : PySem.W.Frag} {g f : List Addr} {H : Hp} {xs : List D} {ys : List V} (r : RelDs K g f H xs ys) : ∀ ix : List Nat, RelDs K g f H (ix.filterMap fun i => xs[i]?) (ix.filterMap fun i => ys[i]?)
  | [] => rfl
  | i :: ix => by
    cases e : xs[i]? with
    | none =>
      have e2 : ys[i]? = none := by
        rw [List.getElem?_eq_none_iff] at e ⊢
        rw [← r.length]; exact e
      rw [List.filterMap_cons_none e, List.filterMap_cons_none e2]
      exact rel_pick r ix
    | some x =>
      obtain ⟨v, e2, rv⟩ := r.get e
      rw [List.filterMap_cons_some e, List.filterMap_cons_some e2]
      exact ⟨v, _, rfl, rv, rel_pick r ix⟩
theorem mix_of {fd : FuncData} {ps ks : List Str} {np : Nat} (ix : List Nat) (to : ∀ us ws : List Value, us.length = np → ws.length = ks.length → bindArgs fd ⟨us, ks.zip ws⟩ = pure (ps.zip (pickIx ix us ws))) : Mix fd ps ks np (pickIx ix) where
  to := to
  map := fun vs zs us ws r1 r2 _ _ => vals_pick (r1.append r2) ix
  rel := fun K g f H ds es vs zs r1 r2 _ _ => rel_pick (RelDs.append r1 r2) ix
section
variable {X : Cx} {k n : Nat} {a : Addr} {fd : FuncData} {ps : List Str} {x : Str} {p pos : Pos} {e : Expr} {es : List Expr} {l : MA} {m : MF}
theorem em_own (C : Own X.prog X.w X.K X.mg X.base k n x ps a fd m) (B : Binds X.K fd ps []) (hgd : X.A.guards = some []) (hr : Room k X.A) (hg : Gl X x) (ha : AM X (e :: es) l) (hdb : (x == ("__debug__" : Str)) = false := by decide)
    (he : starEach (e :: es) X.env = (false, eval e X.env) :: starEach es X.env := by rfl) (hpl : (backTo pos (starEach es X.env)).any (·.1) = false := by rfl) : EM X (.Call (.Name x p) (e :: es) [] pos) (mCall m n [] l) :=
  em_call C.ok hgd hr hg C.at_ C.kp B .nil (fun _ _ _ _ => rfl) ha hdb he hpl
variable {kws : List Keyword} {ks : List Str} {lk : MA} {np : Nat} {ix : List Nat}
theorem em_ownK (C : Own X.prog X.w X.K X.mg X.base k n x ps a fd m) (B : Mix fd ps ks np (pickIx ix)) (hgd : X.A.guards = some []) (hr : Room k X.A) (hg : Gl X x) (ha : AM X (e :: es) l) (hkw : KM X kws lk) (hall : (backToKw pos (keywordEach kws X.env)).all (·.1.isSome) = true := by rfl)
    (hks : (backToKw pos (keywordEach kws X.env)).filterMap (·.1) = ks := by rfl) (hdb : (x == ("__debug__" : Str)) = false := by decide) (he : starEach (e :: es) X.env = (false, eval e X.env) :: starEach es X.env := by rfl)
    (hpl : ((backTo pos (starEach (e :: es) X.env)).any (·.1) || (backToKw pos (keywordEach kws X.env)).any (·.1.isNone)) = false := by rfl) : EM X (.Call (.Name x p) (e :: es) kws pos) (mCallK m n np ks.length (pickIx ix) l lk) :=
  em_callK C.ok hgd hr hg C.at_ C.kp B ha hkw hall hks hdb he hpl
theorem em_ownK0 (C : Own X.prog X.w X.K X.mg X.base k n x ps a fd m) (B : Mix fd ps ks 0 (pickIx ix)) (hgd : X.A.guards = some []) (hr : Room k X.A) (hg : Gl X x) (hkw : KM X kws lk) (hall : (backToKw pos (keywordEach kws X.env)).all (·.1.isSome) = true := by rfl)
    (hks : (backToKw pos (keywordEach kws X.env)).filterMap (·.1) = ks := by rfl) (hdb : (x == ("__debug__" : Str)) = false := by decide)
    (hpl : ((backTo pos (starEach [] X.env)).any (·.1) || (backToKw pos (keywordEach kws X.env)).any (·.1.isNone)) = false := by rfl) : EM X (.Call (.Name x p) [] kws pos) (mCallK m n 0 ks.length (pickIx ix) aNil lk) :=
  em_callK0 C.ok hgd hr hg C.at_ C.kp B hkw hall hks hdb hpl
end
/-- room for data: what built-ins ask -/
theorem hu64 {A : Around} {k : Nat} (hr : Room k A) : A.units + 64 < cLine := hr.units
/-- an own list rests -/
def restAt (i : Nat) (ρ : MEnv) : MEnv := match ρ[i]? with
  | some (some (.own (.lst l))) => ρ.set i (some (.val (.lst l)))
  | _ => ρ
theorem rest_ok {K : PySem.W.Frag} {g w o : List Addr} {ρ : MEnv} {S : Store} {σ : L2.St} {H : Hp} (i : Nat) (s : Sta K g w o ρ S σ H) : ∃ o', (∀ a ∈ o', a ∈ o) ∧ Sta K g w o' (restAt i ρ) S σ H := by
  unfold restAt
  split
  · rename_i l hl
    obtain ⟨p, e1, m, vs, hH, r⟩ := s.own i _ hl
    have hi := lt_of_get hl
    refine ⟨o.filter (fun a => decide (a ≠ p)), fun a h => (List.mem_filter.mp h).1, ?_⟩
    have sub : ∀ b ∈ w ++ o.filter (fun a => decide (a ≠ p)), b ∈ w ++ o := fun b hb => by
      rcases List.mem_append.mp hb with h | h
      · exact List.mem_append_left _ h
      · exact List.mem_append_right _ (List.mem_filter.mp h).1
    have back : ∀ {j : Nat} {c : Cell}, (ρ.set i (some (.val (.lst l))))[j]? = some (some (Slot.own c)) → i ≠ j ∧ ρ[j]? = some (some (Slot.own c)) := fun {j c} h => by
      by_cases hj : i = j
      · subst hj; rw [List.getElem?_set_self hi] at h; cases h
      · rw [List.getElem?_set_ne hj] at h; exact ⟨hj, h⟩
    refine ⟨by rw [List.length_set]; exact s.len, fun j d h => ?_, fun j c h => ?_, fun j k c d a h1 h2 h3 h4 => s.inj j k c d a (back h1).2 (back h2).2 h3 h4, fun a h => s.out a (List.mem_filter.mp h).1, fun a h => s.liv a (sub a h), s.sto.less sub⟩
    · by_cases hj : i = j
      · subst hj
        rw [List.getElem?_set_self hi] at h
        cases h
        refine ⟨.ref p, e1, p, vs, rfl, ⟨(s.out p m).1, fun z => ?_, hH⟩, RelDs.less sub _ _ r⟩
        rcases List.mem_append.mp z with z | z
        · exact (s.out p m).2 z
        · have := (List.mem_filter.mp z).2
          simp at this
      · rw [List.getElem?_set_ne hj] at h
        obtain ⟨v, e2, r2⟩ := s.val j d h
        exact ⟨v, e2, RelD.less sub _ _ r2⟩
    · obtain ⟨hj, h⟩ := back h
      obtain ⟨a, e2, m2, r2⟩ := s.own j c h
      refine ⟨a, e2, List.mem_filter.mpr ⟨m2, decide_eq_true fun e => ?_⟩, r2.less sub⟩
      subst e
      exact hj (s.inj i j _ _ a hl h e1 e2)
  · exact ⟨o, fun _ h => h, s⟩
def mRest (i : Nat) (m : MS) : MS := fun ρ S => m (restAt i ρ) S
theorem ssm_rest {X : Cx} {sts : List Stmt} {m : MS} (i : Nat) (h : SsM X sts m) : SsM X sts (mRest i m) := ssm_ghost (gh := restAt i) h fun _ _ _ _ _ _ _ s => rest_ok i s
end Mo
set_option maxRecDepth 100000
/-! Mo: how meanings are reckoned (for simp). -/
namespace Mo
open L2
@[simp] theorem bind_ok_eq {α β : Type} (a : α) (S : Store) (f : α → Store → R β) : (R.ok a S).bind f = f a S := rfl
@[simp] theorem bind_bad_eq {α β : Type} (f : α → Store → R β) : (R.bad : R α).bind f = .bad := rfl
@[simp] theorem mVar_eq (i : Nat) (ρ : MEnv) (S : Store) : mVar i ρ S = (match ρ[i]? with | some (some (.val d)) => .ok d S | _ => .bad) := rfl
@[simp] theorem mC_eq (d : D) (ρ : MEnv) (S : Store) : mC d ρ S = .ok d S := rfl
@[simp] theorem m2_eq (h : G2) (a b : ME) (ρ : MEnv) (S : Store) : m2 h a b ρ S = (a ρ S).bind fun x S1 => (b ρ S1).bind fun y S2 => h x y S2 := rfl
@[simp] theorem mNil_eq (ρ : MEnv) (S : Store) : mNil ρ S = .ok (.nx ρ) S := rfl
@[simp] theorem mPass_eq (ρ : MEnv) (S : Store) : mPass ρ S = .ok (.nx ρ) S := rfl
@[simp] theorem mSeq_eq (a b : MS) (ρ : MEnv) (S : Store) : mSeq a b ρ S = (a ρ S).bind fun fl S1 => (match fl with | .nx ρ1 => b ρ1 S1 | fl => .ok fl S1) := rfl
@[simp] theorem mSet_eq (i : Nat) (m : ME) (ρ : MEnv) (S : Store) : mSet i m ρ S = (m ρ S).bind fun d S1 => .ok (.nx (ρ.set i (some (.val d)))) S1 := rfl
@[simp] theorem mRet_eq (m : ME) (ρ : MEnv) (S : Store) : mRet m ρ S = (m ρ S).bind fun d S1 => .ok (.rt d) S1 := rfl
@[simp] theorem mDrop_eq (m : ME) (ρ : MEnv) (S : Store) : mDrop m ρ S = (m ρ S).bind fun _ S1 => .ok (.nx ρ) S1 := rfl
@[simp] theorem mIf_eq (c : MT) (a b : MS) (ρ : MEnv) (S : Store) : mIf c a b ρ S = (c ρ S).bind fun k S1 => if k = true then a ρ S1 else b ρ S1 := rfl
@[simp] theorem mB_eq (m : ME) (ρ : MEnv) (S : Store) : mB m ρ S = (m ρ S).bind isB := rfl
@[simp] theorem isB_eq (k : Bool) (S : Store) : isB (.bl k) S = .ok k S := rfl
@[simp] theorem mAndT_eq (a b : MT) (ρ : MEnv) (S : Store) : mAndT a b ρ S = (a ρ S).bind fun k S1 => if k = true then b ρ S1 else .ok false S1 := rfl
@[simp] theorem mOrT_eq (a b : MT) (ρ : MEnv) (S : Store) : mOrT a b ρ S = (a ρ S).bind fun k S1 => if k = true then .ok true S1 else b ρ S1 := rfl
@[simp] theorem mNotT_eq (a : MT) (ρ : MEnv) (S : Store) : mNotT a ρ S = (a ρ S).bind fun k S1 => .ok (!k) S1 := rfl
@[simp] theorem mAnd_eq (a b : ME) (ρ : MEnv) (S : Store) : mAnd a b ρ S = (a ρ S).bind fun d S1 => (isB d S1).bind fun k S2 => if k = true then b ρ S2 else .ok (.bl false) S2 := rfl
@[simp] theorem mOr_eq (a b : ME) (ρ : MEnv) (S : Store) : mOr a b ρ S = (a ρ S).bind fun d S1 => (isB d S1).bind fun k S2 => if k = true then .ok (.bl true) S2 else b ρ S2 := rfl
@[simp] theorem mNot_eq (a : ME) (ρ : MEnv) (S : Store) : mNot a ρ S = (a ρ S).bind fun d S1 => (isB d S1).bind fun k S2 => .ok (.bl (!k)) S2 := rfl
@[simp] theorem mIfE_eq (c : MT) (a b : ME) (ρ : MEnv) (S : Store) : mIfE c a b ρ S = (c ρ S).bind fun k S1 => if k = true then a ρ S1 else b ρ S1 := rfl
@[simp] theorem mChain_eq (h h' : G2) (a b c : ME) (ρ : MEnv) (S : Store) : mChain h h' a b c ρ S = (a ρ S).bind fun x S1 => (b ρ S1).bind fun y S2 => (h x y S2).bind fun d S3 => (isB d S3).bind fun k S4 =>
  if k = true then (c ρ S4).bind fun z S5 => h' y z S5 else .ok (.bl false) S4 := rfl
@[simp] theorem aNil_eq (ρ : MEnv) (S : Store) : aNil ρ S = .ok [] S := rfl
@[simp] theorem aCons_eq (m : ME) (r : MA) (ρ : MEnv) (S : Store) : aCons m r ρ S = (m ρ S).bind fun d S1 => (r ρ S1).bind fun ds S2 => .ok (d :: ds) S2 := rfl
@[simp] theorem mTup_eq (l : MA) (ρ : MEnv) (S : Store) : mTup l ρ S = (l ρ S).bind fun ds S1 => if ds.length ≤ PySem.sizeLine then .ok (.tup ds) S1 else .bad := rfl
@[simp] theorem mDisp_eq (l : MA) (ρ : MEnv) (S : Store) : mDisp l ρ S = (l ρ S).bind fun ds S1 => if ds.length ≤ PySem.sizeLine then .ok ds S1 else .bad := rfl
@[simp] theorem mLst_eq (m : ML) (ρ : MEnv) (S : Store) : mLst m ρ S = (m ρ S).bind fun ds S1 => .ok (.lst ds) S1 := rfl
@[simp] theorem mLoc_eq (m : ML) (ρ : MEnv) (S : Store) : mLoc m ρ S = (m ρ S).bind fun ds S1 => .ok (.loc S1.length) (S1 ++ [.lst ds]) := rfl
@[simp] theorem mOwnL_eq (i : Nat) (m : ML) (ρ : MEnv) (S : Store) : mOwnL i m ρ S = (m ρ S).bind fun ds S1 => .ok (.nx (ρ.set i (some (.own (.lst ds))))) S1 := rfl
@[simp] theorem mCall_eq (m : MF) (n : Nat) (dv : List D) (l : MA) (ρ : MEnv) (S : Store) : mCall m n dv l ρ S = (l ρ S).bind fun ds S1 => if (ds ++ dv).length = n then m (ds ++ dv) S1 else .bad := rfl
@[simp] theorem mCallK_eq (m : MF) (n np nk : Nat) (pick : List D → List D → List D) (l lk : MA) (ρ : MEnv) (S : Store) : mCallK m n np nk pick l lk ρ S = (l ρ S).bind fun ds S1 => (lk ρ S1).bind fun es S2 =>
  if ds.length = np ∧ es.length = nk ∧ (pick ds es).length = n then m (pick ds es) S2 else .bad := rfl
@[simp] theorem mAsg_eq (p : Pat) (m : ME) (ρ : MEnv) (S : Store) : mAsg p m ρ S = (m ρ S).bind fun d S1 => (match p.bind d with | some l => .ok (.nx (setD ρ l)) S1 | none => .bad) := rfl
@[simp] theorem mFor_eq (p : Pat) (it : ML) (mb : MS) (ρ : MEnv) (S : Store) : mFor p it mb ρ S = (it ρ S).bind fun l S1 => mForL p mb l ρ S1 := rfl
@[simp] theorem iSeq_eq (m : ME) (ρ : MEnv) (S : Store) : iSeq m ρ S = (m ρ S).bind iSeqD := rfl
@[simp] theorem iSeqD_lst (l : List D) (S : Store) : iSeqD (.lst l) S = .ok l S := rfl
@[simp] theorem iSeqD_tup (l : List D) (S : Store) : iSeqD (.tup l) S = .ok l S := rfl
@[simp] theorem iLst_eq (m : ME) (ρ : MEnv) (S : Store) : iLst m ρ S = (m ρ S).bind seqD := rfl
@[simp] theorem seqD_lst (l : List D) (S : Store) : seqD (.lst l) S = .ok l S := rfl
@[simp] theorem iLoc_eq (m : ME) (ρ : MEnv) (S : Store) : iLoc m ρ S = (m ρ S).bind locD := rfl
@[simp] theorem locD_eq (n : Nat) (S : Store) : locD (.loc n) S = (match S[n]? with | some (.lst l) => .ok l S | _ => .bad) := rfl
@[simp] theorem iScr_eq (m : ME) (ρ : MEnv) (S : Store) : iScr m ρ S = (m ρ S).bind scrD := rfl
@[simp] theorem scrD_eq (l : List Int) (S : Store) : scrD (.scr l) S = .ok (l.map .int) S := rfl
@[simp] theorem iRange1_eq (l : MA) (ρ : MEnv) (S : Store) : iRange1 l ρ S = (l ρ S).bind fun ds S1 => (match ds with | [.int j] => if -(2 ^ 62) ≤ j ∧ j < 2 ^ 62 then .ok (rangeD 0 j) S1 else .bad | _ => .bad) := rfl
@[simp] theorem iRange2_eq (l : MA) (ρ : MEnv) (S : Store) : iRange2 l ρ S = (l ρ S).bind fun ds S1 => (match ds with
  | [.int i, .int j] => if -(2 ^ 62) ≤ i ∧ i < 2 ^ 62 ∧ -(2 ^ 62) ≤ j ∧ j < 2 ^ 62 then .ok (rangeD i j) S1 else .bad | _ => .bad) := rfl
@[simp] theorem iEnumM_eq (m : ME) (ρ : MEnv) (S : Store) : iEnumM m ρ S = (m ρ S).bind fun d S1 => (seqD d S1).bind fun l S2 => .ok (enumD 0 l) S2 := rfl
@[simp] theorem mLc_eq (it : ML) (p : Pat) (vs : List Nat) (mt : MT) (me : ME) (ρ : MEnv) (S : Store) : mLc it p vs mt me ρ S = (it ρ S).bind fun l S1 => (mLcL p mt me l (wipeM ρ vs) S1).bind fun r S2 => if r.length ≤ PySem.sizeLine then .ok r S2 else .bad := rfl
@[simp] theorem mYes_eq (ρ : MEnv) (S : Store) : mYes ρ S = .ok true S := rfl
@[simp] theorem mQ_eq (h : List D → Store → R D) (m : ML) (ρ : MEnv) (S : Store) : mQ h m ρ S = (m ρ S).bind h := rfl
@[simp] theorem mQL_eq (h : List D → Store → R (List D)) (m : ML) (ρ : MEnv) (S : Store) : mQL h m ρ S = (m ρ S).bind h := rfl
@[simp] theorem mA_eq (h : List D → Store → R D) (l : MA) (ρ : MEnv) (S : Store) : mA h l ρ S = (l ρ S).bind h := rfl
@[simp] theorem mB1_eq (h : D → Store → R D) (m : ME) (ρ : MEnv) (S : Store) : mB1 h m ρ S = (m ρ S).bind h := rfl
@[simp] theorem hLen_eq (l : List D) (S : Store) : hLen l S = .ok (.int l.length) S := rfl
@[simp] theorem hTup_eq (l : List D) (S : Store) : hTup l S = .ok (.tup l) S := rfl
@[simp] theorem hList_eq (l : List D) (S : Store) : hList l S = .ok l S := rfl
@[simp] theorem hAbs_eq (i : Int) (S : Store) : hAbs [.int i] S = .ok (.int (if i < 0 then -i else i)) S := rfl
@[simp] theorem hInt_eq (i : Int) (S : Store) : hInt [.int i] S = .ok (.int i) S := rfl
@[simp] theorem hIntB_eq (k : Bool) (S : Store) : hInt [.bl k] S = .ok (.int (if k then 1 else 0)) S := rfl
@[simp] theorem hMax2_eq (i j : Int) (S : Store) : hMax2 [.int i, .int j] S = .ok (.int (if j > i then j else i)) S := rfl
@[simp] theorem hMin2_eq (i j : Int) (S : Store) : hMin2 [.int i, .int j] S = .ok (.int (if j < i then j else i)) S := rfl
@[simp] theorem gNeg_eq (i : Int) (S : Store) : gNeg (.int i) S = .ok (.int (-i)) S := rfl
@[simp] theorem gI_eq (c : Int → Int → Prop) [∀ i j, Decidable (c i j)] (h : Int → Int → D) (i j : Int) (S : Store) : gI c h (.int i) (.int j) S = if c i j then .ok (h i j) S else .bad := rfl
@[simp] theorem gI0_eq (h : Int → Int → D) (i j : Int) (S : Store) : gI0 h (.int i) (.int j) S = .ok (h i j) S := rfl
@[simp] theorem gIx_tup (l : List D) (i : Int) (S : Store) : gIx (.tup l) (.int i) S = (match atI l i with | some d => .ok d S | none => .bad) := rfl
@[simp] theorem gIx_lst (l : List D) (i : Int) (S : Store) : gIx (.lst l) (.int i) S = (match atI l i with | some d => .ok d S | none => .bad) := rfl
@[simp] theorem gIx_scr (l : List Int) (i : Int) (S : Store) : gIx (.scr l) (.int i) S = (match atI l i with | some k => .ok (.int k) S | none => .bad) := rfl
@[simp] theorem gIx_loc (n : Nat) (i : Int) (S : Store) : gIx (.loc n) (.int i) S = (match S[n]? with | some (.lst l) => (match atI l i with | some d => .ok d S | none => .bad) | _ => .bad) := rfl
@[simp] theorem mSetC_eq (o i e : ME) (ρ : MEnv) (S : Store) : mSetC o i e ρ S = (e ρ S).bind fun d S1 => (o ρ S1).bind fun c S2 => (i ρ S2).bind fun k S3 => (match putC c k d S3 with | some S4 => .ok (.nx ρ) S4 | none => .bad) := rfl
@[simp] theorem putC_eq (n : Nat) (j : Int) (d : D) (S : Store) : putC (.loc n) (.int j) d S = (match S[n]? with | some (.lst l) => (ixN l.length j).map fun m => S.set n (.lst (l.set m d)) | _ => none) := rfl
@[simp] theorem mApp_eq (i : Nat) (m : ME) (ρ : MEnv) (S : Store) : mApp i m ρ S = (m ρ S).bind fun d S1 => (match ρ[i]? with
  | some (some (.own (.lst l))) => if l.length < PySem.sizeLine then .ok (.nx (ρ.set i (some (.own (.lst (l ++ [d])))))) S1 else .bad | _ => .bad) := rfl
@[simp] theorem mAppC_eq (mo me : ME) (ρ : MEnv) (S : Store) : mAppC mo me ρ S = (mo ρ S).bind fun c S1 => if isLoc c S1 = true then (me ρ S1).bind fun d S2 => (match appC c d S2 with | some S3 => .ok (.nx ρ) S3 | none => .bad) else .bad := rfl
@[simp] theorem qOwn_eq (i : Nat) (ρ : MEnv) (S : Store) : qOwn i ρ S = (match ρ[i]? with | some (some (.own (.lst l))) => .ok l S | _ => .bad) := rfl
@[simp] theorem gLen_tup (l : List D) (S : Store) : gLen (.tup l) S = .ok (.int l.length) S := rfl
@[simp] theorem gLen_lst (l : List D) (S : Store) : gLen (.lst l) S = .ok (.int l.length) S := rfl
@[simp] theorem gLen_scr (l : List Int) (S : Store) : gLen (.scr l) S = .ok (.int l.length) S := rfl
@[simp] theorem mDNewK_eq (ρ : MEnv) (S : Store) : mDNewK ρ S = .ok (.loc S.length) (S ++ [.dK []]) := rfl
@[simp] theorem mDGet2_eq (md mk mx : ME) (ρ : MEnv) (S : Store) : mDGet2 md mk mx ρ S = (md ρ S).bind fun c S1 => (match dictR S1 c with
  | none => .bad
  | some _ => (mk ρ S1).bind fun y S2 => (mx ρ S2).bind fun z S3 => (match dictR S3 c, keyD y with
    | some l, some k => .ok ((valA l k).getD z) S3
    | _, _ => .bad)) := rfl
@[simp] theorem mDPut_eq (md mk mv : ME) (ρ : MEnv) (S : Store) : mDPut md mk mv ρ S = (mv ρ S).bind fun d S1 => (md ρ S1).bind fun c S2 => (mk ρ S2).bind fun y S3 => (match putDict c y d S3 with | some S4 => .ok (.nx ρ) S4 | none => .bad) := rfl
@[simp] theorem mDSet_eq (md mk mx : ME) (ρ : MEnv) (S : Store) : mDSet md mk mx ρ S = (md ρ S).bind fun c S1 => (match dictAt S1 c with
  | none => .bad
  | some _ => (mk ρ S1).bind fun y S2 => (mx ρ S2).bind fun z S3 => setDef c y z S3) := rfl
@[simp] theorem dictAt_eq (S : Store) (n : Nat) : dictAt S (.loc n) = (match S[n]? with | some (.dK l) => some l | _ => none) := rfl
@[simp] theorem dictR_eq (S : Store) (n : Nat) : dictR S (.loc n) = (match S[n]? with | some (.dK l) => some l | some (.dF l) => some l | _ => none) := rfl
@[simp] theorem keyD_int (i : Int) : keyD (.int i) = some (.inl i) := rfl
@[simp] theorem keyD_str (x : PySem.Str) : keyD (.str x) = some (.inr x) := rfl
@[simp] theorem mPar_eq (is : List Nat) (m : MSl) (ρ : MEnv) (S : Store) : mPar is m ρ S = (m ρ S).bind fun ss S1 => if is.length = ss.length then .ok (.nx (setSl ρ (is.zip ss))) S1 else .bad := rfl
@[simp] theorem sNil_eq (ρ : MEnv) (S : Store) : sNil ρ S = .ok [] S := rfl
@[simp] theorem sVal_eq (m : ME) (r : MSl) (ρ : MEnv) (S : Store) : sVal m r ρ S = (m ρ S).bind fun d S1 => (r ρ S1).bind fun ss S2 => .ok (.val d :: ss) S2 := rfl
@[simp] theorem sOwnL_eq (m : ML) (r : MSl) (ρ : MEnv) (S : Store) : sOwnL m r ρ S = (m ρ S).bind fun l S1 => (r ρ S1).bind fun ss S2 => .ok (.own (.lst l) :: ss) S2 := rfl
@[simp] theorem setSl_nil (ρ : MEnv) : setSl ρ [] = ρ := rfl
@[simp] theorem setSl_cons (ρ : MEnv) (i : Nat) (s : Slot) (r : List (Nat × Slot)) : setSl ρ ((i, s) :: r) = setSl (ρ.set i (some s)) r := rfl
@[simp] theorem setD_nil (ρ : MEnv) : setD ρ [] = ρ := rfl
@[simp] theorem setD_cons (ρ : MEnv) (i : Nat) (d : D) (r : List (Nat × D)) : setD ρ ((i, d) :: r) = setD (ρ.set i (some (.val d))) r := rfl
@[simp] theorem pat_nm (i : Nat) (d : D) : Pat.bind (.nm i) d = some [(i, d)] := by unfold Pat.bind; rfl
@[simp] theorem pat_tp (ps : List Pat) (l : List D) : Pat.bind (.tp ps) (.tup l) = Pat.binds ps l := by unfold Pat.bind; rfl
@[simp] theorem pats_nil : Pat.binds [] [] = some [] := by unfold Pat.binds; rfl
@[simp] theorem pats_cons (p : Pat) (ps : List Pat) (d : D) (ds : List D) : Pat.binds (p :: ps) (d :: ds) = (match Pat.bind p d, Pat.binds ps ds with | some a, some b => some (a ++ b) | _, _ => none) := by
  rw [Pat.binds]
  all_goals (cases Pat.bind p d <;> cases Pat.binds ps ds <;> rfl)
@[simp] theorem wipeM_nil (ρ : MEnv) : wipeM ρ [] = ρ := rfl
@[simp] theorem wipeM_cons (ρ : MEnv) (v : Nat) (vs : List Nat) : wipeM ρ (v :: vs) = (wipeM ρ vs).set v none := rfl
@[simp] theorem forL_nil (p : Pat) (mb : MS) (ρ : MEnv) (S : Store) : mForL p mb [] ρ S = .ok (.nx ρ) S := rfl
theorem forL_cons (p : Pat) (mb : MS) (d : D) (ds : List D) (ρ : MEnv) (S : Store) : mForL p mb (d :: ds) ρ S = (match p.bind d with
    | none => .bad
    | some l => (mb (setD ρ l) S).bind fun fl S1 => (match fl with
      | .nx ρ1 => mForL p mb ds ρ1 S1
      | .ct ρ1 => mForL p mb ds ρ1 S1
      | .bk ρ1 => .ok (.nx ρ1) S1
      | .rt d => .ok (.rt d) S1)) := rfl
@[simp] theorem lcL_nil (p : Pat) (mt : MT) (me : ME) (ρ : MEnv) (S : Store) : mLcL p mt me [] ρ S = .ok [] S := rfl
theorem lcL_cons (p : Pat) (mt : MT) (me : ME) (d : D) (ds : List D) (ρ : MEnv) (S : Store) : mLcL p mt me (d :: ds) ρ S = (match p.bind d with
    | none => .bad
    | some l => (mt (setD ρ l) S).bind fun k S1 => if k = true then (me (setD ρ l) S1).bind fun y S2 => (mLcL p mt me ds ρ S2).bind fun r S3 => .ok (y :: r) S3
      else mLcL p mt me ds ρ S1) := rfl
theorem mDef_eq (N : Nat) (b : MS) (ds : List D) (S : Store) : mDef N b ds S = (b (ds.map (fun d => some (.val d)) ++ List.replicate (N - ds.length) none) S).bind fun fl S1 => (match fl with
  | .rt d => .ok d S1
  | .nx _ => .ok .non S1
  | _ => .bad) := rfl
@[simp] theorem n2_eq (h : D → D → Store → R (List D)) (a b : ME) (ρ : MEnv) (S : Store) : n2 h a b ρ S = (a ρ S).bind fun x S1 => (b ρ S1).bind fun y S2 => h x y S2 := rfl
@[simp] theorem atI0 {α : Type} (a : α) (l : List α) : atI (a :: l) 0 = some a := by
  have := atI_nat (xs := a :: l) (j := 0) (v := a) rfl
  exact this
@[simp] theorem atI1 {α : Type} (a b : α) (l : List α) : atI (a :: b :: l) 1 = some b := by
  have := atI_nat (xs := a :: b :: l) (j := 1) (v := b) rfl
  exact this
@[simp] theorem atI2 {α : Type} (a b c : α) (l : List α) : atI (a :: b :: c :: l) 2 = some c := by
  have := atI_nat (xs := a :: b :: c :: l) (j := 2) (v := c) rfl
  exact this
theorem small_le {n : Nat} (h : n ≤ 1000000) : n ≤ PySem.sizeLine := Nat.le_trans h (by decide)
theorem small_lt {n : Nat} (h : n ≤ 1000000) : n < PySem.sizeLine := Nat.lt_of_le_of_lt h (by decide)
end Mo
set_option maxRecDepth 100000
/-! Mo: bounds of what is reckoned. -/
namespace Mo
open L2
theorem log2_le {i : Int} {k : Nat} (h0 : 0 ≤ i) (h : i < 2 ^ (k + 1)) : i.natAbs.log2 ≤ k := by
  by_cases z : i.natAbs = 0
  · rw [z]; simp
  · have h1 : i.natAbs < 2 ^ (k + 1) := by
      have e : ((i.natAbs : Nat) : Int) = i := Int.natAbs_of_nonneg h0
      have : ((i.natAbs : Nat) : Int) < ((2 ^ (k + 1) : Nat) : Int) := by rw [e]; simpa using h
      exact Int.ofNat_lt.mp this
    have := (Nat.log2_lt z).mpr h1
    omega
theorem cMul_nn {i j : Int} (h1 : 0 ≤ i) (h2 : i < 2 ^ 256) (h3 : 0 ≤ j) (h4 : j < 2 ^ 256) : cMul i j := by
  have a := log2_le (k := 255) h1 h2
  have b := log2_le (k := 255) h3 h4
  unfold cMul
  omega
theorem cDiv_nn {i j : Int} (h1 : 0 < j) (h2 : j < 2 ^ 256) : cDiv i j := by
  have a := log2_le (k := 255) (Int.le_of_lt h1) h2
  exact ⟨h1, by omega⟩
theorem cMod_nn {i j : Int} (h1 : 0 < j) : cMod i j := h1
theorem cPow_nn {i j : Int} (h0 : 0 ≤ i) (h1 : i < 2 ^ 60) (h2 : 0 ≤ j) (h3 : j ≤ 1000000) : cPow i j := ⟨h2, h3, by
  have : ((i.natAbs : Nat) : Int) = i := Int.natAbs_of_nonneg h0
  omega⟩
end Mo
set_option maxRecDepth 100000
/-! Mo: how long what repr gives can be; == of data that are no truths. -/
namespace Mo
open PySem L2
mutual
/-- numbers below 2 ^ 64 alone, and lists and tuples of such -/
def nums : PyData → Bool
  | .int i => decide (i.natAbs.log2 < 64)
  | .list xs => numsAll xs
  | .tuple xs => numsAll xs
  | .bool _ => true
  | .none => true
  | .str _ => false
  | .dict _ => false
def numsAll : List PyData → Bool
  | [] => true
  | x :: xs => nums x && numsAll xs
end
mutual
def nodes : PyData → Nat
  | .list xs => 1 + nodesAll xs
  | .tuple xs => 1 + nodesAll xs
  | _ => 1
def nodesAll : List PyData → Nat
  | [] => 0
  | x :: xs => nodes x + nodesAll xs
end
theorem piled_le : ∀ {ts : List Str} {n : Nat}, ts.length ≤ n → True := fun _ => trivial
theorem tupleText_len {ts : List Str} {k : Nat} (h : piled ts ≤ k) : (tupleText ts).length ≤ k + 3 := by
  unfold tupleText
  rw [strLen_append, strLen_append]
  have e1 : (("(" : String) : Str).length = 1 := rfl
  have e2 : ((if ts.length == 1 then ",)" else ")" : String) : Str).length ≤ 2 := by split <;> decide
  have e3 : (Str.join ", " ts).length ≤ k := by
    cases ts with
    | nil => exact Nat.zero_le _
    | cons t r => have := join_length_add (t :: r) (by simp); omega
  omega
theorem textFrom_up : ∀ (ts : List Str) (k : Nat) (acc : Str), (textFrom k acc ts).length ≤ acc.length + piled ts
  | [], k, acc => by show acc.length ≤ acc.length + 0; omega
  | t :: r, k, acc => by
    have ih := textFrom_up r (k + 1) (acc ++ (if k > 0 then ", " else "" : String) ++ t)
    have e : (acc ++ (if k > 0 then ", " else "" : String) ++ t).length = acc.length + (if k > 0 then 2 else 0) + t.length := by
      rw [strLen_append, strLen_append]
      split <;> rfl
    show (textFrom (k + 1) (acc ++ (if k > 0 then ", " else "" : String) ++ t) r).length ≤ acc.length + (t.length + 2 + piled r)
    rw [e] at ih
    have h2 : (if k > 0 then 2 else 0) ≤ 2 := by split <;> omega
    omega
theorem listText_len {ts : List Str} {k : Nat} (h : piled ts ≤ k) : (listText ts).length ≤ k + 2 := by
  unfold listText
  rw [strLen_append]
  have e1 : (("[" : String) : Str).length = 1 := rfl
  have e2 : (("]" : String) : Str).length = 1 := rfl
  have := textFrom_up ts 0 "["
  omega
mutual
theorem shown_len : ∀ p : PyData, nums p = true → p.shown.length + 2 ≤ 80 * nodes p ∧ p.showable = true
  | .none, _ => by simp only [PyData.shown, nodes, PyData.showable]; exact ⟨by decide, trivial⟩
  | .bool b, _ => by simp only [PyData.shown, nodes, PyData.showable]; refine ⟨?_, trivial⟩; cases b <;> decide
  | .int i, h => by
    rw [nums] at h
    have h' := of_decide_eq_true h
    simp only [PyData.shown, nodes, PyData.showable]
    have e := int_text_length_le (by decide : 0 < 64) h'
    have e2 : ((toString i : String) : Str).length = (toString i).length := PySem.ofString_length _
    exact ⟨by rw [e2]; omega, decide_eq_true (by omega)⟩
  | .str _, h => by rw [nums] at h; cases h
  | .list xs, h => by
    rw [nums] at h
    obtain ⟨h1, h2⟩ := shownAll_len xs h
    rw [PyData.shown, nodes, PyData.showable]
    have := listText_len (Nat.le_refl (piled (PyData.shownAll xs)))
    exact ⟨by omega, h2⟩
  | .tuple xs, h => by
    rw [nums] at h
    obtain ⟨h1, h2⟩ := shownAll_len xs h
    rw [PyData.shown, nodes, PyData.showable]
    have := tupleText_len (Nat.le_refl (piled (PyData.shownAll xs)))
    exact ⟨by omega, h2⟩
  | .dict _, h => by rw [nums] at h; cases h
theorem shownAll_len : ∀ ps : List PyData, numsAll ps = true → piled (PyData.shownAll ps) ≤ 80 * nodesAll ps ∧ PyData.showableAll ps = true
  | [], _ => by rw [PyData.shownAll, nodesAll, PyData.showableAll]; exact ⟨Nat.le_refl _, rfl⟩
  | p :: ps, h => by
    rw [numsAll, Bool.and_eq_true] at h
    obtain ⟨a1, a2⟩ := shown_len p h.1
    obtain ⟨b1, b2⟩ := shownAll_len ps h.2
    rw [PyData.shownAll, nodesAll, PyData.showableAll, a2, b2]
    refine ⟨?_, rfl⟩
    show p.shown.length + 2 + piled (PyData.shownAll ps) ≤ _
    omega
end
theorem shownOk_of {p : PyData} (h : nums p = true) (hn : nodes p ≤ 10000) (hd : p.depth ≤ 60) : shownOk p := by
  obtain ⟨a, b⟩ := shown_len p h
  exact ⟨b, hd, small_le (by omega)⟩
theorem gRepr_tup {l : List D} {p : PyData} {S : Store} (hp : toP (.tup l) = some p) (h : shownOk p) : gRepr (.tup l) S = .ok (.str p.shown) S := by
  unfold gRepr
  rw [hp]
  dsimp only
  rw [if_pos h]
theorem gRepr_lst {l : List D} {p : PyData} {S : Store} (hp : toP (.lst l) = some p) (h : shownOk p) : gRepr (.lst l) S = .ok (.str p.shown) S := by
  unfold gRepr
  rw [hp]
  dsimp only
  rw [if_pos h]
theorem eqD_ints (x y : Int) : eqD (.int x) (.int y) = some (x == y) := by
  unfold eqD
  have h : ∀ z : Int, SeqAt.shaped (.int z) = true := fun z => by simp [SeqAt.shaped, PyData.canLay0, PyData.depth]
  simp only [toP, h, and_self, if_true]
  rw [PyData.eqv]
/-- texts first, then data -/
def gEqS : G2 := fun x y S => match x, y with
  | .str a, .str b => .ok (.bl (decide (a = b))) S
  | _, _ => .bad
def gNeS : G2 := fun x y S => match x, y with
  | .str a, .str b => .ok (.bl (!decide (a = b))) S
  | _, _ => .bad
theorem dec_vstr {a b : Str} : decide (V.str a = V.str b) = decide (a = b) := by
  by_cases h : a = b
  · rw [h]; simp
  · rw [decide_eq_false h, decide_eq_false fun e => h (V.str.inj e)]
theorem od_eqS {K : PySem.W.Frag} : OpD K rEq gEqS := by
  intro g f H S dx dy d S' x y Q s rx ry hm q
  unfold gEqS at hm
  split at hm
  · cases hm
    cases rx; cases ry
    exact ⟨rfl, by rw [dec_vstr]; exact q.same s rfl⟩
  · cases hm
theorem od_neS {K : PySem.W.Frag} : OpD K rNe gNeS := by
  intro g f H S dx dy d S' x y Q s rx ry hm q
  unfold gNeS at hm
  split at hm
  · cases hm
    cases rx; cases ry
    exact ⟨rfl, by rw [dec_vstr]; exact q.same s rfl⟩
  · cases hm
def gEqA : G2 := gOr gEqS gEq
def gNeA : G2 := gOr gNeS gNe
theorem od_eqA {K : PySem.W.Frag} : OpD K (fun x y H Q => rEq x y H Q ∨ rEqD K x y H Q) gEqA := OpD.or od_eqS od_eq
theorem od_neA {K : PySem.W.Frag} : OpD K (fun x y H Q => rNe x y H Q ∨ rNeD K x y H Q) gNeA := OpD.or od_neS od_ne
theorem op_eqA {X : Cx} (hu : X.A.units + 64 < cLine) : OpR X (compareOp .Eq) (fun x y H Q => rEq x y H Q ∨ rEqD X.K x y H Q) := op_eq.or (op_eqD hu)
theorem op_neA {X : Cx} (hu : X.A.units + 64 < cLine) : OpR X (compareOp .NotEq) (fun x y H Q => rNe x y H Q ∨ rNeD X.K x y H Q) := op_ne.or (op_neD hu)
@[simp] theorem gNe_strs (x y : Str) (S : Store) : gNeA (.str x) (.str y) S = .ok (.bl (!decide (x = y))) S := rfl
@[simp] theorem gEq_strs (x y : Str) (S : Store) : gEqA (.str x) (.str y) S = .ok (.bl (decide (x = y))) S := rfl
@[simp] theorem gNe_ints (x y : Int) (S : Store) : gNeA (.int x) (.int y) S = .ok (.bl (!(x == y))) S := by
  show gNe (.int x) (.int y) S = _
  unfold gNe
  rw [eqD_ints]
@[simp] theorem gEq_ints (x y : Int) (S : Store) : gEqA (.int x) (.int y) S = .ok (.bl (x == y)) S := by
  show gEq (.int x) (.int y) S = _
  unfold gEq
  rw [eqD_ints]
@[simp] theorem sz_1 : 1 ≤ PySem.sizeLine := by decide
@[simp] theorem sz_2 : 2 ≤ PySem.sizeLine := by decide
@[simp] theorem sz_3 : 3 ≤ PySem.sizeLine := by decide
@[simp] theorem sz_4 : 4 ≤ PySem.sizeLine := by decide
@[simp] theorem sz_5 : 5 ≤ PySem.sizeLine := by decide
@[simp] theorem sz_6 : 6 ≤ PySem.sizeLine := by decide
@[simp] theorem sz_7 : 7 ≤ PySem.sizeLine := by decide
@[simp] theorem sz_8 : 8 ≤ PySem.sizeLine := by decide
@[simp] theorem sz_9 : 9 ≤ PySem.sizeLine := by decide
@[simp] theorem sz_10 : 10 ≤ PySem.sizeLine := by decide
@[simp] theorem sz_11 : 11 ≤ PySem.sizeLine := by decide
@[simp] theorem sz_12 : 12 ≤ PySem.sizeLine := by decide
@[simp] theorem sz_13 : 13 ≤ PySem.sizeLine := by decide
@[simp] theorem sz_14 : 14 ≤ PySem.sizeLine := by decide
@[simp] theorem sz_15 : 15 ≤ PySem.sizeLine := by decide
@[simp] theorem sz_16 : 16 ≤ PySem.sizeLine := by decide
@[simp] theorem sz_17 : 17 ≤ PySem.sizeLine := by decide
@[simp] theorem sz_18 : 18 ≤ PySem.sizeLine := by decide
@[simp] theorem sz_19 : 19 ≤ PySem.sizeLine := by decide
@[simp] theorem sz_20 : 20 ≤ PySem.sizeLine := by decide
end Mo
set_option maxRecDepth 100000
/-! Mo: loops and comprehensions, held by what they keep. -/
namespace Mo
open L2
variable {α : Type}
theorem forL_run {p : Pat} {mb : MS} {enc : α → D} (I : List α → MEnv → Store → Prop) : ∀ (xs done : List α) {ρ : MEnv} {S : Store}, I done ρ S →
    (∀ (d : List α) (x : α) (r : List α) (ρ : MEnv) (S : Store), done ++ xs = d ++ x :: r → I d ρ S → ∃ l ρ' S', p.bind (enc x) = some l ∧ (mb (setD ρ l) S = .ok (.nx ρ') S' ∨ mb (setD ρ l) S = .ok (.ct ρ') S') ∧ I (d ++ [x]) ρ' S') →
    ∃ ρ' S', mForL p mb (xs.map enc) ρ S = .ok (.nx ρ') S' ∧ I (done ++ xs) ρ' S'
  | [], done, ρ, S, h, _ => ⟨ρ, S, rfl, by rw [List.append_nil]; exact h⟩
  | x :: xs, done, ρ, S, h, st => by
    obtain ⟨l, ρ1, S1, hp, e1, h1⟩ := st done x xs ρ S rfl h
    obtain ⟨ρ2, S2, e2, h2⟩ := forL_run I xs (done ++ [x]) h1 (fun d y r ρ S e hI => st d y r ρ S (by rw [← e, List.append_assoc]; rfl) hI)
    refine ⟨ρ2, S2, ?_, by rw [List.append_assoc] at h2; exact h2⟩
    rw [List.map_cons, forL_cons, hp]
    rcases e1 with e1 | e1
    · dsimp only; rw [e1]; exact e2
    · dsimp only; rw [e1]; exact e2
/-- the same, from nothing done -/
theorem forL_inv {p : Pat} {mb : MS} {enc : α → D} (I : List α → MEnv → Store → Prop) (xs : List α) {ρ : MEnv} {S : Store} (h : I [] ρ S)
    (st : ∀ (d : List α) (x : α) (r : List α) (ρ : MEnv) (S : Store), xs = d ++ x :: r → I d ρ S → ∃ l ρ' S', p.bind (enc x) = some l ∧ (mb (setD ρ l) S = .ok (.nx ρ') S' ∨ mb (setD ρ l) S = .ok (.ct ρ') S') ∧ I (d ++ [x]) ρ' S') :
    ∃ ρ' S', mForL p mb (xs.map enc) ρ S = .ok (.nx ρ') S' ∧ I xs ρ' S' := by
  have := forL_run (mb := mb) I xs [] h (fun d x r ρ S e hI => st d x r ρ S (by rw [← e, List.nil_append]) hI)
  rw [List.nil_append] at this
  exact this
/-- a comprehension whose elements change the store -/
theorem lcL_run {β : Type} {p : Pat} {me : ME} {enc : α → D} {dec : β → D} {ρ : MEnv} (I : Nat → Store → Prop) (J : β → Prop) (N : Nat) : ∀ (xs : List α) (k : Nat) {S : Store}, I k S → k + xs.length ≤ N →
    (∀ (x : α) (k : Nat) (S : Store), x ∈ xs → k < N → I k S → ∃ l y S', p.bind (enc x) = some l ∧ me (setD ρ l) S = .ok (dec y) S' ∧ J y ∧ I (k + 1) S') →
    ∃ (ys : List β) (S' : Store), mLcL p mYes me (xs.map enc) ρ S = .ok (ys.map dec) S' ∧ ys.length = xs.length ∧ (∀ y ∈ ys, J y) ∧ I (k + xs.length) S'
  | [], k, S, h, _, _ => ⟨[], S, rfl, rfl, (fun y hy => nomatch hy), h⟩
  | x :: xs, k, S, h, hN, st => by
    rw [List.length_cons] at hN
    obtain ⟨l, y, S1, hp, e1, j1, h1⟩ := st x k S List.mem_cons_self (by omega) h
    obtain ⟨ys, S2, e2, n2, j2, h2⟩ := lcL_run I J N xs (k + 1) h1 (by omega) (fun x k S hx => st x k S (List.mem_cons_of_mem _ hx))
    refine ⟨y :: ys, S2, ?_, by rw [List.length_cons, List.length_cons, n2], fun z hz => ?_, by rw [List.length_cons, show k + (xs.length + 1) = k + 1 + xs.length by omega]; exact h2⟩
    · rw [List.map_cons, lcL_cons, hp]
      dsimp only
      rw [mYes_eq, bind_ok_eq, if_pos rfl, e1, bind_ok_eq, e2, bind_ok_eq, List.map_cons]
    · cases hz with
      | head => exact j1
      | tail _ hz => exact j2 z hz
/-- a comprehension that leaves the store -/
theorem lcL_map {p : Pat} {me : ME} {enc : α → D} {f : α → D} {ρ : MEnv} {S : Store} : ∀ (xs : List α),
    (∀ x ∈ xs, ∃ l, p.bind (enc x) = some l ∧ me (setD ρ l) S = .ok (f x) S) → mLcL p mYes me (xs.map enc) ρ S = .ok (xs.map f) S
  | [], _ => rfl
  | x :: xs, st => by
    obtain ⟨l, hp, e⟩ := st x List.mem_cons_self
    rw [List.map_cons, lcL_cons, hp]
    dsimp only
    rw [mYes_eq, bind_ok_eq, if_pos rfl, e, bind_ok_eq, lcL_map xs (fun y hy => st y (List.mem_cons_of_mem _ hy)), bind_ok_eq, List.map_cons]
/-- with a test -/
theorem lcL_filter {p : Pat} {mt : MT} {me : ME} {enc : α → D} {f : α → D} {c : α → Bool} {ρ : MEnv} {S : Store} : ∀ (xs : List α),
    (∀ x ∈ xs, ∃ l, p.bind (enc x) = some l ∧ mt (setD ρ l) S = .ok (c x) S ∧ (c x = true → me (setD ρ l) S = .ok (f x) S)) → mLcL p mt me (xs.map enc) ρ S = .ok ((xs.filter c).map f) S
  | [], _ => rfl
  | x :: xs, st => by
    obtain ⟨l, hp, e, e'⟩ := st x List.mem_cons_self
    have ih := lcL_filter xs (fun y hy => st y (List.mem_cons_of_mem _ hy))
    rw [List.map_cons, lcL_cons, hp]
    dsimp only
    rw [e, bind_ok_eq]
    cases h : c x with
    | true => rw [if_pos rfl, e' h, bind_ok_eq, ih, bind_ok_eq, List.filter_cons_of_pos h, List.map_cons]
    | false => rw [if_neg Bool.false_ne_true, ih, List.filter_cons_of_neg (by rw [h]; exact Bool.false_ne_true)]
/-! ### dicts whose keys are numbers -/
def addK (ks : List Int) (k : Int) : List Int := if k ∈ ks then ks else ks ++ [k]
theorem valA_map (ks : List Int) (f : Int → D) (k : Int) : valA (ks.map fun j => ((.inl j : Key), f j)) (.inl k) = if k ∈ ks then some (f k) else none := by
  induction ks with
  | nil => rfl
  | cons j ks ih =>
    unfold valA at ih ⊢
    rw [List.map_cons, List.find?_cons]
    by_cases h : j = k
    · subst h; simp
    · have h1 : decide ((Sum.inl j : Key) = Sum.inl k) = false := decide_eq_false fun e => h (Sum.inl.inj e)
      have h2 : (k ∈ j :: ks) = (k ∈ ks) := by simp [Ne.symm h]
      simp only [h1, h2]
      exact ih
theorem any_map (ks : List Int) (f : Int → D) (k : Int) : ((ks.map fun j => ((.inl j : Key), f j)).any fun kv => decide (kv.1 = .inl k)) = decide (k ∈ ks) := by
  induction ks with
  | nil => rfl
  | cons j ks ih =>
    rw [List.map_cons, List.any_cons, ih]
    by_cases h : j = k
    · subst h; simp
    · have h1 : decide ((Sum.inl j : Key) = Sum.inl k) = false := decide_eq_false fun e => h (Sum.inl.inj e)
      have h2 : (k ∈ j :: ks) = (k ∈ ks) := by simp [Ne.symm h]
      simp only [h1, h2, Bool.false_or]
theorem putA_map (ks : List Int) (f : Int → D) (k : Int) (d : D) : putA (ks.map fun j => ((.inl j : Key), f j)) (.inl k) d = (addK ks k).map fun j => ((.inl j : Key), if j = k then d else f j) := by
  unfold putA addK
  rw [any_map]
  by_cases h : k ∈ ks
  · rw [decide_eq_true h, if_pos rfl, if_pos h, List.map_map]
    refine List.map_congr_left fun j _ => ?_
    show (if (Sum.inl j : Key) = Sum.inl k then _ else _) = _
    by_cases e : j = k
    · subst e; rw [if_pos rfl, if_pos rfl]
    · rw [if_neg (fun e' => e (Sum.inl.inj e')), if_neg e]
  · rw [decide_eq_false h, if_neg Bool.false_ne_true, if_neg h, List.map_append]
    congr 1
    · refine List.map_congr_left fun j hj => ?_
      have hne : j ≠ k := fun e => h (e ▸ hj)
      rw [if_neg hne]
    · simp
theorem intKeys_map (ks : List Int) (f : Int → D) : intKeys (ks.map fun j => ((.inl j : Key), f j)) = some ks := by
  induction ks with
  | nil => rfl
  | cons j ks ih => rw [List.map_cons, intKeys, ih]; rfl
theorem sortI_mem {ks : List Int} {k : Int} : k ∈ sortI ks ↔ k ∈ ks := List.mem_mergeSort
theorem sortI_length (ks : List Int) : (sortI ks).length = ks.length := List.length_mergeSort ks
/-- what lay in the store lies there still -/
def Keeps (S S' : Store) : Prop := S.length ≤ S'.length ∧ ∀ i, i < S.length → S'[i]? = S[i]?
theorem Keeps.refl (S : Store) : Keeps S S := ⟨Nat.le_refl _, fun _ _ => rfl⟩
theorem Keeps.app (S T : Store) : Keeps S (S ++ T) := ⟨by rw [List.length_append]; omega, fun i h => List.getElem?_append_left h⟩
theorem Keeps.trans {S S' S'' : Store} (h : Keeps S S') (h' : Keeps S' S'') : Keeps S S'' := ⟨Nat.le_trans h.1 h'.1, fun i hi => (h'.2 i (Nat.lt_of_lt_of_le hi h.1)).trans (h.2 i hi)⟩
theorem Keeps.set {S S' : Store} {n : Nat} {c : Cell} (h : Keeps S S') (hn : S.length ≤ n) : Keeps S (S'.set n c) := ⟨by rw [List.length_set]; exact h.1, fun i hi => by rw [List.getElem?_set_ne (by omega)]; exact h.2 i hi⟩
/-! ### data -/
theorem toPs_map {f : α → D} {g : α → PySem.PyData} (h : ∀ x, toP (f x) = some (g x)) : ∀ xs : List α, toPs (xs.map f) = some (xs.map g)
  | [] => rfl
  | x :: xs => by rw [List.map_cons, toPs, h x, toPs_map h xs]; rfl
theorem numsAll_map {g : α → PySem.PyData} {xs : List α} (h : ∀ x ∈ xs, nums (g x) = true) : numsAll (xs.map g) = true := by
  induction xs with
  | nil => rfl
  | cons x xs ih => rw [List.map_cons, numsAll, h x List.mem_cons_self, ih (fun y hy => h y (List.mem_cons_of_mem _ hy))]; rfl
theorem nodesAll_map {g : α → PySem.PyData} {k : Nat} {xs : List α} (h : ∀ x ∈ xs, nodes (g x) ≤ k) : nodesAll (xs.map g) ≤ xs.length * k := by
  induction xs with
  | nil => rw [List.map_nil, nodesAll]; exact Nat.zero_le _
  | cons x xs ih =>
    rw [List.map_cons, nodesAll, List.length_cons, Nat.add_mul, Nat.one_mul]
    have := h x List.mem_cons_self
    have := ih (fun y hy => h y (List.mem_cons_of_mem _ hy))
    omega
theorem depthAll_map {g : α → PySem.PyData} {k : Nat} {xs : List α} (h : ∀ x ∈ xs, (g x).depth ≤ k) : PySem.PyData.depthAll (xs.map g) ≤ k := by
  induction xs with
  | nil => rw [List.map_nil, PySem.PyData.depthAll]; omega
  | cons x xs ih =>
    rw [List.map_cons, PySem.PyData.depthAll]
    exact Nat.max_le.mpr ⟨h x List.mem_cons_self, ih (fun y hy => h y (List.mem_cons_of_mem _ hy))⟩
theorem log_lt {i : Int} (h : i.natAbs < 2 ^ 64) : i.natAbs.log2 < 64 := by
  by_cases z : i.natAbs = 0
  · rw [z]; decide
  · exact (Nat.log2_lt z).mpr h
end Mo
set_option maxRecDepth 100000
set_option maxHeartbeats 1000000
/-! Mo: dicts that are walked through. -/
namespace Mo
open PySem PySem.Spec PyProof.Rows L2

section
variable {K : PySem.W.Frag} {g f : List Addr} {H : Hp} {p : Addr} {u : HO}
/-- no tuple, no list stands there -/
def Nt (H : Hp) (p : Addr) : Prop := ∀ vs, ¬ Rd H p (.tup vs)
theorem Nt.of {kvs : List (Key × V)} (h : H p = some (.dK kvs)) : Nt H p := fun vs r => by
  rcases r with r | ⟨o, r⟩ <;> rw [h] at r <;> cases r
theorem Nt.frz {kvs : List (Key × V)} {o : Obj} (h : H p = some (.frz o (.dK kvs))) : Nt H p := fun vs r => by
  rcases r with r | ⟨o, r⟩ <;> rw [h] at r <;> cases r
theorem SqT.updN {a : Addr} {vs : List V} (hm : Nt H p) (h : SqT K H a vs) : SqT K (L2.upd H p u) a vs := by
  rcases h with h | h
  · exact .inl (Rd.upd (fun e => by subst e; exact hm vs h) h)
  · exact .inr h
mutual
theorem RelD.updN (hm : Nt H p) (hp : p ∈ f ∨ p ∈ g) : ∀ (d : D) (v : V), RelD K g f H d v → RelD K g f (L2.upd H p u) d v
  | .non, _, h => h
  | .bl _, _, h => h
  | .int _, _, h => h
  | .str _, _, h => h
  | .raw _, _, h => h
  | .tup l, _, ⟨a, vs, e, q, r⟩ => ⟨a, vs, e, SqT.updN hm q, RelDs.updN hm hp l vs r⟩
  | .lst l, _, ⟨a, vs, e, q, r⟩ => ⟨a, vs, e, q.upd hp, RelDs.updN hm hp l vs r⟩
  | .loc n, _, h => h
  | .scr l, _, ⟨a, e, q⟩ => ⟨a, e, q.upd hp⟩
theorem RelDs.updN (hm : Nt H p) (hp : p ∈ f ∨ p ∈ g) : ∀ (l : List D) (vs : List V), RelDs K g f H l vs → RelDs K g f (L2.upd H p u) l vs
  | [], _, h => h
  | d :: ds, _, ⟨v, r, e, q, t⟩ => ⟨v, r, e, RelD.updN hm hp d v q, RelDs.updN hm hp ds r t⟩
end
theorem RelKv.updN {κ : Type} (hm : Nt H p) (hp : p ∈ f ∨ p ∈ g) : ∀ (l : List (κ × D)) (vs : List (κ × V)), RelKv K g f H l vs → RelKv K g f (L2.upd H p u) l vs
  | [], _, h => h
  | d :: ds, _, ⟨v, r, e, q, t⟩ => ⟨v, r, e, RelD.updN hm hp d.2 v q, RelKv.updN hm hp ds r t⟩
theorem RelC.updN {a : Addr} (hm : Nt H p) (hp : p ∈ f ∨ p ∈ g) (hne : a ≠ p) : ∀ {c : Cell}, RelC K g f H a c → RelC K g f (L2.upd H p u) a c
  | .lst l, ⟨vs, e, r⟩ => ⟨vs, by rw [upd_ne hne]; exact e, RelDs.updN hm hp l vs r⟩
  | .dK l, ⟨vs, e, r⟩ => ⟨vs, by rw [upd_ne hne]; exact e, RelKv.updN hm hp l vs r⟩
  | .dT l, ⟨vs, e, r, r'⟩ => ⟨vs, by rw [upd_ne hne]; exact e, RelKv.updN hm hp _ _ r, RelKv.updN hm hp _ _ r'⟩
  | .dF l, ⟨vs, ⟨ob, e⟩, r⟩ => ⟨vs, ⟨ob, by rw [upd_ne hne]; exact e⟩, RelKv.updN hm hp l vs r⟩
theorem g_inj {S : Store} {n m : Nat} (s : RelS K g f H S) (h1 : g[n]? = some p) (h2 : g[m]? = some p) : n = m := by
  have l1 := lt_of_get h1
  have l2 := lt_of_get h2
  rw [List.getElem?_eq_getElem l1] at h1
  rw [List.getElem?_eq_getElem l2] at h2
  cases h1
  exact (List.getElem_inj s.nod).mp (Option.some.inj h2).symm
theorem RelS.updGN {S : Store} {n : Nat} {c : Cell} (s : RelS K g f H S) (hm : Nt H p) (hp : g[n]? = some p) (r : RelC K g f (L2.upd H p u) p c) : RelS K g f (L2.upd H p u) (S.set n c) where
  len := by rw [List.length_set]; exact s.len
  nod := s.nod
  cel := fun m d a e1 e2 => by
    by_cases hk : n = m
    · subst hk
      rw [hp] at e2; cases e2
      have hl : n < S.length := by rw [← s.len]; exact lt_of_get hp
      rw [List.getElem?_set_self hl] at e1
      cases e1
      exact r
    · rw [List.getElem?_set_ne hk] at e1
      exact (s.cel m d a e1 e2).updN hm (.inr (List.mem_of_getElem? hp)) fun e => hk (g_inj s hp (e ▸ e2))
theorem Sta.updGN {w o : List Addr} {ρ : MEnv} {S : Store} {σ : L2.St} {n : Nat} {c : Cell} (s : Sta K g w o ρ S σ H) (hm : Nt H p) (hp : g[n]? = some p) (r : RelC K g (w ++ o) (L2.upd H p u) p c) : Sta K g w o ρ (S.set n c) σ (L2.upd H p u) where
  len := s.len
  val := fun i d e => let ⟨v, e1, r1⟩ := s.val i d e; ⟨v, e1, RelD.updN hm (.inr (List.mem_of_getElem? hp)) d v r1⟩
  own := fun i d e => let ⟨a, e1, m, r1⟩ := s.own i d e; ⟨a, e1, m, r1.updN hm (.inr (List.mem_of_getElem? hp)) fun z => (s.out a m).1 (by subst z; exact List.mem_of_getElem? hp)⟩
  inj := s.inj
  out := s.out
  liv := fun a m => by
    by_cases e : a = p
    · subst e; rw [upd_same]; simp
    · rw [upd_ne e]; exact s.liv a m
  sto := s.sto.updGN hm hp r
theorem RelKv.extS {κ : Type} {w o g' o' : List Addr} {H' : Hp} (x : ExtS g o H g' o' H') : ∀ (l : List (κ × D)) (vs : List (κ × V)), RelKv K g (w ++ o) H l vs → RelKv K g' (w ++ o') H' l vs
  | [], _, h => h
  | d :: ds, _, ⟨v, r, e, q, t⟩ => ⟨v, r, e, RelD.extS x d.2 v q, RelKv.extS x ds r t⟩
/-- what was locked is what it was -/
theorem ExtS.unlock {g' o o' : List Addr} {H' : Hp} {kvs : List (Key × V)} {od : Obj} (hH : H p = some (.dK kvs)) (hp : p ∈ g) (x : ExtS g o (L2.upd H p (.frz od (.dK kvs))) g' o' H') : ExtS g o H g' o' (L2.upd H' p (.dK kvs)) where
  more := by
    obtain ⟨ns, e, h⟩ := x.more
    refine ⟨ns, e, fun b hb => ?_⟩
    have := h b hb
    by_cases z : b = p
    · subst z; rw [upd_same] at this; cases this
    · rwa [upd_ne z] at this
  keep := fun c v e n m => by
    have z : c ≠ p := fun z => n (z ▸ hp)
    rw [upd_ne z]
    exact x.keep c v (by rw [upd_ne z]; exact e) n m
  live := fun c h => by
    by_cases z : c = p
    · subst z; rw [upd_same]; simp
    · rw [upd_ne z]; exact x.live c (by rw [upd_ne z]; exact h)
  tups := fun c vs r => by
    have z : c ≠ p := fun z => by subst z; exact Nt.of hH vs r
    exact Rd.upd z (x.tups c vs (Rd.upd z r))
  frz := fun c o' v e => by
    have z : c ≠ p := fun z => by subst z; rw [hH] at e; cases e
    rw [upd_ne z]
    exact x.frz c o' v (by rw [upd_ne z]; exact e)
  lam := fun c h => by
    rcases x.lam c h with q | q
    · exact .inl q
    · refine .inr ?_
      by_cases z : c = p
      · subst z; rw [upd_same] at q; cases q
      · rwa [upd_ne z] at q
theorem Ext.unlock {g' : List Addr} {H' : Hp} {kvs : List (Key × V)} {od : Obj} (hH : H p = some (.dK kvs)) (hp : p ∈ g) (x : Ext g (L2.upd H p (.frz od (.dK kvs))) g' H') : Ext g H g' (L2.upd H' p (.dK kvs)) :=
  (ExtS.unlock (o := []) hH hp x.s).ext
end
section
variable {X : Cx} {st : Stmt} {e : Expr} {i : Nat} {m : MS} {ml : ML} {me : ME}
def dictVar (i : Nat) (ρ : MEnv) (S : Store) : Option (Nat × List (Key × D)) := match ρ[i]? with
  | some (some (.val (.loc n))) => match S[n]? with
    | some (.dK l) => some (n, l)
    | _ => none
  | _ => none
theorem dictVar_of {i : Nat} {ρ : MEnv} {S : Store} {n : Nat} {l : List (Key × D)} (h : dictVar i ρ S = some (n, l)) : ρ[i]? = some (some (.val (.loc n))) ∧ S[n]? = some (.dK l) := by
  unfold dictVar at h
  split at h
  · rename_i n' e
    split at h
    · rename_i l' e'
      cases h
      exact ⟨e, e'⟩
    · cases h
  · cases h
/-- the statement, while the dict of a name is walked through -/
def mLock (i : Nat) (m : MS) : MS := fun ρ S => match dictVar i ρ S with
  | some (n, l) => (m ρ (S.set n (.dF l))).bind fun fl S2 => .ok fl (S2.set n (.dK l))
  | none => .bad
theorem sm_lock (h : SM X st m) : SM X st (mLock i m) := PS.of (ps_lock h) fun E σ H ⟨g, w, o, ρ, S, fl, S', s, hm, q⟩ => by
  unfold mLock at hm
  split at hm
  · rename_i n l hv
    obtain ⟨e1, e2⟩ := dictVar_of hv
    obtain ⟨f1, S2, h2, hm⟩ := R.bind_ok hm
    cases hm
    obtain ⟨v, _, a, _, hg⟩ := s.val i _ e1
    obtain ⟨kvs, hH, r⟩ := s.sto.cel n _ a e2 hg
    have gD : a ∈ g := List.mem_of_getElem? hg
    refine ⟨a, .dK kvs, hH, trivial, fun od => ?_⟩
    have s1 : Sta X.K g w o ρ (S.set n (.dF l)) σ (upd H a (.frz od (.dK kvs))) := s.updGN (Nt.of hH) hg ⟨kvs, ⟨od, upd_same⟩, RelKv.updN (Nt.of hH) (.inr gD) _ _ r⟩
    have rl : RelKv X.K g (w ++ o) (upd H a (.frz od (.dK kvs))) l kvs := RelKv.updN (Nt.of hH) (.inr gD) _ _ r
    refine ⟨g, w, o, ρ, _, _, S2, s1, h2, fun g' o' H' x => ?_⟩
    have hf : H' a = some (.frz od (.dK kvs)) := x.frz a od _ upd_same
    have xx := ExtS.unlock hH gD x
    have hg' : g'[n]? = some a := x.get hg
    have gD' : a ∈ g' := List.mem_of_getElem? hg'
    have rl' : ∀ f', RelKv X.K g' f' H' l kvs → RelC X.K g' f' (upd H' a (.dK kvs)) a (.dK l) := fun f' r => ⟨kvs, upd_same, RelKv.updN (Nt.frz hf) (.inr gD') _ _ r⟩
    have key : ∀ {σ' : L2.St} {ρ' : MEnv}, Sta X.K g' w o' ρ' S2 σ' H' → Sta X.K g' w o' ρ' (S2.set n (.dK l)) σ' (upd H' a (.dK kvs)) := fun st => by
      refine st.updGN (Nt.frz hf) hg' (rl' _ ?_)
      exact RelKv.extS x l kvs rl
    have Q := q g' o' _ xx
    cases fl with
    | nx ρ' => exact fun σ' st => ⟨hf, Q σ' (key st)⟩
    | bk ρ' => exact fun σ' st => ⟨hf, Q σ' (key st)⟩
    | ct ρ' => exact fun σ' st => ⟨hf, Q σ' (key st)⟩
    | rt d => 
      refine fun v rs rd => ⟨hf, Q v ?_ (RelD.updN (Nt.frz hf) (.inr gD') _ _ rd)⟩
      refine rs.updGN (Nt.frz hf) hg' (rl' _ ?_)
      exact RelKv.less (fun b hb => List.mem_append_left _ hb) _ _ (RelKv.extS x l kvs rl)
  · cases hm
/-- the list that an expression makes, while the dict of a name is walked through -/
def nLock (i : Nat) (m : ML) : ML := fun ρ S => match dictVar i ρ S with
  | some (n, l) => (m ρ (S.set n (.dF l))).bind fun ds S2 => .ok ds (S2.set n (.dK l))
  | none => .bad
theorem nm_lock (h : NM X e ml) : NM X e (nLock i ml) := PE.of (pe_lock h) fun σ H Q ⟨g, w, o, ρ, S, ds, S', s, hm, q⟩ => by
  unfold nLock at hm
  split at hm
  · rename_i n l hv
    obtain ⟨e1, e2⟩ := dictVar_of hv
    obtain ⟨d1, S2, h2, hm⟩ := R.bind_ok hm
    cases hm
    obtain ⟨v, _, a, _, hg⟩ := s.val i _ e1
    obtain ⟨kvs, hH, r⟩ := s.sto.cel n _ a e2 hg
    have gD : a ∈ g := List.mem_of_getElem? hg
    refine ⟨a, .dK kvs, hH, trivial, fun od => ?_⟩
    have s1 : Sta X.K g w o ρ (S.set n (.dF l)) σ (upd H a (.frz od (.dK kvs))) := s.updGN (Nt.of hH) hg ⟨kvs, ⟨od, upd_same⟩, RelKv.updN (Nt.of hH) (.inr gD) _ _ r⟩
    have rl : RelKv X.K g (w ++ o) (upd H a (.frz od (.dK kvs))) l kvs := RelKv.updN (Nt.of hH) (.inr gD) _ _ r
    refine ⟨g, w, o, ρ, _, _, S2, s1, h2, fun p vs g' H' x hp hn hl rs rd => ?_⟩
    have hf : H' a = some (.frz od (.dK kvs)) := x.frz a od _ upd_same
    have hg' : g'[n]? = some a := x.get hg
    have gD' : a ∈ g' := List.mem_of_getElem? hg'
    have hpa : p ≠ a := fun z => by subst z; rw [upd_same] at hp; cases hp
    refine ⟨hf, q p vs g' _ (Ext.unlock hH gD x) (by rwa [upd_ne hpa] at hp) hn (by rw [upd_ne hpa]; exact hl) ?_ (RelDs.updN (Nt.frz hf) (.inr gD') _ _ rd)⟩
    refine rs.updGN (Nt.frz hf) hg' ⟨kvs, upd_same, RelKv.updN (Nt.frz hf) (.inr gD') _ _ ?_⟩
    exact RelKv.ext x l kvs (RelKv.fresh hp _ _ rl)
  · cases hm
def keyV : Key → D
  | .inl i => .int i
  | .inr x => .str x
theorem keyV_rel {K : PySem.W.Frag} {g f : List Addr} {H : Hp} (k : Key) : RelD K g f H (keyV k) (kV k) := by cases k <;> rfl
/-- the keys of the walked dict of a name -/
def iKeysF (m : ME) : ML := fun ρ S => (m ρ S).bind fun d S1 => match d with
  | .loc n => match S1[n]? with
    | some (.dF l) => .ok (l.map fun kv => keyV kv.1) S1
    | _ => .bad
  | _ => .bad
theorem RelKv.get {K : PySem.W.Frag} {g f : List Addr} {H : Hp} {κ : Type} : ∀ {l : List (κ × D)} {vs : List (κ × V)} {i : Nat} {kd : κ × D}, RelKv K g f H l vs → l[i]? = some kd → ∃ v, vs[i]? = some (kd.1, v) ∧ RelD K g f H kd.2 v
  | [], _, i, _, _, e => by simp at e
  | d :: ds, _, 0, _, ⟨v, r, e, q, _⟩, h => by
    simp at h; subst h; subst e
    exact ⟨v, rfl, q⟩
  | d :: ds, _, i + 1, _, ⟨v, r, e, _, t⟩, h => by
    subst e
    obtain ⟨v', e1, q⟩ := RelKv.get t (by simpa using h)
    exact ⟨v', by simpa using e1, q⟩
theorem im_keys {tg : Expr} (h : EM X e me) : IM X tg e (iKeysF me) := PI.of (pi_keys h) fun σ H Rr ⟨g, w, o, ρ, S, ks, S', s, hm, q⟩ => by
  obtain ⟨d, S1, h1, h2⟩ := R.bind_ok hm
  split at h2
  · rename_i n
    split at h2
    · rename_i l hn
      cases h2
      refine ⟨g, w, o, ρ, S, _, _, s, h1, fun v g1 H1 x1 s1 ⟨a, ev, hg⟩ => ?_⟩
      obtain ⟨kvs, ⟨ob, hf⟩, r⟩ := s1.cel n _ a hn hg
      refine ⟨a, ob, ev, .inl ⟨kvs, hf, q g1 H1 _ x1 s1 ⟨fun i d g2 o2 H2 hi x2 => ?_, fun i g2 o2 H2 hi x2 => ?_⟩⟩⟩
      · rw [List.getElem?_map] at hi
        cases ei : l[i]? with
        | none => rw [ei] at hi; cases hi
        | some kd =>
          rw [ei] at hi
          cases hi
          obtain ⟨v', e1, _⟩ := RelKv.get r ei
          refine ⟨⟨x2.frz _ _ _ hf, lt_of_get e1⟩, fun y H3 ⟨e3, k, v3, e4, e5⟩ => ?_⟩
          subst e3
          rw [e1] at e4
          cases e4
          subst e5
          exact ⟨.refl, keyV_rel _⟩
      · rw [List.length_map] at hi
        exact ⟨x2.frz _ _ _ hf, by rw [← RelKv.length r]; exact hi⟩
    · cases h2
  · cases h2
@[simp] theorem mLock_eq (i : Nat) (m : MS) (ρ : MEnv) (S : Store) : mLock i m ρ S = (match dictVar i ρ S with
  | some (n, l) => (m ρ (S.set n (.dF l))).bind fun fl S2 => .ok fl (S2.set n (.dK l))
  | none => .bad) := rfl
@[simp] theorem nLock_eq (i : Nat) (m : ML) (ρ : MEnv) (S : Store) : nLock i m ρ S = (match dictVar i ρ S with
  | some (n, l) => (m ρ (S.set n (.dF l))).bind fun ds S2 => .ok ds (S2.set n (.dK l))
  | none => .bad) := rfl
@[simp] theorem dictVar_eq (i : Nat) (ρ : MEnv) (S : Store) : dictVar i ρ S = (match ρ[i]? with
  | some (some (.val (.loc n))) => match S[n]? with
    | some (.dK l) => some (n, l)
    | _ => none
  | _ => none) := rfl
@[simp] theorem iKeysF_eq (m : ME) (ρ : MEnv) (S : Store) : iKeysF m ρ S = (m ρ S).bind fun d S1 => (match d with
  | .loc n => match S1[n]? with
    | some (.dF l) => .ok (l.map fun kv => keyV kv.1) S1
    | _ => .bad
  | _ => .bad) := rfl
@[simp] theorem keyV_inl (i : Int) : keyV (.inl i) = .int i := rfl
end
end Mo
set_option maxRecDepth 100000
set_option maxHeartbeats 1000000
/-! Mo: own lists read and changed, parts of tuples and lists, + of tuples, dict(list of pairs). -/
namespace Mo
open PySem PySem.Spec PyProof.Rows L2

section
variable {X : Cx} {e a b o idx : Expr} {me mb mi : ME} {ml : ML} {mt : MT} {pos p p2 : Pos} {i : Nat}
/-- x[idx], x an own list -/
def mIxO (i : Nat) (mi : ME) : ME := fun ρ S => (mi ρ S).bind fun k S1 => match ρ[i]?, k with
  | some (some (.own (.lst l))), .int j => match atI l j with
    | some d => .ok d S1
    | none => .bad
  | _, _ => .bad
theorem em_ixO (ho : PE X o (tVar i)) (hi : EM X idx mi) (hs : PlainIx idx) : EM X (.Subscript o idx pos) (mIxO i mi) := PE.of (pe_ix ix_list ho hi hs) fun σ H Q ⟨g, w, o, ρ, S, d, S', s, hm, q⟩ => by
  obtain ⟨k, S1, h1, hm⟩ := R.bind_ok hm
  split at hm
  · rename_i l j hl
    split at hm
    · rename_i d' hd
      cases hm
      obtain ⟨a, e1, m, vs, hH, r⟩ := s.own i _ hl
      refine ⟨_, e1, g, w, o, ρ, S, _, _, s, h1, fun v g1 H1 x1 s1 r1 => ?_⟩
      obtain ⟨a', e1', m', vs', hH', r'⟩ := (s.ext x1 s1).own i _ hl
      rw [e1] at e1'; cases e1'
      obtain ⟨v', hv, rv⟩ := r'.atI hd
      exact ⟨a, vs', j, v', rfl, r1, .of hH', hv, q v' g1 H1 x1 s1 rv⟩
    · cases hm
  · cases hm
/-- x[idx] = e, x an own list -/
def mSetO (i : Nat) (mi me : ME) : MS := fun ρ S => (me ρ S).bind fun d S1 => (mi ρ S1).bind fun k S2 => match ρ[i]?, k with
  | some (some (.own (.lst l))), .int j => match ixN l.length j with
    | some m => .ok (.nx (ρ.set i (some (.own (.lst (l.set m d)))))) S2
    | none => .bad
  | _, _ => .bad
theorem sm_setO {st : Stmt} (h : PS X st (tAsg (tE X.K me) (gSub (tVar i) (tE X.K mi) rSetL))) : SM X st (mSetO i mi me) := PS.of h fun E σ H ⟨g, w, o, ρ, S, fl, S', s, hm, q⟩ => by
  obtain ⟨d, S1, h1, hm⟩ := R.bind_ok hm
  obtain ⟨k, S2, h2, hm⟩ := R.bind_ok hm
  split at hm
  · rename_i l j hl
    split at hm
    · rename_i m hmx
      cases hm
      refine ⟨g, w, o, ρ, S, d, S1, s, h1, fun v g1 H1 x1 s1 r1 => ?_⟩
      have t1 := s.ext x1 s1
      obtain ⟨a, e1, _⟩ := t1.own i _ hl
      refine ⟨_, e1, g1, w, o, ρ, S1, _, _, t1, h2, fun vk g2 H2 x2 s2 r2 => ?_⟩
      have t2 := t1.ext x2 s2
      obtain ⟨a', e1', m', vs, hH, r⟩ := t2.own i _ hl
      rw [e1] at e1'; cases e1'
      have mD : Mut (H2 a) := by rw [hH]; trivial
      have fD : a ∈ w ++ o := List.mem_append_right _ m'
      have rv := RelD.ext x2 d v r1
      refine ⟨a, vs, j, m, rfl, r2, hH, by rw [← r.length]; exact hmx, ?_⟩
      exact q g2 o _ (((x1.trans x2).s).trans (.updO mD m')) _ (t2.updO hl e1 mD ⟨_, upd_same, RelDs.upd mD (.inl fD) _ _ (RelDs.set r rv)⟩)
    · cases hm
  · cases hm
/-- a list as a test: it holds something -/
def mTruQ (m : ML) : MT := fun ρ S => (m ρ S).bind fun l S1 => .ok (!l.isEmpty) S1
theorem rel_isEmpty {K : PySem.W.Frag} {g f : List Addr} {H : Hp} {l : List D} {vs : List V} (r : RelDs K g f H l vs) : (!l.isEmpty) = !vs.isEmpty := by
  cases l with
  | nil => cases r; rfl
  | cons d l => obtain ⟨v, r, e, _, _⟩ := r; rw [e]; rfl
theorem tm_truQ (h : QM X e ml) (he : ∀ whole, isTrue e X.env whole = (do let v ← whole; standAt e.pos; holding [v] (truthy v)) := by intro _; rfl) : TM X e (mTruQ ml) := PT.of (pt_truth h he) fun σ H Q ⟨g, w, o, ρ, S, k, S', s, hm, q⟩ => by
  obtain ⟨l, S1, h1, hm⟩ := R.bind_ok hm
  cases hm
  exact ⟨g, w, o, ρ, S, l, _, s, h1, fun a vs g1 H1 x1 s1 hq r1 => ⟨_, .inl ⟨vs, hq, rel_isEmpty r1⟩, q g1 H1 x1 s1⟩⟩
/-- x == e, x != e, x an own list -/
def mEqO (neg : Bool) (i : Nat) (mb : ME) : ME := fun ρ S => (mb ρ S).bind fun y S1 => match ρ[i]? with
  | some (some (.own (.lst l))) => match eqD (.lst l) y with
    | some k => .ok (.bl (k != neg)) S1
    | none => .bad
  | _ => .bad
theorem eqO_of {neg : Bool} {r : R2} (hr : ∀ x y H Q d e, Dp X.K H x d → Dp X.K H y e → SeqAt.shaped d = true → SeqAt.shaped e = true → Q (.bl (PyData.eqv d e != neg)) H → r x y H Q) {σ : L2.St} {H : Hp} {Q : VK} (q : tE X.K (mEqO neg i mb) σ H Q) : tOp r (tVar i) (tE X.K mb) σ H Q := by
  obtain ⟨g, w, o, ρ, S, d, S', s, hm, q⟩ := q
  obtain ⟨y, S1, h1, hm⟩ := R.bind_ok hm
  split at hm
  · rename_i l hl
    split at hm
    · rename_i k hk
      cases hm
      obtain ⟨a, e1, _⟩ := s.own i _ hl
      refine ⟨_, e1, g, w, o, ρ, S, y, _, s, h1, fun v g1 H1 x1 s1 r1 => ?_⟩
      obtain ⟨a', e1', m', vs, hH, r⟩ := (s.ext x1 s1).own i _ hl
      rw [e1] at e1'; cases e1'
      obtain ⟨p1, p2, t1, t2, h3, h4, rfl⟩ := eqD_of hk
      unfold toP at t1
      cases hp : toPs l with
      | none => rw [hp] at t1; cases t1
      | some ps =>
        rw [hp] at t1; cases t1
        exact hr _ _ _ _ _ _ (.lst (.of hH) (RelDs.dp l vs ps r hp)) (RelD.dp _ _ _ r1 t2) h3 h4 (q _ g1 H1 x1 s1 rfl)
    · cases hm
  · cases hm
theorem em_eqO (hu : X.A.units + 64 < cLine) (ho : PE X a (tVar i)) (hb : EM X b mb) (hm : behindInMarks .Eq b = false) : EM X (.Compare a [.Eq] [b] pos) (mEqO false i mb) :=
  PE.of (pe_cmpR (op_eqD hu) ho hb hm) fun σ H Q q => eqO_of (fun x y H Q d e h1 h2 h3 h4 q => ⟨d, e, h1, h2, h3, h4, by simpa using q⟩) q
theorem em_neO (hu : X.A.units + 64 < cLine) (ho : PE X a (tVar i)) (hb : EM X b mb) (hm : behindInMarks .NotEq b = false) : EM X (.Compare a [.NotEq] [b] pos) (mEqO true i mb) :=
  PE.of (pe_cmpR (op_neD hu) ho hb hm) fun σ H Q q => eqO_of (fun x y H Q d e h1 h2 h3 h4 q => ⟨d, e, h1, h2, h3, h4, by simpa using q⟩) q
theorem tm_eqO (hu : X.A.units + 64 < cLine) (ho : PE X a (tVar i)) (hb : EM X b mb) (hm : behindInMarks .Eq b = false) : TM X (.Compare a [.Eq] [b] pos) (mB (mEqO false i mb)) :=
  tm_ofB (pt_cmpR (op_eqD hu) ho hb hm) fun σ H Q q => eqO_of (fun x y H Q d e h1 h2 h3 h4 q => ⟨d, e, h1, h2, h3, h4, by simpa using q⟩) q
theorem tm_neO (hu : X.A.units + 64 < cLine) (ho : PE X a (tVar i)) (hb : EM X b mb) (hm : behindInMarks .NotEq b = false) : TM X (.Compare a [.NotEq] [b] pos) (mB (mEqO true i mb)) :=
  tm_ofB (pt_cmpR (op_neD hu) ho hb hm) fun σ H Q q => eqO_of (fun x y H Q d e h1 h2 h3 h4 q => ⟨d, e, h1, h2, h3, h4, by simpa using q⟩) q
/-! ### parts -/
abbrev MO := MEnv → Store → R (Option Int)
def tO (K : PySem.W.Frag) (m : MO) : TO := fun σ H Q => ∃ g w o ρ S k S', Sta K g w o ρ S σ H ∧ m ρ S = .ok k S' ∧ ∀ g' H', Ext g H g' H' → RelS K g' (w ++ o) H' S' → Q k H'
def OM (X : Cx) (e : Option Expr) (m : MO) : Prop := PO X e (tO X.K m)
theorem PO.of {oe : Option Expr} {t t' : TO} (h : PO X oe t) (i : ∀ σ H Q, t' σ H Q → t σ H Q) : PO X oe t' := ⟨fun pins s σ H Q I q => h.run pins s σ H Q I (i σ H Q q)⟩
def oNone : MO := fun _ S => .ok none S
def oSome (m : ME) : MO := fun ρ S => (m ρ S).bind fun d S1 => match d with
  | .int j => .ok (some j) S1
  | _ => .bad
theorem om_none : OM X none oNone := PO.of po_none fun σ H Q ⟨g, w, o, ρ, S, k, S', s, hm, q⟩ => by
  cases hm
  exact q g H .refl s.sto
theorem om_some (h : EM X e me) : OM X (some e) (oSome me) := PO.of (po_some h) fun σ H Q ⟨g, w, o, ρ, S, k, S', s, hm, q⟩ => by
  obtain ⟨d, S1, h1, h2⟩ := R.bind_ok hm
  split at h2
  · cases h2
    exact ⟨g, w, o, ρ, S, _, _, s, h1, fun v g1 H1 x1 s1 r1 => ⟨_, r1, q g1 H1 x1 s1⟩⟩
  · cases h2
def cutD (l : List D) (lo hi : Option Int) : List D := (l.drop (HT.sIx l.length 0 lo)).take (HT.sIx l.length l.length hi - HT.sIx l.length 0 lo)
theorem RelDs.drop {K : PySem.W.Frag} {g f : List Addr} {H : Hp} : ∀ {l : List D} {vs : List V} (n : Nat), RelDs K g f H l vs → RelDs K g f H (l.drop n) (vs.drop n)
  | _, _, 0, h => h
  | [], _, n + 1, h => by cases h; rfl
  | d :: l, _, n + 1, ⟨v, r, e, _, t⟩ => by subst e; exact RelDs.drop n t
theorem RelDs.take {K : PySem.W.Frag} {g f : List Addr} {H : Hp} : ∀ {l : List D} {vs : List V} (n : Nat), RelDs K g f H l vs → RelDs K g f H (l.take n) (vs.take n)
  | _, _, 0, _ => rfl
  | [], _, n + 1, h => by cases h; rfl
  | d :: l, _, n + 1, ⟨v, r, e, q, t⟩ => by subst e; exact ⟨v, _, rfl, q, RelDs.take n t⟩
theorem RelDs.cut {K : PySem.W.Frag} {g f : List Addr} {H : Hp} {l : List D} {vs : List V} (r : RelDs K g f H l vs) (lo hi : Option Int) : RelDs K g f H (cutD l lo hi) (cutV vs lo hi) := by
  unfold cutD cutV
  rw [← r.length]
  exact RelDs.take _ (RelDs.drop _ r)
theorem cutD_whole {l : List D} {lo hi : Option Int} (h : HT.sIx l.length 0 lo = 0 ∧ HT.sIx l.length l.length hi = l.length) : cutD l lo hi = l := by
  unfold cutD
  rw [h.1, h.2, List.drop_zero, Nat.sub_zero, List.take_length]
/-- t[lo:hi], t a tuple -/
def mSlT (me : ME) (ml mh : MO) : ME := fun ρ S => (me ρ S).bind fun d S1 => (ml ρ S1).bind fun lo S2 => (mh ρ S2).bind fun hi S3 => match d with
  | .tup l => .ok (.tup (cutD l lo hi)) S3
  | _ => .bad
variable {lo hi : Option Expr} {mlo mhi : MO}
theorem em_slT (he : EM X e me) (hl : OM X lo mlo) (hh : OM X hi mhi) : EM X (.Subscript e (.Slice lo hi none p2) pos) (mSlT me mlo mhi) := PE.of (pe_slice sl_tupA he hl hh) fun σ H Q ⟨g, w, o, ρ, S, d, S', s, hm, q⟩ => by
  obtain ⟨d1, S1, h1, hm⟩ := R.bind_ok hm
  obtain ⟨k1, S2, h2, hm⟩ := R.bind_ok hm
  obtain ⟨k2, S3, h3, hm⟩ := R.bind_ok hm
  split at hm
  · rename_i l
    cases hm
    refine ⟨g, w, o, ρ, S, _, S1, s, h1, fun v g1 H1 x1 s1 r1 => ?_⟩
    have t1 := s.ext x1 s1
    refine ⟨g1, w, o, ρ, S1, _, S2, t1, h2, fun g2 H2 x2 s2 => ?_⟩
    have t2 := t1.ext x2 s2
    refine ⟨g2, w, o, ρ, S2, _, _, t2, h3, fun g3 H3 x3 s3 => ?_⟩
    obtain ⟨a, vs, ev, hq, r⟩ := RelD.ext (x2.trans x3) _ _ r1
    refine ⟨a, vs, ev, hq, fun hw => ?_, fun _ t ht => ?_⟩
    · rw [← r.length] at hw
      rw [cutD_whole hw] at q
      exact q _ g3 H3 ((x1.trans x2).trans x3) s3 ⟨a, vs, rfl, hq, r⟩
    · exact q _ g3 _ (((x1.trans x2).trans x3).trans (.new ht)) (s3.new ht) ⟨t, _, rfl, .inl (.inl upd_same), RelDs.ext (.new ht) _ _ (r.cut k1 k2)⟩
  · cases hm
/-- x[lo:hi], x a list: a new one -/
def mSlQ (me : ML) (ml mh : MO) : ML := fun ρ S => (me ρ S).bind fun l S1 => (ml ρ S1).bind fun lo S2 => (mh ρ S2).bind fun hi S3 => .ok (cutD l lo hi) S3
/-- the parts' bounds do nothing: x may be any list -/
def Still (m : MO) : Prop := ∀ ρ S k S', m ρ S = .ok k S' → S' = S
/-- .. of a list that rests -/
theorem nm_slL (he : EM X e me) (hl : OM X lo mlo) (hh : OM X hi mhi) : NM X (.Subscript e (.Slice lo hi none p2) pos) (mSlQ (iLst me) mlo mhi) := PE.of (pe_slice sl_list he hl hh) fun σ H Q ⟨g, w, o, ρ, S, d, S', s, hm, q⟩ => by
  obtain ⟨l, S1, h1, hm⟩ := R.bind_ok hm
  obtain ⟨k1, S2, h2, hm⟩ := R.bind_ok hm
  obtain ⟨k2, S3, h3, hm⟩ := R.bind_ok hm
  cases hm
  obtain ⟨d1, S0, h0, h1⟩ := R.bind_ok h1
  obtain ⟨rfl, rfl⟩ := seqD_ok h1
  refine ⟨g, w, o, ρ, S, _, _, s, h0, fun v g1 H1 x1 s1 r1 => ?_⟩
  have t1 := s.ext x1 s1
  refine ⟨g1, w, o, ρ, _, _, S2, t1, h2, fun g2 H2 x2 s2 => ?_⟩
  have t2 := t1.ext x2 s2
  refine ⟨g2, w, o, ρ, S2, _, _, t2, h3, fun g3 H3 x3 s3 => ?_⟩
  obtain ⟨a, vs, ev, hq, r⟩ := RelD.ext (x2.trans x3) _ _ r1
  refine ⟨a, vs, ev, hq.sq, ?_⟩
  have q' : FinN X.K g3 (w ++ o) H3 (cutD l k1 k2) _ Q := fun p vs g4 H4 x4 hp n4 e4 s4 r4 => q p vs g4 H4 (((x1.trans x2).trans x3).trans x4) (back_none x1 (back_none x2 (back_none x3 hp))) n4 e4 s4 r4
  exact q'.put s3 (r.cut k1 k2)
/-! ### + of tuples -/
def gCatT : G2 := fun x y S => match x, y with
  | .tup l, .tup m => if l.length + m.length ≤ sizeLine then .ok (.tup (l ++ m)) S else .bad
  | _, _ => .bad
theorem rel_nil {K : PySem.W.Frag} {g f : List Addr} {H : Hp} {l : List D} {vs : List V} (r : RelDs K g f H l vs) (h : vs = []) : l = [] := by
  have := r.length
  rw [h] at this
  exact List.eq_nil_of_length_eq_zero this
theorem od_catT {K : PySem.W.Frag} : OpD K (rCatA K) gCatT := by
  intro g f H S dx dy d S' x y Q s rx ry hm q
  unfold gCatT at hm
  split at hm
  · split at hm
    · rename_i l m hz
      cases hm
      obtain ⟨a, vs, ea, ha, ra⟩ := rx
      obtain ⟨b, us, eb, hb, rb⟩ := ry
      refine ⟨a, b, vs, us, ea, eb, ha, hb, by rw [← ra.length, ← rb.length]; exact hz, fun h => ?_, fun _ h => ?_, fun _ _ t ht => ?_⟩
      · have := rel_nil ra h
        subst this
        exact q.same s ⟨b, us, rfl, hb, by simpa using rb⟩
      · have := rel_nil rb h
        subst this
        exact q.same s ⟨a, vs, rfl, ha, by simpa using ra⟩
      · exact q _ g _ (.new ht) (s.new ht) ⟨t, _, rfl, .inl (.inl upd_same), RelDs.ext (.new ht) _ _ (RelDs.append ra rb)⟩
    · cases hm
  · cases hm
/-- numbers first, then tuples -/
def gAddA : G2 := gOr gAddI gCatT
theorem od_addA {K : PySem.W.Frag} : OpD K (fun x y H Q => rI0 (fun i j => .int (i + j)) x y H Q ∨ rCatA K x y H Q) gAddA := OpD.or od_add od_catT
theorem op_addA : OpR X (binaryOp .Add) (fun x y H Q => rI0 (fun i j => .int (i + j)) x y H Q ∨ rCatA X.K x y H Q) := op_add.or op_catA
/-! ### dict(a list of pairs) -/
def pairsD : List D → Option (List (Key × D))
  | [] => some []
  | .tup [k, d] :: r => match keyD k, pairsD r with
    | some k, some l => some ((k, d) :: l)
    | _, _ => none
  | _ => none
def mergeD (kvs more : List (Key × D)) : List (Key × D) := more.foldl (fun acc kv => putA acc kv.1 kv.2) kvs
def mDictQ (ml : ML) : ME := fun ρ S => (ml ρ S).bind fun l S1 => match pairsD l with
  | some kvs => .ok (.loc S1.length) (S1 ++ [.dK (mergeD [] kvs)])
  | none => .bad
theorem pairs_rel {K : PySem.W.Frag} {g f : List Addr} {H : Hp} : ∀ {l : List D} {vs : List V} {kvs : List (Key × D)}, RelDs K g f H l vs → pairsD l = some kvs →
    ∃ (ps : List Addr) (us : List (Key × V)), vs = ps.map V.ref ∧ Paired (fun p kv => SqT K H p [kV kv.1, kv.2]) ps us ∧ RelKv K g f H kvs us
  | [], _, _, r, h => by cases h; cases r; exact ⟨[], [], rfl, .nil, rfl⟩
  | d :: l, _, _, ⟨v, r, e, q, t⟩, h => by
    unfold pairsD at h
    split at h
    · rename_i h0; cases h0
    · rename_i k d' l' h0
      cases h0
      split at h
      · rename_i k' kvs' hk hp
        cases h
        obtain ⟨ps, us, e1, pr, rk⟩ := pairs_rel t hp
        obtain ⟨a, xs, ea, ha, vk, r1, e2, rk1, vd, r2, e3, rd, e4⟩ := q
        subst ea; subst e2; subst e3; subst e4
        refine ⟨a :: ps, (k', vd) :: us, by rw [e, e1]; rfl, .cons ?_ pr, ⟨vd, us, rfl, rd, rk⟩⟩
        rw [← keyD_rel rk1 hk]
        exact ha
      · cases h
    · cases h
theorem merge_rel {K : PySem.W.Frag} {g f : List Addr} {H : Hp} : ∀ {more : List (Key × D)} {us : List (Key × V)} {kvs : List (Key × D)} {vs : List (Key × V)}, RelKv K g f H more us → RelKv K g f H kvs vs → RelKv K g f H (mergeD kvs more) (mergeK vs us)
  | [], _, _, _, h, r => by cases h; exact r
  | (k, d) :: more, _, kvs, vs, ⟨v, us, e, q, t⟩, r => by
    subst e
    show RelKv K g f H (mergeD (putA kvs k d) more) (mergeK (putK vs k v) us)
    exact merge_rel t (r.put q)
theorem em_dictQ (hc : X.calm = true) (h : QM X e ml) (hg : Gl X "dict") (hm : X.mg "dict" = none) (hb : bootBuiltins "dict" = some (.type "dict") := by decide +kernel) (hs : starEach [e] X.env = (false, eval e X.env) :: starEach [] X.env := by rfl) (hpl : (backTo pos (starEach [] X.env)).any (·.1) = false := by rfl) :
    EM X (.Call (.Name "dict" p) [e] [] pos) (mDictQ ml) :=
  PE.of (pe_callTy (call_dictP hc) hg hm hb (b1 h hs) (by decide) (by decide) hs hpl) fun σ H Q ⟨g, w, o, ρ, S, d, S', s, hm, q⟩ => by
    obtain ⟨l, S1, h1, hm⟩ := R.bind_ok hm
    split at hm
    · rename_i kvs hk
      cases hm
      refine ⟨g, w, o, ρ, S, l, S1, s, h1, fun a vs g1 H1 x1 s1 hq r1 => ?_⟩
      obtain ⟨ps, us, e1, pr, rk⟩ := pairs_rel r1 hk
      subst e1
      refine ⟨a, ps, us, rfl, hq, pr, fun t ht => ?_⟩
      have x2 : Ext g1 H1 (g1 ++ [t]) (upd H1 t (.dK (mergeK [] us))) := ⟨⟨[t], rfl, fun b hb => by rw [List.mem_singleton.mp hb]; exact ht⟩, fun a u h _ => (Ext.new (g := []) ht).keep a u h (by simp), (Ext.new (g := []) ht).live, (Ext.new (g := []) ht).tups, (Ext.new (g := []) ht).frz⟩
      have rm : RelKv X.K g1 (w ++ o) H1 (mergeD [] kvs) (mergeK [] us) := merge_rel rk rfl
      refine q _ (g1 ++ [t]) _ (x1.trans x2) (((s1.fresh ht).new ht).addG (s1.noG ht) (c := .dK (mergeD [] kvs)) ⟨_, upd_same, ?_⟩) ⟨t, rfl, by rw [← s1.len]; exact List.getElem?_concat_length⟩
      exact RelKv.ext (.new ht) _ _ (RelKv.fresh ht _ _ rm)
    · cases hm
end
end Mo
set_option maxRecDepth 100000
set_option maxHeartbeats 1000000
/-! Mo: data in order, data in tuples and lists, extend. -/
namespace Mo
open PySem PySem.Spec PyProof.Rows L2
section
variable {X : Cx}
/-- data compared: both are of like kinds -/
def rCmp (K : PySem.W.Frag) (h : PyData → PyData → Bool) : R2 := fun x y H Q => ∃ p q, Dp K H x p ∧ Dp K H y q ∧ PySem.W.alike p q = true ∧ p ≠ .none ∧ p.depth ≤ 60 ∧ Q (.bl (h p q)) H
theorem room60 {A : Around} {p q : PyData} (hu : A.units + 64 < cLine) (h : p.depth ≤ 60) : A.units + min p.depth q.depth < cLine := by
  have : min p.depth q.depth ≤ p.depth := Nat.min_le_left _ _
  omega
theorem op_ltA (hu : X.A.units + 64 < cLine) : OpR X (compareOp .Lt) (rCmp X.K fun p q => PySem.W.dataLt p q) := by
  intro pins s σ H x y v u Q I rx ry ⟨p, q, hp, hq, ha, hn, hd, k⟩
  obtain ⟨as, r1⟩ := Dp.reads I p x v hp rx
  obtain ⟨bs, r2⟩ := Dp.reads I q y u hq ry
  exact PySem.W.lt_data r1 r2 ha hn (room60 hu hd) ⟨.bl _, H, I, rfl, k⟩
theorem op_gtA (hu : X.A.units + 64 < cLine) : OpR X (compareOp .Gt) (rCmp X.K fun p q => PySem.W.dataLt q p) := by
  intro pins s σ H x y v u Q I rx ry ⟨p, q, hp, hq, ha, hn, hd, k⟩
  obtain ⟨as, r1⟩ := Dp.reads I p x v hp rx
  obtain ⟨bs, r2⟩ := Dp.reads I q y u hq ry
  exact PySem.W.gt_data r1 r2 ha hn (room60 hu hd) ⟨.bl _, H, I, rfl, k⟩
theorem op_leA (hu : X.A.units + 64 < cLine) : OpR X (compareOp .LtE) (rCmp X.K fun p q => !PySem.W.dataLt q p) := by
  intro pins s σ H x y v u Q I rx ry ⟨p, q, hp, hq, ha, hn, hd, k⟩
  obtain ⟨as, r1⟩ := Dp.reads I p x v hp rx
  obtain ⟨bs, r2⟩ := Dp.reads I q y u hq ry
  exact PySem.W.le_data r1 r2 ha hn (room60 hu hd) ⟨.bl _, H, I, rfl, k⟩
theorem op_geA (hu : X.A.units + 64 < cLine) : OpR X (compareOp .GtE) (rCmp X.K fun p q => !PySem.W.dataLt p q) := by
  intro pins s σ H x y v u Q I rx ry ⟨p, q, hp, hq, ha, hn, hd, k⟩
  obtain ⟨as, r1⟩ := Dp.reads I p x v hp rx
  obtain ⟨bs, r2⟩ := Dp.reads I q y u hq ry
  exact PySem.W.ge_data r1 r2 ha hn (room60 hu hd) ⟨.bl _, H, I, rfl, k⟩
def gCmp (h : PyData → PyData → Bool) : G2 := fun x y S => match toP x, toP y with
  | some p, some q => if PySem.W.alike p q = true ∧ notNoneP p = true ∧ p.depth ≤ 60 then .ok (.bl (h p q)) S else .bad
  | _, _ => .bad
theorem od_cmp {K : PySem.W.Frag} {h : PyData → PyData → Bool} : OpD K (rCmp K h) (gCmp h) := by
  intro g f H S dx dy d S' x y Q s rx ry hm q
  unfold gCmp at hm
  split at hm
  · rename_i p p' hp hp'
    split at hm
    · rename_i hc
      cases hm
      have hn : p ≠ .none := fun e => by rw [e] at hc; exact absurd hc.2.1 (by decide)
      exact ⟨p, p', RelD.dp _ _ _ rx hp, RelD.dp _ _ _ ry hp', hc.1, hn, hc.2.2, q.same s rfl⟩
    · cases hm
  · cases hm
abbrev gLtA : G2 := gCmp fun p q => PySem.W.dataLt p q
abbrev gGtA : G2 := gCmp fun p q => PySem.W.dataLt q p
abbrev gLeA : G2 := gCmp fun p q => !PySem.W.dataLt q p
abbrev gGeA : G2 := gCmp fun p q => !PySem.W.dataLt p q
/-! ### x in e -/
def seqP : PyData → Option (List PyData)
  | .list ps => some ps
  | .tuple ps => some ps
  | _ => none
def rInA (K : PySem.W.Frag) (neg : Bool) : R2 := fun x y H Q => ∃ p q ps, Dp K H x p ∧ Dp K H y q ∧ seqP q = some ps ∧ SeqAt.shaped p = true ∧ SeqAt.shaped q = true ∧ Q (.bl ((ps.any fun z => PyData.eqv z p) != neg)) H
theorem op_inA (hu : X.A.units + 65 < cLine) : OpR X (compareOp .In) (rInA X.K false) := by
  intro pins s σ H x y v u Q I rx ry ⟨p, q, ps, hp, hq, hs, sp, sq, k⟩
  obtain ⟨as, r1⟩ := Dp.reads I p x v hp rx
  obtain ⟨bs, r2⟩ := Dp.reads I q y u hq ry
  cases q with
  | list qs =>
    cases hs
    exact SeqAt.in_list_reads r2 r1 (SeqAt.canLay_of_shaped sq) (SeqAt.canLay_of_shaped sp) (room_in_shaped sp hu) ⟨.bl _, H, I, rfl, by simpa using k⟩
  | tuple qs =>
    cases hs
    exact SeqAt.in_tuple_reads r2 r1 (SeqAt.canLay_of_shaped sq) (SeqAt.canLay_of_shaped sp) (room_in_shaped sp hu) ⟨.bl _, H, I, rfl, by simpa using k⟩
  | _ => cases hs
theorem op_notInA (hu : X.A.units + 65 < cLine) : OpR X (compareOp .NotIn) (rInA X.K true) := by
  intro pins s σ H x y v u Q I rx ry ⟨p, q, ps, hp, hq, hs, sp, sq, k⟩
  obtain ⟨as, r1⟩ := Dp.reads I p x v hp rx
  obtain ⟨bs, r2⟩ := Dp.reads I q y u hq ry
  cases q with
  | list qs =>
    cases hs
    exact SeqAt.notIn_list_reads r2 r1 (SeqAt.canLay_of_shaped sq) (SeqAt.canLay_of_shaped sp) (room_in_shaped sp hu) ⟨.bl _, H, I, rfl, by simpa using k⟩
  | tuple qs =>
    cases hs
    exact SeqAt.notIn_tuple_reads r2 r1 (SeqAt.canLay_of_shaped sq) (SeqAt.canLay_of_shaped sp) (room_in_shaped sp hu) ⟨.bl _, H, I, rfl, by simpa using k⟩
  | _ => cases hs
def gInA (neg : Bool) : G2 := fun x y S => match toP x, toP y with
  | some p, some q => match seqP q with
    | some ps => if SeqAt.shaped p = true ∧ SeqAt.shaped q = true then .ok (.bl ((ps.any fun z => PyData.eqv z p) != neg)) S else .bad
    | none => .bad
  | _, _ => .bad
theorem od_inA {K : PySem.W.Frag} {neg : Bool} : OpD K (rInA K neg) (gInA neg) := by
  intro g f H S dx dy d S' x y Q s rx ry hm q
  unfold gInA at hm
  split at hm
  · rename_i p p' hp hp'
    split at hm
    · rename_i ps hs
      split at hm
      · rename_i hc
        cases hm
        exact ⟨p, p', ps, RelD.dp _ _ _ rx hp, RelD.dp _ _ _ ry hp', hs, hc.1, hc.2, q.same s rfl⟩
      · cases hm
    · cases hm
  · cases hm
/-! ### extend, list(a tuple) -/
variable {e a b o idx : Expr} {me mb mi : ME} {ml : ML} {pos p : Pos} {i : Nat}
theorem qm_tup_list (h : EM X e me) (hg : Gl X "list") (hm : X.mg "list" = none) (hb : bootBuiltins "list" = some (.type "list") := by decide +kernel) (hs : starEach [e] X.env = (false, eval e X.env) :: starEach [] X.env := by rfl) (hpl : (backTo pos (starEach [] X.env)).any (·.1) = false := by rfl) :
    NM X (.Call (.Name "list" p) [e] [] pos) (iTup me) :=
  PE.of (pe_callTy call_list_of hg hm hb (b1 h hs) (by decide) (by decide) hs hpl) fun σ H Q ⟨g, w, o, ρ, S, d, S', s, hm, q⟩ => by
    obtain ⟨c, S1, h1, h2⟩ := R.bind_ok hm
    obtain ⟨rfl, rfl⟩ := tupD_ok h2
    refine ⟨g, w, o, ρ, S, _, _, s, h1, fun v g1 H1 x1 s1 ⟨a, vs, ev, hq, r⟩ => ?_⟩
    subst ev
    have q' : FinN X.K g1 (w ++ o) H1 d _ Q := fun p vs g2 H2 x2 hp n2 e2 s2 r2 => q p vs g2 H2 (x1.trans x2) (back_none x1 hp) n2 e2 s2 r2
    exact ⟨a, vs, rfl, .inr hq, q'.put s1 r⟩
/-- x.extend(a new list), x an own list -/
def mExt (i : Nat) (ml : ML) : MS := fun ρ S => (ml ρ S).bind fun ds S1 => match ρ[i]? with
  | some (some (.own (.lst l))) => if l.length + ds.length ≤ sizeLine then .ok (.nx (ρ.set i (some (.own (.lst (l ++ ds)))))) S1 else .bad
  | _ => .bad
theorem sm_extend {o : Expr} {apos cpos spos : Pos} (ho : PE X o (tVar i)) (ha : NM X e ml) (hbase : attributeBase o "extend" X.env (eval o X.env) = eval o X.env := by rfl)
    (hfew : ((backTo cpos (starEach [e] X.env)).all (fun x => !x.1) && (backToKw cpos (keywordEach [] X.env)).all (fun x => x.1.isSome) && decide ([e].length + ([] : List Keyword).length + (if ([] : List Keyword).isEmpty then 0 else 1) < 30)) = true := by rfl)
    (hline : (apos.endLine == cpos.line) = true := by rfl) (hs : starEach [e] X.env = (false, eval e X.env) :: starEach [] X.env := by rfl) (hplain : (backTo cpos (starEach [] X.env)).any (·.1) = false := by rfl)
    (hsw : swapsWith (.Call (.Attribute o "extend" apos) [e] [] cpos) none spos.line X.env = pure false := by rfl) : SM X (.Expr (.Call (.Attribute o "extend" apos) [e] [] cpos) spos) (mExt i ml) :=
  PS.of (ps_expr (pe_bm PySem.F.plainAttrs_list PySem.F.slot_list_extend PySem.F.type_list_extend mt_extend ho (pa_cons ha pa_nil hs) hbase hfew hline hs hplain) hsw) fun E σ H ⟨g, w, o, ρ, S, fl, S', s, hm, q⟩ => by
    obtain ⟨ds, S1, h1, hm⟩ := R.bind_ok hm
    split at hm
    · rename_i l hl
      split at hm
      · rename_i hz
        cases hm
        obtain ⟨a, e1, m, vs, hH, r⟩ := s.own i _ hl
        refine ⟨_, e1, .inl ⟨rfl, vs, .of hH⟩, ?_⟩
        refine ⟨g, w, o, ρ, S, ds, _, s, h1, fun p us g1 H1 x1 hp n1 eH s1 r1 => ?_⟩
        have st1 := s.ext x1 (s1.less sub_app)
        obtain ⟨a', e1', m', vs', hH', r'⟩ := st1.own i _ hl
        rw [e1] at e1'; cases e1'
        have mD : Mut (H1 a) := by rw [hH']; trivial
        have fD : a ∈ w ++ o := List.mem_append_right _ m
        refine ⟨a, p, vs', us, rfl, rfl, hH', eH, by rw [← r'.length, ← r1.length]; exact hz, q g1 o _ (x1.s.trans (.updO mD m)) _ (st1.updO hl e1 mD ?_)⟩
        exact ⟨vs' ++ us, upd_same, RelDs.upd mD (.inl fD) _ _ (RelDs.append r' (RelDs.less sub_app _ _ r1))⟩
      · cases hm
    · cases hm
theorem hu65 {A : Around} {k : Nat} (hr : Room k A) : A.units + 65 < cLine := by have := hr.un; omega
@[simp] theorem mRest_eq (i : Nat) (m : MS) (ρ : MEnv) (S : Store) : mRest i m ρ S = m (restAt i ρ) S := rfl
@[simp] theorem restAt_eq (i : Nat) (ρ : MEnv) : restAt i ρ = (match ρ[i]? with
  | some (some (.own (.lst l))) => ρ.set i (some (.val (.lst l)))
  | _ => ρ) := rfl
@[simp] theorem mExt_eq (i : Nat) (ml : ML) (ρ : MEnv) (S : Store) : mExt i ml ρ S = (ml ρ S).bind fun ds S1 => (match ρ[i]? with
  | some (some (.own (.lst l))) => if l.length + ds.length ≤ PySem.sizeLine then .ok (.nx (ρ.set i (some (.own (.lst (l ++ ds)))))) S1 else .bad
  | _ => .bad) := rfl
@[simp] theorem iTup_eq (m : ME) (ρ : MEnv) (S : Store) : iTup m ρ S = (m ρ S).bind tupD := rfl
@[simp] theorem tupD_tup (l : List D) (S : Store) : tupD (.tup l) S = .ok l S := rfl
end
end Mo
set_option maxRecDepth 100000
set_option maxHeartbeats 1000000
/-! Mo: an own list is returned. -/
namespace Mo
open PySem PySem.Spec PyProof.Rows L2
section
variable {X : Cx} {e : Expr} {pos : Pos} {i : Nat}
def mRetO (i : Nat) : MS := fun ρ S => match ρ[i]? with
  | some (some (.own (.lst l))) => .ok (.rt (.lst l)) S
  | _ => .bad
theorem sm_retO (h : PE X e (tVar i)) : SM X (.Return (some e) pos) (mRetO i) := PS.of (ps_ret h) fun E σ H ⟨g, w, o, ρ, S, fl, S', s, hm, q⟩ => by
  unfold mRetO at hm
  split at hm
  · rename_i l hl
    cases hm
    obtain ⟨a, e1, m, vs, hH, r⟩ := s.own i _ hl
    have sub : ∀ b ∈ w, b ∈ w ++ o := fun b hb => List.mem_append_left _ hb
    exact ⟨_, e1, q g o H .refl _ (s.sto.less sub) ⟨a, vs, rfl, ⟨(s.out a m).1, (s.out a m).2, hH⟩, RelDs.less sub _ _ r⟩⟩
  · cases hm
@[simp] theorem mRetO_eq (i : Nat) (ρ : MEnv) (S : Store) : mRetO i ρ S = (match ρ[i]? with
  | some (some (.own (.lst l))) => .ok (.rt (.lst l)) S
  | _ => .bad) := rfl
end
end Mo
set_option maxRecDepth 100000
set_option maxHeartbeats 1000000
/-! Mo: isinstance of data, is of truths, zip, sorted backwards, a = b = e, x += e. -/
namespace Mo
open PySem PySem.Spec PyProof.Rows L2

section
variable {X : Cx} {e e2 a b : Expr} {me ma mb : ME} {ml l : MA} {p pos tpos : Pos}

/-! ### isinstance(x, a built-in type) -/
theorem em_ty {n : Str} {s : String} (hg : Gl X n) (hm : X.mg n = none) (hv : bootBuiltins n = some (.type s)) (hn : n ≠ "__name__" := by decide) (hd : (n == ("__debug__" : Str)) = false := by decide) : EM X (.Name n pos) (mC (.raw (.ty s))) :=
  em_c (pe_bltn (v := .ty s) hg hm hv rfl hn hd) fun _ _ _ _ => rfl
/-- what type data have -/
def tyD : D → Store → Option String
  | .non, _ => some "NoneType"
  | .bl _, _ => some "bool"
  | .int _, _ => some "int"
  | .str _, _ => some "str"
  | .tup _, _ => some "tuple"
  | .lst _, _ => some "list"
  | .loc n, S => match S[n]? with
    | some (.lst _) => some "list"
    | some (.dK _) => some "dict"
    | some (.dT _) => none
    | some (.dF _) => some "dict"
    | none => none
  | _, _ => none
theorem tyD_rel {K : PySem.W.Frag} {g f : List Addr} {H : Hp} {S : Store} (s : RelS K g f H S) {d : D} {v : V} {t : String} (r : RelD K g f H d v) (h : tyD d S = some t) : TyX K H v (.type t) := by
  cases d with
  | non => cases h; cases r; exact .base .non
  | bl x => cases h; cases r; exact .base (.bl x)
  | int x => cases h; cases r; exact .base (.int x)
  | str x => cases h; cases r; exact .base (.str x)
  | tup x =>
    cases h
    obtain ⟨a, vs, rfl, q, _⟩ := r
    rcases q with (q | ⟨ob, q⟩) | q
    · exact .base (.tup q)
    · exact .fTuple q
    · obtain ⟨ob, its, n, q1, q2, _⟩ := q
      exact .kTuple q1 q2
  | lst x =>
    cases h
    obtain ⟨a, vs, rfl, q, _⟩ := r
    exact .base (.lst q.2.2)
  | raw x => cases h
  | scr x => cases h
  | loc n =>
    obtain ⟨a, rfl, q⟩ := r
    unfold tyD at h
    cases e : S[n]? with
    | none => simp only [tyD, e] at h; cases h
    | some c =>
      simp only [tyD, e] at h
      have rc := s.cel n c a e q
      cases c with
      | lst x => cases h; obtain ⟨vs, q1, _⟩ := rc; exact .base (.lst q1)
      | dK x => cases h; obtain ⟨vs, q1, _⟩ := rc; exact .base (.dK q1)
      | dT x => cases h
      | dF x => cases h; obtain ⟨vs, ⟨ob, q1⟩, _⟩ := rc; exact .fDict q1
def hIsi : List D → Store → R D
  | [d, .raw (.ty n)], S => match tyD d S with
    | some t => match kitB t n with
      | some b => .ok (.bl b) S
      | none => .bad
    | none => .bad
  | _, _ => .bad
theorem em_isi (h : AM X [a, b] l) (hg : Gl X "isinstance") (hm : X.mg "isinstance" = none) (hb : bootBuiltins "isinstance" = some (.builtin "isinstance") := by decide +kernel) (hs : starEach [a, b] X.env = (false, eval a X.env) :: starEach [b] X.env := by rfl) (hpl : (backTo pos (starEach [b] X.env)).any (·.1) = false := by rfl) :
    EM X (.Call (.Name "isinstance" p) [a, b] [] pos) (mA hIsi l) :=
  PE.of (pe_callB call_isi hg hm hb h (by decide) (by decide) hs hpl) fun σ H Q q => a_of (fun g f H S l d S' vs Q s r hm q => by
    unfold hIsi at hm
    split at hm
    · rename_i d1 n
      split at hm
      · rename_i t ht
        split at hm
        · rename_i k hk
          cases hm
          obtain ⟨v, t2, rfl, rv, v2, t3, rfl, rv2, rn⟩ := r
          cases rn
          cases rv2
          exact ⟨v, _, _, _, k, rfl, .ty n, tyD_rel s rv ht, kit_ty hk, q.same s rfl⟩
        · cases hm
      · cases hm
    · cases hm) q
/-! ### is, is not, of truths -/
def gIsB : G2 := fun x y S => match x, y with
  | .bl i, .bl j => .ok (.bl (decide (i = j))) S
  | _, _ => .bad
def gNotB : G2 := fun x y S => match x, y with
  | .bl i, .bl j => .ok (.bl (!decide (i = j))) S
  | _, _ => .bad
theorem od_isB {K : PySem.W.Frag} : OpD K rIsB gIsB := by
  intro g f H S dx dy d S' x y Q s rx ry hm q
  unfold gIsB at hm
  split at hm
  · cases hm
    exact ⟨_, _, rx, ry, q.same s rfl⟩
  · cases hm
theorem od_notB {K : PySem.W.Frag} : OpD K rNotB gNotB := by
  intro g f H S dx dy d S' x y Q s rx ry hm q
  unfold gNotB at hm
  split at hm
  · cases hm
    exact ⟨_, _, rx, ry, q.same s rfl⟩
  · cases hm
@[simp] theorem gIsB_eq (i j : Bool) (S : Store) : gIsB (.bl i) (.bl j) S = .ok (.bl (decide (i = j))) S := rfl
@[simp] theorem gNotB_eq (i j : Bool) (S : Store) : gNotB (.bl i) (.bl j) S = .ok (.bl (!decide (i = j))) S := rfl

@[simp] theorem gIsN_non  (S : Store) : gIsN .non .non S = .ok (.bl true) S := rfl
@[simp] theorem gIsN_int (i : Int) (S : Store) : gIsN (.int i) .non S = .ok (.bl false) S := rfl
@[simp] theorem gIsN_bl (i : Bool) (S : Store) : gIsN (.bl i) .non S = .ok (.bl false) S := rfl
@[simp] theorem gIsN_str (i : PySem.Str) (S : Store) : gIsN (.str i) .non S = .ok (.bl false) S := rfl
@[simp] theorem gIsN_tup (i : List D) (S : Store) : gIsN (.tup i) .non S = .ok (.bl false) S := rfl
@[simp] theorem gIsN_lst (i : List D) (S : Store) : gIsN (.lst i) .non S = .ok (.bl false) S := rfl
@[simp] theorem gIsN_loc (i : Nat) (S : Store) : gIsN (.loc i) .non S = .ok (.bl false) S := rfl
@[simp] theorem gNotN_non  (S : Store) : gNotN .non .non S = .ok (.bl false) S := rfl
@[simp] theorem gNotN_int (i : Int) (S : Store) : gNotN (.int i) .non S = .ok (.bl true) S := rfl
@[simp] theorem gNotN_bl (i : Bool) (S : Store) : gNotN (.bl i) .non S = .ok (.bl true) S := rfl
@[simp] theorem gNotN_str (i : PySem.Str) (S : Store) : gNotN (.str i) .non S = .ok (.bl true) S := rfl
@[simp] theorem gNotN_tup (i : List D) (S : Store) : gNotN (.tup i) .non S = .ok (.bl true) S := rfl
@[simp] theorem gNotN_lst (i : List D) (S : Store) : gNotN (.lst i) .non S = .ok (.bl true) S := rfl
@[simp] theorem gNotN_loc (i : Nat) (S : Store) : gNotN (.loc i) .non S = .ok (.bl true) S := rfl

/-! ### zip -/
def zipD : List D → List D → List D
  | x :: xs, y :: ys => .tup [x, y] :: zipD xs ys
  | _, _ => []
theorem zipD_get : ∀ (xs ys : List D) (i : Nat) (d : D), (zipD xs ys)[i]? = some d → ∃ x y, xs[i]? = some x ∧ ys[i]? = some y ∧ d = .tup [x, y]
  | [], ys, i, d, h => by simp [zipD] at h
  | x :: xs, [], i, d, h => by simp [zipD] at h
  | x :: xs, y :: ys, 0, d, h => by simp [zipD] at h; exact ⟨x, y, rfl, rfl, h.symm⟩
  | x :: xs, y :: ys, i + 1, d, h => by
    have h' : (zipD xs ys)[i]? = some d := by simpa [zipD] using h
    exact zipD_get xs ys i d h'
theorem zipD_stop : ∀ (xs ys : List D) (i : Nat), (zipD xs ys).length ≤ i → xs.length ≤ i ∨ ys.length ≤ i
  | [], ys, i, h => .inl (Nat.zero_le _)
  | x :: xs, [], i, h => .inr (Nat.zero_le _)
  | x :: xs, y :: ys, 0, h => by simp [zipD] at h
  | x :: xs, y :: ys, i + 1, h => by
    have h' : (zipD xs ys).length ≤ i := by simpa [zipD] using h
    rcases zipD_stop xs ys i h' with q | q
    · exact .inl (by simpa using q)
    · exact .inr (by simpa using q)
theorem Walks.zipL {K : PySem.W.Frag} {g w o : List Addr} {H : Hp} {a b : Addr} {vs us : List V} {xs ys : List D} (hr : RestL g (w ++ o) H a vs) (r : RelDs K g (w ++ o) H xs vs) (hr2 : RestL g (w ++ o) H b us) (r2 : RelDs K g (w ++ o) H ys us) :
    Walks K g w o H (Itz K a b) (zipD xs ys) where
  item := fun i d g1 o1 H1 h x => by
    obtain ⟨dx, dy, h1, h2, rfl⟩ := zipD_get _ _ _ _ h
    have q := hr.extS x
    have q2 := hr2.extS x
    obtain ⟨v, ev, rv⟩ := (RelDs.extS x xs vs r).get h1
    obtain ⟨u, eu, ru⟩ := (RelDs.extS x ys us r2).get h2
    refine ⟨⟨vs, us, v, u, q.sq, q2.sq, ev, eu⟩, fun y H2 ⟨T, z1, z2, ey, hT, eH, hz1, hz2⟩ => ?_⟩
    have e1 := hz1 vs q.sq
    have e2 := hz2 us q2.sq
    rw [ev] at e1; rw [eu] at e2
    cases e1; cases e2
    subst ey; subst eH
    exact ⟨.new hT, T, _, rfl, .inl (.inl upd_same), _, _, rfl, RelD.ext (.new hT) _ _ rv, _, [], rfl, RelD.ext (.new hT) _ _ ru, rfl⟩
  stop := fun i g1 o1 H1 h x => ⟨vs, us, (hr.extS x).sq, (hr2.extS x).sq, by rw [← r.length, ← r2.length]; exact zipD_stop _ _ _ h⟩
theorem Walks.zipT {K : PySem.W.Frag} {g w o : List Addr} {H : Hp} {a b : Addr} {vs us : List V} {xs ys : List D} (hr : SqT K H a vs) (r : RelDs K g (w ++ o) H xs vs) (hr2 : SqT K H b us) (r2 : RelDs K g (w ++ o) H ys us) :
    Walks K g w o H (RZ.ItzT K a b) (zipD xs ys) where
  item := fun i d g1 o1 H1 h x => by
    obtain ⟨dx, dy, h1, h2, rfl⟩ := zipD_get _ _ _ _ h
    have q := SqT.extS x hr
    have q2 := SqT.extS x hr2
    obtain ⟨v, ev, rv⟩ := (RelDs.extS x xs vs r).get h1
    obtain ⟨u, eu, ru⟩ := (RelDs.extS x ys us r2).get h2
    refine ⟨⟨vs, us, v, u, q, q2, ev, eu⟩, fun y H2 ⟨T, z1, z2, ey, hT, eH, hz1, hz2⟩ => ?_⟩
    have e1 := hz1 vs q
    have e2 := hz2 us q2
    rw [ev] at e1; rw [eu] at e2
    cases e1; cases e2
    subst ey; subst eH
    exact ⟨.new hT, T, _, rfl, .inl (.inl upd_same), _, _, rfl, RelD.ext (.new hT) _ _ rv, _, [], rfl, RelD.ext (.new hT) _ _ ru, rfl⟩
  stop := fun i g1 o1 H1 h x => ⟨vs, us, SqT.extS x hr, SqT.extS x hr2, by rw [← r.length, ← r2.length]; exact zipD_stop _ _ _ h⟩
def iZip (m : MA) : ML := fun ρ S => (m ρ S).bind fun ds S1 => match ds with
  | [.lst xs, .lst ys] => .ok (zipD xs ys) S1
  | [.tup xs, .tup ys] => .ok (zipD xs ys) S1
  | _ => .bad
theorem im_zip {elts : List Expr} {kk : Nat} (h : AM X [e, e2] l) (hg : Gl X "zip") (hm : X.mg "zip" = none) (hs : starEach [e, e2] X.env = (false, eval e X.env) :: starEach [e2] X.env := by rfl) (hpl : (backTo pos (starEach [e2] X.env)).any (·.1) = false := by rfl) :
    IM X (.Tuple elts kk tpos) (.Call (.Name "zip" p) [e, e2] [] pos) (iZip l) :=
  PI.of (RZ.pi_zipA hg hm h hs hpl) fun σ H Rr ⟨g, w, o, ρ, S, l, S', s, hm, q⟩ => by
    obtain ⟨ds, S1, h1, hm⟩ := R.bind_ok hm
    refine ⟨g, w, o, ρ, S, ds, S1, s, h1, fun vs g1 H1 x1 s1 r1 => ?_⟩
    split at hm
    · cases hm
      obtain ⟨v, t, rfl, ⟨a, us, rfl, hr, r⟩, v2, t2, rfl, ⟨b, us2, rfl, hr2, r2⟩, rn⟩ := r1
      cases rn
      exact ⟨a, b, us, us2, rfl, .inl ⟨hr.sq, hr2.sq, q g1 H1 _ x1 s1 (.zipL hr r hr2 r2)⟩⟩
    · cases hm
      obtain ⟨v, t, rfl, ⟨a, us, rfl, hr, r⟩, v2, t2, rfl, ⟨b, us2, rfl, hr2, r2⟩, rn⟩ := r1
      cases rn
      exact ⟨a, b, us, us2, rfl, .inr ⟨hr, hr2, q g1 H1 _ x1 s1 (.zipT hr r hr2 r2)⟩⟩
    · cases hm
@[simp] theorem iZip_eq (m : MA) (ρ : MEnv) (S : Store) : iZip m ρ S = (m ρ S).bind fun ds S1 => (match ds with
  | [.lst xs, .lst ys] => .ok (zipD xs ys) S1
  | [.tup xs, .tup ys] => .ok (zipD xs ys) S1
  | _ => .bad) := rfl
theorem zipD_map {α β : Type} (f : α → D) (h : β → D) : ∀ (xs : List α) (ys : List β), zipD (xs.map f) (ys.map h) = (xs.zip ys).map fun p => .tup [f p.1, h p.2]
  | [], _ => by simp [zipD]
  | _ :: _, [] => by simp [zipD]
  | x :: xs, y :: ys => by simp [zipD, zipD_map f h xs ys]

/-! ### a = b = e -/
def mAsg2 (i j : Nat) (m : ME) : MS := fun ρ S => (m ρ S).bind fun d S1 => .ok (.nx ((ρ.set i (some (.val d))).set j (some (.val d)))) S1
theorem sm_asg2 {st : Stmt} {i j : Nat} (h : PS X st (tAsg2 (tE X.K me) (gName i) (gName j))) : SM X st (mAsg2 i j me) := PS.of h fun E σ H ⟨g, w, o, ρ, S, fl, S', s, hm, q⟩ => by
  obtain ⟨d, S1, e1, hm⟩ := R.bind_ok hm
  cases hm
  exact ⟨g, w, o, ρ, S, d, S', s, e1, fun v g1 H1 x1 s1 r1 => q g1 o H1 x1.s _ (((s.ext x1 s1).set r1).set r1)⟩
@[simp] theorem mAsg2_eq (i j : Nat) (m : ME) (ρ : MEnv) (S : Store) : mAsg2 i j m ρ S = (m ρ S).bind fun d S1 => .ok (.nx ((ρ.set i (some (.val d))).set j (some (.val d)))) S1 := rfl

/-! ### x += e, of numbers -/
def mAug (i : Nat) (h : Int → Int → Int) (m : ME) : MS := fun ρ S => match ρ[i]? with
  | some (some (.val (.int k))) => (m ρ S).bind fun d S1 => (match d with
    | .int j => .ok (.nx (ρ.set i (some (.val (.int (h k j)))))) S1
    | _ => .bad)
  | _ => .bad
theorem sm_aug {st : Stmt} {i : Nat} {h : Int → Int → Int} (hp : PS X st (tAug i (tE X.K me) (ipI h))) : SM X st (mAug i h me) := PS.of hp fun E σ H ⟨g, w, o, ρ, S, fl, S', s, hm, q⟩ => by
  unfold mAug at hm
  split at hm
  · rename_i k hk
    obtain ⟨d, S1, e1, hm⟩ := R.bind_ok hm
    split at hm
    · cases hm
      obtain ⟨v, ev, rv⟩ := s.val i _ hk
      refine ⟨v, ev, g, w, o, ρ, S, _, _, s, e1, fun u g1 H1 x1 s1 r1 => ?_⟩
      exact ⟨_, _, rv, r1, q g1 o H1 x1.s _ ((s.ext x1 s1).set rfl)⟩
    · cases hm
  · cases hm
@[simp] theorem mAug_eq (i : Nat) (h : Int → Int → Int) (m : ME) (ρ : MEnv) (S : Store) : mAug i h m ρ S = (match ρ[i]? with
  | some (some (.val (.int k))) => (m ρ S).bind fun d S1 => (match d with
    | .int j => .ok (.nx (ρ.set i (some (.val (.int (h k j)))))) S1
    | _ => .bad)
  | _ => .bad) := rfl

/-! ### sorted(numbers, reverse=True) -/
def geI (i j : Int) : Bool := decide (j ≤ i)
def sortG (ns : List Int) : List Int := ns.mergeSort geI
theorem sortG_perm (ns : List Int) : (sortG ns).Perm ns := List.mergeSort_perm ns geI
theorem sortG_ord (ns : List Int) : (sortG ns).Pairwise (· ≥ ·) := by
  have := List.pairwise_mergeSort (le := geI) (fun a b c h1 h2 => by simp only [geI, decide_eq_true_eq] at *; omega) (fun a b => by simp only [geI, Bool.or_eq_true, decide_eq_true_eq]; omega) ns
  exact this.imp fun h => by simpa [geI] using h
theorem perm_ge : ∀ {xs ys : List Int}, xs.Perm ys → xs.Pairwise (· ≥ ·) → ys.Pairwise (· ≥ ·) → xs = ys
  | [], ys, h, _, _ => (List.perm_nil.mp h.symm).symm
  | x :: xs, [], h, _, _ => nomatch h.length_eq
  | x :: xs, y :: ys, h, hx, hy => by
    rw [List.pairwise_cons] at hx hy
    have e : x = y := by
      have h1 : x ∈ y :: ys := h.mem_iff.mp List.mem_cons_self
      have h2 : y ∈ x :: xs := h.mem_iff.mpr List.mem_cons_self
      rcases List.mem_cons.mp h1 with q | q
      · exact q
      · rcases List.mem_cons.mp h2 with q2 | q2
        · exact q2.symm
        · have a1 := hy.1 x q
          have a2 := hx.1 y q2
          omega
    subst e
    rw [perm_ge (List.Perm.cons_inv h) hx.2 hy.2]
def hSortedR (l : List D) (S : Store) : R (List D) := match intsD l with
  | some ns => .ok ((sortG ns).map .int) S
  | none => .bad
theorem relDs_ints {K : PySem.W.Frag} {g f : List Addr} {H : Hp} : ∀ (ns : List Int), RelDs K g f H (ns.map .int) (ns.map V.int)
  | [] => rfl
  | n :: ns => ⟨_, _, rfl, rfl, relDs_ints ns⟩
theorem tp_bl {v : Bool} {kind} {vpos : Pos} {nm : Option Str} {kpos : Pos} : PK X [⟨nm, .Constant (.bool v) kind vpos, kpos⟩] (tCons (tC (.bl v)) tNil) := pk_cons pe_bl pk_nil
theorem nm_sortedR {vpos kpos : Pos} {kind} (h : QM X e ml) (hg : Gl X "sorted") (hm : X.mg "sorted" = none) (hb : bootBuiltins "sorted" = some (.builtin "sorted") := by decide +kernel) (hs : starEach [e] X.env = (false, eval e X.env) :: starEach [] X.env := by rfl)
    (he : backTo pos (starEach [e] X.env) = (false, eval e X.env) :: backTo pos (starEach [] X.env) := by rfl) (hpl : (backTo pos (starEach [e] X.env)).any (·.1) = false := by rfl) :
    NM X (.Call (.Name "sorted" p) [e] [⟨some "reverse", .Constant (.bool true) kind vpos, kpos⟩] pos) (mQL hSortedR ml) :=
  PE.of (pe_callBK (cr_sortedRev (b := true)) hg hm hb (b1 h hs) tp_bl (by decide) (by decide) he hpl (by rfl) (by rfl) (by rfl)) fun σ H Q ⟨g, w, o, ρ, S, d, S', s, hm, q⟩ => by
    obtain ⟨l, S1, h1, hm⟩ := R.bind_ok hm
    unfold hSortedR at hm
    split at hm
    · rename_i ns hns
      cases hm
      refine ⟨g, w, o, ρ, S, l, _, s, h1, fun a vs g1 H1 x1 s1 hq r1 => ?_⟩
      have hv := intsD_rel r1 hns
      subst hv
      refine ⟨a, ns, rfl, rfl, hq, fun ns' pp hp hord hnone => ?_⟩
      have e1 : ns' = sortG ns := perm_ge (hp.trans (sortG_perm ns).symm) hord (sortG_ord ns)
      subst e1
      refine q pp _ g1 _ (x1.trans (.new hnone)) (back_none x1 hnone) (s1.noG hnone) upd_same ((s1.fresh hnone).new hnone) (relDs_ints _)
    · cases hm
@[simp] theorem hSortedR_eq (l : List D) (S : Store) : hSortedR l S = (match intsD l with
  | some ns => .ok ((sortG ns).map .int) S
  | none => .bad) := rfl
end
end Mo
set_option maxRecDepth 100000
set_option maxHeartbeats 1000000
/-! Mo: sum, sorted, tuple, list of a value that is a list or a tuple. -/
namespace Mo
open PySem PySem.Spec PyProof.Rows L2

/-! ### collecting a tuple, at the library's level -/
namespace Low
open PySem.Calls
section
variable {prog : Program} {w : World} {A : Around} {E : Value → Shared → Prop} {s : Shared}
theorem collect_tuple {l : Addr} {vs : List Value} {Q : List Value → Shared → Prop} (hl : s.heap.IsTuple l vs.toArray)
    (h : Q vs { s with heap := (s.heap.push (seqObj "list" #[] 0)).update s.heap.objs.size (Obj.mapSeq (· ++ vs.toArray)) }) (hsz : vs.length ≤ sizeLine := by size_fits) :
    wpAny (model prog w) A (collect (.ref l)) Q E s := by
  obtain ⟨o, ho, hc, n, hd⟩ := id hl
  unfold collect
  refine wpAny_bind (wpAny_runValue (codeAny_builtin entry_proto_collect' ?_))
  show wpAny _ _ (do again (.builtin "list.__iadd__" ⟨[← newList [], .ref l], []⟩)) _ _ s
  refine wpAny_bind (wpAny_newList (wpAny_pure ⟨Code.quiet_builtin _ (by decide +kernel), codeAny_builtin entry_list_iadd' ?_⟩))
  show wpAny _ _ (Builtin.List.listExtendWith (.ref s.heap.objs.size) (.ref l) (.ref s.heap.objs.size)) _ _ { s with heap := s.heap.push (seqObj "list" #[] 0) }
  unfold Builtin.List.listExtendWith
  have ho' : (s.heap.push (seqObj "list" #[] 0)).get? l = some o := Heap.get?_push_of_some _ ho
  refine wpAny_bind (wpAny_typeOf (T := "tuple") ⟨o, ho', hc⟩ ?_)
  have ht : (Value.type "tuple" == Value.type "tuple") = true := by rfl
  rw [if_pos (by rw [ht]; simp)]
  refine wpAny_bind (listItems_at ho' hd ?_)
  refine wpAny_bind (listItems_at (xs := #[]) (n := 0) (Heap.get?_push_size _ rfl) rfl ?_)
  rw [if_neg (by simp)]
  refine wpAny_bind (listUpdate_at (xs := #[]) (n := 0) (Heap.get?_push_size _ rfl) rfl ?_ (Nat.zero_le _) (by show (#[] ++ vs.toArray).size ≤ sizeLine + 1; simp only [Array.size_append, List.size_toArray, List.length_nil]; omega))
  refine wpAny_pure ?_
  show wpAny (model prog w) A (do
      let o ← load s.heap.objs.size
      match o.data with
      | .seq xs _ => pure xs.toList
      | _ => unsupported "internal:collect") Q E { s with heap := (s.heap.push (seqObj "list" #[] 0)).update s.heap.objs.size (Obj.mapSeq (· ++ vs.toArray)) }
  refine wpAny_bind (wpAny_load (get?_update_seq (Heap.get?_push_size _ rfl) _) ?_)
  show wpAny _ _ (pure ((#[] : Array Value) ++ vs.toArray).toList) Q E _
  rw [show ((#[] : Array Value) ++ vs.toArray).toList = vs by simp]
  exact wpAny_pure h
end
end Low
end Mo
namespace PySem.W
open PySem PySem.Spec PySem.Calls PyProof.Rows PyProof.V
section
variable {prog : Program} {w : World} {A : Around} {E : Value → Shared → Prop} {s : Shared}
theorem mo_sorted_of_sortT {l : Addr} {vs : List Value} {kw : List (Str × Value)} {Q : Value → Shared → Prop} (hl : s.heap.IsTuple l vs.toArray) (hL : vs.length ≤ sizeLine) (ha1 : argsOk "sorted" ⟨[.ref l], kw⟩) (ha2 : ∀ x, argsOk "list.sort" ⟨[.ref x], kw⟩)
    (body : ∀ E' : Value → Shared → Prop, wpAny (model prog w) A.in1.in1 (Builtin.«list.sort» ⟨[.ref (s.heap.objs.size + 1)], kw⟩) (fun f s' => f = .done (.ret .none) ∧ Q (.ref (s.heap.objs.size + 1)) s') E' { s with heap := copyHeap s.heap vs }) :
    wpAny (model prog w) A (call (.builtin "sorted") [.ref l] kw) Q E s := by
  refine call_function_entry_kw kind_sorted plain_sorted entry_sorted ha1 ?_
  unfold Builtin.«sorted»
  refine wpAny_bind (m := checkCount "sorted" 1 1 _) (wpAny_pure ?_)
  refine wpAny_bind (Mo.Low.collect_tuple hl ?_ hL)
  refine wpAny_bind (wpAny_newList ?_ hL)
  have hsz : ((s.heap.push (seqObj "list" #[] 0)).update s.heap.objs.size (Obj.mapSeq (· ++ vs.toArray))).objs.size = s.heap.objs.size + 1 := by
    rw [Heap.size_update, size_push']
  show wpAny _ _ _ _ _ { s with heap := copyHeap s.heap vs }
  rw [hsz]
  refine wpAny_bind (wpAny_holding (wpAny_call_entry_kw slot_list_sort ⟨_, copyHeap_at s.heap vs, rfl⟩ entry_list_sort ?body (ha2 _)))
  case body =>
    show wpAny (model prog w) A.in1.in1 (Builtin.«list.sort» ⟨[.ref (s.heap.objs.size + 1)], kw⟩) _ _ _
    refine wpAny_mono (body _) (fun f s' hf => ?_) fun _ _ e => e
    obtain ⟨rfl, hq⟩ := hf
    exact ⟨_, rfl, wpAny_pure ⟨_, rfl, hq⟩⟩
variable {α : Type} {R : Value → α → Prop} {enc : α → PyData} {vs : List Value} {bs : List α}
theorem mo_sorted_dataT {l : Addr} {Q : Value → Shared → Prop} (hl : s.heap.IsTuple l vs.toArray) (e : EachIs R vs bs) (er : EachIs (fun v b => ∃ as, Reads s.heap v (enc b) as) vs bs) (hal : AllAlike (bs.map enc)) (hk : Sortable (bs.map enc)) (hL : bs.length ≤ sizeLine)
    (hu : ∀ b, b ∈ bs → A.units + 2 + (enc b).depth < cLine) (h : ∀ out, out.length = bs.length → EachIs R out (bs.mergeSort (dataLe false enc)) → Q (.ref (s.heap.objs.size + 1)) { s with heap := sortedAll s.heap vs (List.toArray out) }) :
    wpAny (model prog w) A (call (.builtin "sorted") [.ref l]) Q E s := by
  have er' : EachIs (fun v b => ∃ as, Reads (sortingHeap (copyHeap s.heap vs) (s.heap.objs.size + 1) vs) v (enc b) as) vs bs := er.mono fun _ _ ⟨as, r⟩ => ⟨as, PyProof.Rows.Reads.keeps (fun _ _ => sorting_copy_old) r⟩
  have hL' : vs.length ≤ sizeLine := by rw [e.length]; exact hL
  have S : SortsAt prog w A.in1.in1 { s with heap := sortingHeap (copyHeap s.heap vs) (s.heap.objs.size + 1) vs } (dataKind (sortingHeap (copyHeap s.heap vs) (s.heap.objs.size + 1) vs) (bs.map enc)) vs :=
    SortsAt.data (s := { s with heap := sortingHeap (copyHeap s.heap vs) (s.heap.objs.size + 1) vs }) (each_map (R := fun v d => ∃ as, Reads (sortingHeap (copyHeap s.heap vs) (s.heap.objs.size + 1) vs) v d as) enc er') hal hk (bound_map hu)
  exact mo_sorted_of_sortT hl hL' (args_sorted1 _) (fun _ => args_list_sort _) fun _ => list_sort_vals (s := { s with heap := copyHeap s.heap vs }) (copyHeap_at s.heap vs) S hL' ⟨rfl, h _ (by rw [sortVals_length false rfl]; exact e.length) (sortVals_data false e er' hal)⟩
theorem mo_sorted_rev_dataT {l : Addr} {b : Bool} {Q : Value → Shared → Prop} (hl : s.heap.IsTuple l vs.toArray) (e : EachIs R vs bs) (er : EachIs (fun v b => ∃ as, Reads s.heap v (enc b) as) vs bs) (hal : AllAlike (bs.map enc)) (hk : Sortable (bs.map enc)) (hL : bs.length ≤ sizeLine)
    (hu : ∀ b, b ∈ bs → A.units + 2 + (enc b).depth < cLine) (h : ∀ out, out.length = bs.length → EachIs R out (bs.mergeSort (dataLe b enc)) → Q (.ref (s.heap.objs.size + 1)) { s with heap := sortedAll s.heap vs (List.toArray out) }) :
    wpAny (model prog w) A (call (.builtin "sorted") [.ref l] [(Str.ofString "reverse", .bool b)]) Q E s := by
  have er' : EachIs (fun v b => ∃ as, Reads (sortingHeap (copyHeap s.heap vs) (s.heap.objs.size + 1) vs) v (enc b) as) vs bs := er.mono fun _ _ ⟨as, r⟩ => ⟨as, PyProof.Rows.Reads.keeps (fun _ _ => sorting_copy_old) r⟩
  have hL' : vs.length ≤ sizeLine := by rw [e.length]; exact hL
  have S : SortsAt prog w A.in1.in1 { s with heap := sortingHeap (copyHeap s.heap vs) (s.heap.objs.size + 1) vs } (dataKind (sortingHeap (copyHeap s.heap vs) (s.heap.objs.size + 1) vs) (bs.map enc)) vs :=
    SortsAt.data (s := { s with heap := sortingHeap (copyHeap s.heap vs) (s.heap.objs.size + 1) vs }) (each_map (R := fun v d => ∃ as, Reads (sortingHeap (copyHeap s.heap vs) (s.heap.objs.size + 1) vs) v d as) enc er') hal hk (bound_map hu)
  exact mo_sorted_of_sortT hl hL' (args_sorted_rev _ _) (fun _ => args_list_sort_rev _ _) fun _ => list_sort_rev_vals (s := { s with heap := copyHeap s.heap vs }) (copyHeap_at s.heap vs) S hL' ⟨rfl, h _ (by rw [sortVals_length b rfl]; exact e.length) (sortVals_data b e er' hal)⟩
end
end PySem.W
namespace Mo
open PySem PySem.Spec PyProof.Rows L2
section
variable {X : Cx} {e a b : Expr} {me : ME} {p pos : Pos}
/-- a list or a tuple -/
def SqA (K : PySem.W.Frag) (H : Hp) (a : Addr) (vs : List V) : Prop := SqL K H a vs ∨ SqT K H a vs
/-- the items of a value that is a list or a tuple -/
def anyD : D → Store → R (List D)
  | .lst l, S => .ok l S
  | .tup l, S => .ok l S
  | .scr l, S => .ok (l.map .int) S
  | .loc n, S => match S[n]? with
    | some (.lst l) => .ok l S
    | _ => .bad
  | _, _ => .bad
theorem anyD_rel {K : PySem.W.Frag} {g f : List Addr} {H : Hp} {S S' : Store} {d : D} {v : V} {l : List D} (s : RelS K g f H S) (r : RelD K g f H d v) (h : anyD d S = .ok l S') :
    S' = S ∧ ∃ a vs, v = .ref a ∧ SqA K H a vs ∧ RelDs K g f H l vs := by
  cases d with
  | lst l' => cases h; obtain ⟨a, vs, rfl, q, rr⟩ := r; exact ⟨rfl, a, vs, rfl, .inl q.sq, rr⟩
  | tup l' => cases h; obtain ⟨a, vs, rfl, q, rr⟩ := r; exact ⟨rfl, a, vs, rfl, .inr q, rr⟩
  | scr l' => cases h; obtain ⟨a, rfl, q⟩ := r; exact ⟨rfl, a, _, rfl, .inl q.sq, relDs_ints _⟩
  | loc n =>
    obtain ⟨a, rfl, q⟩ := r
    unfold anyD at h
    cases e : S[n]? with
    | none => simp only [e] at h; cases h
    | some c =>
      cases c with
      | lst l' =>
        simp only [e] at h
        cases h
        obtain ⟨vs, q1, rr⟩ := s.cel n _ a e q
        exact ⟨rfl, a, vs, rfl, .inl (.of q1), rr⟩
      | dK x => simp only [e] at h; cases h
      | dT x => simp only [e] at h; cases h
      | dF x => simp only [e] at h; cases h
  | non => cases h
  | bl x => cases h
  | int x => cases h
  | str x => cases h
  | raw x => cases h
/-- what a built-in gives of such a value -/
def mV (h : List D → Store → R D) (m : ME) : ME := fun ρ S => (m ρ S).bind fun d S1 => (anyD d S1).bind h
def mVL (h : List D → Store → R (List D)) (m : ME) : ML := fun ρ S => (m ρ S).bind fun d S1 => (anyD d S1).bind h
@[simp] theorem mV_eq (h : List D → Store → R D) (m : ME) (ρ : MEnv) (S : Store) : mV h m ρ S = (m ρ S).bind fun d S1 => (anyD d S1).bind h := rfl
@[simp] theorem mVL_eq (h : List D → Store → R (List D)) (m : ME) (ρ : MEnv) (S : Store) : mVL h m ρ S = (m ρ S).bind fun d S1 => (anyD d S1).bind h := rfl
@[simp] theorem anyD_lst (l : List D) (S : Store) : anyD (.lst l) S = .ok l S := rfl
@[simp] theorem anyD_tup (l : List D) (S : Store) : anyD (.tup l) S = .ok l S := rfl
@[simp] theorem anyD_scr (l : List Int) (S : Store) : anyD (.scr l) S = .ok (l.map .int) S := rfl
@[simp] theorem anyD_loc (n : Nat) (S : Store) : anyD (.loc n) S = (match S[n]? with | some (.lst l) => .ok l S | _ => .bad) := rfl
theorem v_of {r : List V → Hp → VK → Prop} {h : List D → Store → R D} {σ : L2.St} {H : Hp} {Q : VK}
    (hr : ∀ g f H (S : Store) l d S' a vs Q, RelS X.K g f H S → SqA X.K H a vs → RelDs X.K g f H l vs → h l S = .ok d S' → FinE X.K g f H d S' Q → r [.ref a] H Q)
    (q : tE X.K (mV h me) σ H Q) : tCB r (tCons (tE X.K me) tNil) σ H Q := by
  obtain ⟨g, w, o, ρ, S, d, S', s, hm, q⟩ := q
  obtain ⟨d1, S1, h1, hm⟩ := R.bind_ok hm
  obtain ⟨l, S2, h2, hm2⟩ := R.bind_ok hm
  refine ⟨g, w, o, ρ, S, d1, S1, s, h1, fun v g1 H1 x1 s1 r1 => ?_⟩
  obtain ⟨rfl, a, vs, rfl, hq, rr⟩ := anyD_rel s1 r1 h2
  exact hr g1 (w ++ o) H1 _ l d S' a vs Q s1 hq rr hm2 fun v g2 H2 x2 s2 r2 => q v g2 H2 (x1.trans x2) s2 r2
theorem vn_of {r : List V → Hp → VK → Prop} {h : List D → Store → R (List D)} {σ : L2.St} {H : Hp} {Q : VK}
    (hr : ∀ g f H (S : Store) l d S' a vs Q, RelS X.K g f H S → SqA X.K H a vs → RelDs X.K g f H l vs → h l S = .ok d S' → FinN X.K g f H d S' Q → r [.ref a] H Q)
    (q : tN X.K (mVL h me) σ H Q) : tCB r (tCons (tE X.K me) tNil) σ H Q := by
  obtain ⟨g, w, o, ρ, S, d, S', s, hm, q⟩ := q
  obtain ⟨d1, S1, h1, hm⟩ := R.bind_ok hm
  obtain ⟨l, S2, h2, hm2⟩ := R.bind_ok hm
  refine ⟨g, w, o, ρ, S, d1, S1, s, h1, fun v g1 H1 x1 s1 r1 => ?_⟩
  obtain ⟨rfl, a, vs, rfl, hq, rr⟩ := anyD_rel s1 r1 h2
  exact hr g1 (w ++ o) H1 _ l d S' a vs Q s1 hq rr hm2 fun p us g2 H2 x2 hp n2 e2 s2 r2 => q p us g2 H2 (x1.trans x2) (back_none x1 hp) n2 e2 s2 r2
/-- sum -/
theorem cr_sumA (hc : X.calm = true) : CallR X (.builtin "sum") (fun vs H Q => ∃ (a : Addr) (ns : List Int), vs = [V.ref a] ∧ SqA X.K H a (ns.map V.int) ∧ Q (.int ns.sum) H) := by
  intro pins s σ H vs us Q I r h
  obtain ⟨a, ns, rfl, hs | hs, q⟩ := h
  · exact cr_sum hc pins s σ H _ us Q I r ⟨a, ns, rfl, hs, q⟩
  · obtain ⟨its, rv, ht, _⟩ := I.tuple hs
    rw [Vals.ref1 r]
    have hi := rv.ints
    obtain ⟨xs, hx⟩ := hi.allInts.items
    have hn : numsOf its.toArray.toList = ns := by rw [show its.toArray.toList = its from rfl, hi.numsOf]
    have ht' : s.heap.IsTuple a its.toArray := ht
    rw [hx] at ht' hn
    rw [PySem.nums_intItems] at hn
    refine PySem.W.ktm_sumG (I.ok.hd hc) ht' fun h' tk t' hk => ?_
    refine ⟨.int ns.sum, H, I.kept hk, ⟨t', ?_⟩, q⟩
    rw [preSum_eq, List.take_of_length_le (by simp), hn]
theorem em_sumV (hc : X.calm = true) (h : EM X e me) (hg : Gl X "sum") (hm : X.mg "sum" = none) (hb : bootBuiltins "sum" = some (.builtin "sum") := by decide +kernel) (hs : starEach [e] X.env = (false, eval e X.env) :: starEach [] X.env := by rfl) (hpl : (backTo pos (starEach [] X.env)).any (·.1) = false := by rfl) :
    EM X (.Call (.Name "sum" p) [e] [] pos) (mV hSum me) :=
  PE.of (pe_callB (cr_sumA hc) hg hm hb (b1 h hs) (by decide) (by decide) hs hpl) fun σ H Q q => v_of (fun g f H S l d S' a vs Q s hq r hm q => by
    unfold hSum at hm
    split at hm
    · rename_i ns hns
      cases hm
      have hv := intsD_rel r hns
      subst hv
      exact ⟨a, ns, rfl, hq, q.same s rfl⟩
    · cases hm) q
/-- len, tuple, list -/
theorem em_tupleV (h : EM X e me) (hg : Gl X "tuple") (hm : X.mg "tuple" = none) (hb : bootBuiltins "tuple" = some (.type "tuple") := by decide +kernel) (hs : starEach [e] X.env = (false, eval e X.env) :: starEach [] X.env := by rfl) (hpl : (backTo pos (starEach [] X.env)).any (·.1) = false := by rfl) :
    EM X (.Call (.Name "tuple" p) [e] [] pos) (mV hTup me) :=
  PE.of (pe_callTy call_tuple_of hg hm hb (b1 h hs) (by decide) (by decide) hs hpl) fun σ H Q q => v_of (fun g f H S l d S' a vs Q s hq r hm q => by
    cases hm
    rcases hq with hq | hq
    · exact ⟨a, vs, rfl, .inl ⟨hq, fun t ht => q _ g _ (.new ht) (s.new ht) ⟨t, vs, rfl, .inl (.inl upd_same), RelDs.ext (.new ht) _ _ r⟩⟩⟩
    · exact ⟨a, vs, rfl, .inr ⟨hq, q.same s ⟨a, vs, rfl, hq, r⟩⟩⟩) q
theorem nm_listV (h : EM X e me) (hg : Gl X "list") (hm : X.mg "list" = none) (hb : bootBuiltins "list" = some (.type "list") := by decide +kernel) (hs : starEach [e] X.env = (false, eval e X.env) :: starEach [] X.env := by rfl) (hpl : (backTo pos (starEach [] X.env)).any (·.1) = false := by rfl) :
    NM X (.Call (.Name "list" p) [e] [] pos) (mVL hList me) :=
  PE.of (pe_callTy call_list_of hg hm hb (b1 h hs) (by decide) (by decide) hs hpl) fun σ H Q q => vn_of (fun g f H S l d S' a vs Q s hq r hm q => by
    cases hm
    exact ⟨a, vs, rfl, hq, q.put s r⟩) q
/-- sorted, perhaps backwards -/
def sortDR (b : Bool) (l : List D) : List D := l.mergeSort (PySem.W.dataLe b encD)
def hSortedB (b : Bool) (l : List D) (S : Store) : R (List D) := match toPs l with
  | some ps => if ps.all (fun x => ps.all (PySem.W.alike x)) = true ∧ sortableB ps = true ∧ PyData.depthAll ps ≤ 60 then .ok (sortDR b l) S else .bad
  | none => .bad
def rSortA (X : Cx) (b : Bool) : List V → Hp → VK → Prop := fun xs H Q => ∃ a vs l ps g f, xs = [.ref a] ∧ SqA X.K H a vs ∧ RelDs X.K g f H l vs ∧ toPs l = some ps ∧ PySem.W.AllAlike ps ∧ PySem.W.Sortable ps ∧ PyData.depthAll ps ≤ 60 ∧
    ∀ p us, H p = none → RelDs X.K g f H (sortDR b l) us → Q (.ref p) (upd H p (.lst us))
theorem sortA_run (hu : X.A.units + 64 < cLine) {b : Bool} {kw : List (Str × Value)} (hkw : (kw = [] ∧ b = false) ∨ kw = [(Str.ofString "reverse", .bool b)]) {pins : List (Addr × Obj)} {s : Shared} {σ : L2.St} {H : Hp} {xs : List V} {us : List Value} {Q : VK} (I : Inv X pins σ H s) (r : Vals xs us) (h : rSortA X b xs H Q) :
    wpAny (model X.prog X.w) X.A (call (.builtin "sorted") us kw) (EP X pins σ Q) X.xe s := by
  obtain ⟨a, vs, l, ps, g, f, rfl, hs, rl, hp, hal, hso, hd, q⟩ := h
  rw [Vals.ref1 r]
  obtain ⟨its, rv, pl, hz⟩ : ∃ its : List Value, Vals vs its ∧ (s.heap.IsList a its.toArray ∨ s.heap.IsTuple a its.toArray) ∧ vs.length ≤ sizeLine := by
    rcases hs with hs | hs
    · obtain ⟨its, rv, pl, hz⟩ := I.list hs
      exact ⟨its, rv, .inl pl.isList, hz⟩
    · obtain ⟨its, rv, pl, hz⟩ := I.tuple hs
      exact ⟨its, rv, .inr pl, hz⟩
  obtain ⟨as, hr⟩ := Dp.readsAll I _ _ its (RelDs.dp _ _ _ rl hp) rv
  have eenc : ∀ {l : List D} {ps : List PyData}, toPs l = some ps → l.map encD = ps := by
    intro l
    induction l with
    | nil => intro ps h; unfold toPs at h; cases h; rfl
    | cons d l ih =>
      intro ps h
      unfold toPs at h
      split at h
      · rename_i p ps' h1 h2
        cases h
        rw [List.map_cons, ih h2]
        unfold encD
        rw [h1]; rfl
      · cases h
  have e1 := eenc hp
  have hz1 : (l.zip vs).map (·.1) = l := List.map_fst_zip (by rw [rl.length]; exact Nat.le_refl _)
  have hz2 : (l.zip vs).map (·.2) = vs := List.map_snd_zip (by rw [rl.length]; exact Nat.le_refl _)
  have hze : (l.zip vs).map (fun b => encD b.1) = ps := by rw [← e1, ← hz1, List.map_map]; rw [hz1]; rfl
  have E1 : ∀ {zs : List (D × V)} {its : List Value}, Vals (zs.map (·.2)) its → PySem.W.EachIs (fun v (b : D × V) => RelV b.2 v) its zs := by
    intro zs
    induction zs with
    | nil => intro its h; cases h; exact .nil
    | cons z zs ih => intro its h; cases h with | cons r t => exact .cons r (ih t)
  have ea : PySem.W.EachIs (fun v (b : D × V) => RelV b.2 v) its (l.zip vs) := E1 (by rw [hz2]; exact rv)
  have er : PySem.W.EachIs (fun v (b : D × V) => ∃ as, Reads s.heap v (encD b.1) as) its (l.zip vs) := PySem.W.readsAll_each (fun b : D × V => encD b.1) (by rw [hze]; exact hr)
  have hlen : (l.zip vs).length = vs.length := by rw [← hz2, List.length_map, hz2]
  have fin : ∀ out, out.length = (l.zip vs).length → PySem.W.EachIs (fun v (b : D × V) => RelV b.2 v) out ((l.zip vs).mergeSort (PySem.W.dataLe b fun b : D × V => encD b.1)) →
      EP X pins σ Q (.ref (s.heap.objs.size + 1)) { s with heap := sortedAll s.heap its (List.toArray out) } := fun out hl2 ho => by
    obtain ⟨ep, he'⟩ := PyProof.Rows.sortedAll_at s.heap its (List.toArray out)
    have hs2 : ((l.zip vs).mergeSort (PySem.W.dataLe b fun b : D × V => encD b.1)).map (·.1) = sortDR b l := by
      unfold sortDR
      rw [List.map_mergeSort (r := PySem.W.dataLe b fun b : D × V => encD b.1) (s := PySem.W.dataLe b encD) (f := (·.1)) (fun _ _ _ _ => rfl), hz1]
    have rel : ∀ {zs : List (D × V)}, (∀ z ∈ zs, RelD X.K g f H z.1 z.2) → RelDs X.K g f H (zs.map (·.1)) (zs.map (·.2)) := by
      intro zs
      induction zs with
      | nil => intro _; rfl
      | cons z zs ih => intro hz; exact ⟨z.2, _, rfl, hz z List.mem_cons_self, ih fun y hy => hz y (List.mem_cons_of_mem _ hy)⟩
    have relz : ∀ {l : List D} {vs : List V}, RelDs X.K g f H l vs → ∀ z ∈ l.zip vs, RelD X.K g f H z.1 z.2 := by
      intro l
      induction l with
      | nil => intro vs h z hz; simp at hz
      | cons d l ih =>
        intro vs h z hz
        obtain ⟨v, r, e, q, t⟩ := h
        subst e
        rcases List.mem_cons.mp hz with e | hz
        · rw [e]; exact q
        · exact ih t z hz
    have rr : RelDs X.K g f H (sortDR b l) (((l.zip vs).mergeSort (PySem.W.dataLe b fun b : D × V => encD b.1)).map (·.2)) := by
      rw [← hs2]
      exact rel fun z hz => relz rl z ((List.mergeSort_perm _ _).mem_iff.mp hz)
    refine ⟨.ref _, upd H (s.heap.objs.size + 1) (.lst _), I.laid (t' := s.toks) (fun _ _ => PyProof.Rows.sortedAll_old) (Nat.le_succ _) ⟨?_, out, ep, each_vals ho, he'⟩, rfl, q _ _ (I.hok.fresh (Nat.le_succ _)) rr⟩
    rw [List.length_map, (List.mergeSort_perm _ _).length_eq, hlen]
    exact hz
  have hal' : PySem.W.AllAlike ((l.zip vs).map fun b => encD b.1) := by rw [hze]; exact hal
  have hso' : PySem.W.Sortable ((l.zip vs).map fun b => encD b.1) := by rw [hze]; exact hso
  have hlen' : (l.zip vs).length ≤ sizeLine := by rw [hlen]; exact hz
  have hdep : ∀ z ∈ l.zip vs, X.A.units + 2 + (encD z.1).depth < cLine := fun z hz => by
    have : encD z.1 ∈ ps := by rw [← hze]; exact List.mem_map.mpr ⟨z, hz, rfl⟩
    have := depth_le_all this
    omega
  rcases pl with pl | pl
  · rcases hkw with ⟨e1, e2⟩ | e1
    · subst e1 e2
      exact PySem.W.sorted_data (R := fun v (b : D × V) => RelV b.2 v) (enc := fun b : D × V => encD b.1) pl ea er hal' hso' hlen' hdep fin
    · subst e1
      exact PySem.W.sorted_rev_data (R := fun v (b : D × V) => RelV b.2 v) (enc := fun b : D × V => encD b.1) pl ea er hal' hso' hlen' hdep fin
  · rcases hkw with ⟨e1, e2⟩ | e1
    · subst e1 e2
      exact PySem.W.mo_sorted_dataT (R := fun v (b : D × V) => RelV b.2 v) (enc := fun b : D × V => encD b.1) pl ea er hal' hso' hlen' hdep fin
    · subst e1
      exact PySem.W.mo_sorted_rev_dataT (R := fun v (b : D × V) => RelV b.2 v) (enc := fun b : D × V => encD b.1) pl ea er hal' hso' hlen' hdep fin
theorem cr_sortA (hu : X.A.units + 64 < cLine) : CallR X (.builtin "sorted") (rSortA X false) := fun pins s σ H xs us Q I r h => sortA_run hu (.inl ⟨rfl, rfl⟩) I r h
theorem cr_sortAR (hu : X.A.units + 64 < cLine) {b : Bool} : CallRK X (.builtin "sorted") [Str.ofString "reverse"] (fun xs zs H Q => zs = [.bl b] ∧ rSortA X b xs H Q) := fun pins s σ H xs zs us ws Q I r rz h => by
  obtain ⟨rfl, h⟩ := h
  obtain ⟨w1, rfl, e1⟩ := vals1 rz
  obtain rfl : w1 = Value.bool b := e1
  exact sortA_run hu (.inr rfl) I r h
theorem hSortedB_run {g f : List Addr} {H : Hp} {S S' : Store} {bb : Bool} {l d : List D} {x : Addr} {vs : List V} {Q : VK} (s : RelS X.K g f H S) (hq : SqA X.K H x vs) (r : RelDs X.K g f H l vs) (hm : hSortedB bb l S = .ok d S') (q : FinN X.K g f H d S' Q) : rSortA X bb [.ref x] H Q := by
  unfold hSortedB at hm
  split at hm
  · rename_i ps hp
    split at hm
    · rename_i hc
      cases hm
      exact ⟨x, vs, l, ps, g, f, rfl, hq, r, hp, fun x hx y hy => List.all_eq_true.mp (List.all_eq_true.mp hc.1 x hx) y hy, sortableB_of hc.2.1, hc.2.2, fun t us ht rs => q.put s rs t ht⟩
    · cases hm
  · cases hm
theorem nm_sortV (hu : X.A.units + 64 < cLine) (h : EM X e me) (hg : Gl X "sorted") (hm : X.mg "sorted" = none) (hb : bootBuiltins "sorted" = some (.builtin "sorted") := by decide +kernel) (hs : starEach [e] X.env = (false, eval e X.env) :: starEach [] X.env := by rfl) (hpl : (backTo pos (starEach [] X.env)).any (·.1) = false := by rfl) :
    NM X (.Call (.Name "sorted" p) [e] [] pos) (mVL (hSortedB false) me) :=
  PE.of (pe_callB (cr_sortA hu) hg hm hb (b1 h hs) (by decide) (by decide) hs hpl) fun σ H Q q => vn_of (fun g f H S l d S' a vs Q s hq r hm q => hSortedB_run s hq r hm q) q
theorem nm_sortVR {vpos kpos : Pos} {kind} {bb : Bool} (hu : X.A.units + 64 < cLine) (h : EM X e me) (hg : Gl X "sorted") (hm : X.mg "sorted" = none) (hb : bootBuiltins "sorted" = some (.builtin "sorted") := by decide +kernel) (hs : starEach [e] X.env = (false, eval e X.env) :: starEach [] X.env := by rfl)
    (he : backTo pos (starEach [e] X.env) = (false, eval e X.env) :: backTo pos (starEach [] X.env) := by rfl) (hpl : (backTo pos (starEach [e] X.env)).any (·.1) = false := by rfl) :
    NM X (.Call (.Name "sorted" p) [e] [⟨some "reverse", .Constant (.bool bb) kind vpos, kpos⟩] pos) (mVL (hSortedB bb) me) :=
  PE.of (pe_callBK (cr_sortAR hu (b := bb)) hg hm hb (b1 h hs) tp_bl (by decide) (by decide) he hpl (by rfl) (by rfl) (by rfl)) fun σ H Q q => by
    have := vn_of (r := rSortA X bb) (fun g f H S l d S' a vs Q s hq r hm q => hSortedB_run s hq r hm q) q
    obtain ⟨g, w, o, ρ, S, d, S', s, hm, q⟩ := this
    exact ⟨g, w, o, ρ, S, d, S', s, hm, fun v g1 H1 x1 s1 r1 => ⟨rfl, q v g1 H1 x1 s1 r1⟩⟩
end
end Mo
set_option maxRecDepth 100000
set_option maxHeartbeats 1000000
/-! Mo: powers of great numbers. -/
namespace Mo
open PySem PySem.Spec PyProof.Rows L2
section
variable {X : Cx}
def CPowW (i j : Int) : Prop := 0 ≤ j ∧ (Builtin.Int.intBits i : Int) * j ≤ 2 ^ 27
theorem op_powW : OpR X (binaryOp .Pow) (rI CPowW fun i j => .int (i ^ j.toNat)) := opI fun _ _ _ _ _ _ _ hc q => pow_int hc.1 hc.2 q
def cPowW (i j : Int) : Prop := 0 ≤ j ∧ (Builtin.Int.intBits i : Int) * j ≤ 2 ^ 27
instance : ∀ i j, Decidable (cPowW i j) := fun _ _ => by unfold cPowW; infer_instance
abbrev gPowW : G2 := gI cPowW fun i j => .int (i ^ j.toNat)
theorem od_powW {K : PySem.W.Frag} : OpD K (rI CPowW fun i j => .int (i ^ j.toNat)) gPowW := od_I (fun _ _ h => h) fun _ _ _ _ _ _ => rfl
theorem bits_le {i : Int} {k : Nat} (h0 : 0 ≤ i) (h : i < 2 ^ k) : Builtin.Int.intBits i ≤ k := by
  unfold Builtin.Int.intBits
  split
  · omega
  · rename_i hz
    have hne : i.natAbs ≠ 0 := by
      intro e
      have : i = 0 := by omega
      exact hz (by simp [this])
    have h1 : i.natAbs < 2 ^ k := by
      have e : ((i.natAbs : Nat) : Int) = i := Int.natAbs_of_nonneg h0
      have : ((i.natAbs : Nat) : Int) < ((2 ^ k : Nat) : Int) := by rw [e]; simpa using h
      exact Int.ofNat_lt.mp this
    have := (Nat.log2_lt hne).mpr h1
    omega
theorem cPowW_nn {i j : Int} {k : Nat} (h0 : 0 ≤ i) (h : i < 2 ^ k) (hj : 0 ≤ j) (hk : (k : Int) * j ≤ 2 ^ 27) : cPowW i j :=
  ⟨hj, Int.le_trans (Int.mul_le_mul_of_nonneg_right (by have := bits_le h0 h; omega) hj) hk⟩
@[simp] theorem mIxO_eq (i : Nat) (mi : ME) (ρ : MEnv) (S : Store) : mIxO i mi ρ S = (mi ρ S).bind fun k S1 => (match ρ[i]?, k with
  | some (some (.own (.lst l))), .int j => (match atI l j with
    | some d => .ok d S1
    | none => .bad)
  | _, _ => .bad) := rfl
@[simp] theorem mSetO_eq (i : Nat) (mi me : ME) (ρ : MEnv) (S : Store) : mSetO i mi me ρ S = (me ρ S).bind fun d S1 => (mi ρ S1).bind fun k S2 => (match ρ[i]?, k with
  | some (some (.own (.lst l))), .int j => (match ixN l.length j with
    | some m => .ok (.nx (ρ.set i (some (.own (.lst (l.set m d)))))) S2
    | none => .bad)
  | _, _ => .bad) := rfl
@[simp] theorem oNone_eq (ρ : MEnv) (S : Store) : oNone ρ S = .ok none S := rfl
@[simp] theorem oSome_eq (m : ME) (ρ : MEnv) (S : Store) : oSome m ρ S = (m ρ S).bind fun d S1 => (match d with
  | .int j => .ok (some j) S1
  | _ => .bad) := rfl
@[simp] theorem mSlT_eq (me : ME) (ml mh : MO) (ρ : MEnv) (S : Store) : mSlT me ml mh ρ S = (me ρ S).bind fun d S1 => (ml ρ S1).bind fun lo S2 => (mh ρ S2).bind fun hi S3 => (match d with
  | .tup l => .ok (.tup (cutD l lo hi)) S3
  | _ => .bad) := rfl
@[simp] theorem mSlQ_eq (me : ML) (ml mh : MO) (ρ : MEnv) (S : Store) : mSlQ me ml mh ρ S = (me ρ S).bind fun l S1 => (ml ρ S1).bind fun lo S2 => (mh ρ S2).bind fun hi S3 => .ok (cutD l lo hi) S3 := rfl
@[simp] theorem mTruQ_eq (m : ML) (ρ : MEnv) (S : Store) : mTruQ m ρ S = (m ρ S).bind fun l S1 => .ok (!l.isEmpty) S1 := rfl
/-! ### repr of numbers, truths, None, texts, too -/
def gReprV (d : D) (S : Store) : R D := match toP d with
  | some p => if shownOk p then .ok (.str p.shown) S else .bad
  | none => .bad
theorem cr_reprV (hg : X.A.guards = some []) (hu : X.A.units + 64 < cLine) : CallR X (.builtin "repr") (fun xs H Q => ∃ x p, xs = [x] ∧ Dp X.K H x p ∧ p.hasDict = false ∧ shownOk p ∧ Q (.str p.shown) H) := by
  intro pins s σ H xs us Q I r h
  obtain ⟨x, p, rfl, hd, nd, ⟨h1, h2, h3⟩, q⟩ := h
  cases hd with
  | non =>
    obtain ⟨u, rfl, hu'⟩ := vals1 r
    cases (show u = Value.none from hu')
    exact PySem.P.repr_of_none ⟨.str _, H, I.tok _, ⟨_, rfl⟩, by simpa only [PyData.shown] using q⟩
  | bl b =>
    obtain ⟨u, rfl, hu'⟩ := vals1 r
    cases (show u = Value.bool b from hu')
    exact PySem.P.repr_of_bool ⟨.str _, H, I.tok _, ⟨_, rfl⟩, by simpa only [PyData.shown] using q⟩
  | int i =>
    obtain ⟨u, rfl, t, rfl⟩ := vals1 r
    exact PySem.P.repr_of_int (by simpa [PyData.showable] using h1) ⟨.str _, H, I.tok _, ⟨_, rfl⟩, by simpa only [PyData.shown] using q⟩
  | str x =>
    obtain ⟨u, rfl, t, rfl⟩ := vals1 r
    exact PySem.P.repr_of_str ⟨.str _, H, I.tok _, ⟨_, rfl⟩, by simpa only [PyData.shown] using q⟩ (by simpa only [PyData.shown] using h3)
  | lst a b => exact cr_repr hg hu pins s σ H _ us Q I r ⟨_, _, rfl, .lst a b, nd, ⟨h1, h2, h3⟩, q⟩
  | tup a b => exact cr_repr hg hu pins s σ H _ us Q I r ⟨_, _, rfl, .tup a b, nd, ⟨h1, h2, h3⟩, q⟩
theorem em_reprV {e : Expr} {me : ME} {p pos : Pos} (hgd : X.A.guards = some []) (hu : X.A.units + 64 < cLine) (h : EM X e me) (hg : Gl X "repr") (hm : X.mg "repr" = none) (hb : bootBuiltins "repr" = some (.builtin "repr") := by decide +kernel) (hs : starEach [e] X.env = (false, eval e X.env) :: starEach [] X.env := by rfl) (hpl : (backTo pos (starEach [] X.env)).any (·.1) = false := by rfl) :
    EM X (.Call (.Name "repr" p) [e] [] pos) (mB1 gReprV me) :=
  PE.of (pe_callB (cr_reprV hgd hu) hg hm hb (b1 h hs) (by decide) (by decide) hs hpl) fun σ H Q ⟨g, w, o, ρ, S, d, S', s, hm, q⟩ => by
    obtain ⟨d1, S1, h1, h2⟩ := R.bind_ok hm
    refine ⟨g, w, o, ρ, S, d1, S1, s, h1, fun v g1 H1 x1 s1 r1 => ?_⟩
    unfold gReprV at h2
    split at h2
    · rename_i pd hp
      split at h2
      · rename_i hok
        cases h2
        exact ⟨v, pd, rfl, RelD.dp _ _ _ r1 hp, toP_noDict _ _ hp, hok, q _ g1 H1 x1 s1 rfl⟩
      · cases h2
    · cases h2
theorem gReprV_ok {d : D} {p : PyData} {S : Store} (hp : toP d = some p) (h : shownOk p) : gReprV d S = .ok (.str p.shown) S := by
  unfold gReprV
  rw [hp]
  dsimp only
  rw [if_pos h]
/-! ### bounds as truths, so that nobody reckons with great numbers unasked -/
def b62 : Int → Bool
  | .ofNat n => Nat.ble n 4611686018427387903
  | .negSucc n => Nat.ble n 4611686018427387903
theorem b62_iff (j : Int) : b62 j = true ↔ (-(2 ^ 62) ≤ j ∧ j < 2 ^ 62) := by
  cases j with
  | ofNat n =>
    show Nat.ble n 4611686018427387903 = true ↔ _
    rw [Nat.ble_eq, Int.ofNat_eq_natCast]
    constructor
    · intro h; exact ⟨by omega, by omega⟩
    · intro h; omega
  | negSucc n =>
    show Nat.ble n 4611686018427387903 = true ↔ _
    rw [Nat.ble_eq]
    constructor
    · intro h; exact ⟨by omega, by omega⟩
    · intro h; omega
def iRg1 (l : MA) : ML := fun ρ S => (l ρ S).bind fun ds S1 => match ds with
  | [.int j] => if b62 j = true then .ok (rangeD 0 j) S1 else .bad
  | _ => .bad
def iRg2 (l : MA) : ML := fun ρ S => (l ρ S).bind fun ds S1 => match ds with
  | [.int i, .int j] => if b62 i = true ∧ b62 j = true then .ok (rangeD i j) S1 else .bad
  | _ => .bad
theorem iRg1_old (l : MA) : iRg1 l = iRange1 l := by
  funext ρ S
  unfold iRg1 iRange1
  congr 1
  funext ds S1
  split
  · rename_i j
    by_cases h : b62 j = true
    · rw [if_pos h]; exact (if_pos ((b62_iff j).mp h)).symm
    · rw [if_neg h]; exact (if_neg fun c => h ((b62_iff j).mpr c)).symm
  · rename_i h
    first
      | rfl
      | (split
         · rename_i j; exact absurd rfl (h j)
         · rfl)
theorem iRg2_old (l : MA) : iRg2 l = iRange2 l := by
  funext ρ S
  unfold iRg2 iRange2
  congr 1
  funext ds S1
  split
  · rename_i i j
    by_cases h : b62 i = true ∧ b62 j = true
    · rw [if_pos h]; exact (if_pos ⟨((b62_iff i).mp h.1).1, ((b62_iff i).mp h.1).2, (b62_iff j).mp h.2⟩).symm
    · rw [if_neg h]; exact (if_neg fun c => h ⟨(b62_iff i).mpr ⟨c.1, c.2.1⟩, (b62_iff j).mpr c.2.2⟩).symm
  · rename_i h
    first
      | rfl
      | (split
         · rename_i i j; exact absurd rfl (h i j)
         · rfl)
theorem im_rg1 {tg a : Expr} {l : MA} {p pos : Pos} (hg : Gl X "range") (hm : X.mg "range" = none) (ha : AM X [a] l) (hs : starEach [a] X.env = [(false, eval a X.env)] := by rfl) : IM X tg (.Call (.Name "range" p) [a] [] pos) (iRg1 l) := by
  rw [iRg1_old]; exact im_range1 hg hm ha hs
theorem im_rg2 {tg a b : Expr} {l : MA} {p pos : Pos} (hg : Gl X "range") (hm : X.mg "range" = none) (ha : AM X [a, b] l) (hs : starEach [a, b] X.env = [(false, eval a X.env), (false, eval b X.env)] := by rfl)
    (hs2 : starEach [b] X.env = [(false, eval b X.env)] := by rfl) : IM X tg (.Call (.Name "range" p) [a, b] [] pos) (iRg2 l) := by
  rw [iRg2_old]; exact im_range2 hg hm ha hs hs2
@[simp] theorem iRg1_eq (l : MA) (ρ : MEnv) (S : Store) : iRg1 l ρ S = (l ρ S).bind fun ds S1 => (match ds with
  | [.int j] => if b62 j = true then .ok (rangeD 0 j) S1 else .bad
  | _ => .bad) := rfl
@[simp] theorem iRg2_eq (l : MA) (ρ : MEnv) (S : Store) : iRg2 l ρ S = (l ρ S).bind fun ds S1 => (match ds with
  | [.int i, .int j] => if b62 i = true ∧ b62 j = true then .ok (rangeD i j) S1 else .bad
  | _ => .bad) := rfl
def b63 : Int → Bool
  | .ofNat n => Nat.ble n 9223372036854775807
  | .negSucc n => Nat.ble n 9223372036854775807
theorem b63_iff (j : Int) : b63 j = true ↔ (-(2 ^ 63) ≤ j ∧ j < 2 ^ 63) := by
  cases j with
  | ofNat n =>
    show Nat.ble n 9223372036854775807 = true ↔ _
    rw [Nat.ble_eq, Int.ofNat_eq_natCast]
    constructor
    · intro h; exact ⟨by omega, by omega⟩
    · intro h; omega
  | negSucc n =>
    show Nat.ble n 9223372036854775807 = true ↔ _
    rw [Nat.ble_eq]
    constructor
    · intro h; exact ⟨by omega, by omega⟩
    · intro h; omega
/-- list * n -/
def gRp : D → D → Store → R (List D)
  | .lst l, .int k, S => if b63 k = true ∧ l.length * k.toNat ≤ sizeLine then .ok (List.replicate k.toNat l).flatten S else .bad
  | _, _, _ => .bad
theorem gRp_old : gRp = gRep := by
  funext x y S
  unfold gRp gRep
  split
  · rename_i l k
    by_cases h : b63 k = true ∧ l.length * k.toNat ≤ sizeLine
    · rw [if_pos h]; exact (if_pos ⟨((b63_iff k).mp h.1).1, ((b63_iff k).mp h.1).2, h.2⟩).symm
    · rw [if_neg h]; exact (if_neg fun c => h ⟨(b63_iff k).mpr ⟨c.1, c.2.1⟩, c.2.2⟩).symm
  · rename_i h
    first
      | rfl
      | (split
         · rename_i l k; exact absurd rfl (h l k rfl)
         · rfl)
theorem nm_rp {a b : Expr} {ma mb : ME} {pos : Pos} (ha : EM X a ma) (hb : EM X b mb) : NM X (.BinOp a .Mult b pos) (n2 gRp ma mb) := by rw [gRp_old]; exact nm_rep ha hb
end
end Mo
set_option maxRecDepth 100000
set_option maxHeartbeats 1000000
/-! Mo: tuple * n. -/
namespace Mo
open PySem PySem.Spec PyProof.Rows L2
section
variable {K : PySem.W.Frag} {g f : List Addr} {H : Hp}
theorem RelDs.reps {l : List D} {vs : List V} (r : RelDs K g f H l vs) : ∀ n : Nat, RelDs K g f H (List.replicate n l).flatten (List.replicate n vs).flatten
  | 0 => rfl
  | n + 1 => by
    rw [List.replicate_succ, List.replicate_succ, List.flatten_cons, List.flatten_cons]
    exact RelDs.append r (RelDs.reps r n)
/-- a tuple * n -/
def gRpT : G2 := fun x y S => match x, y with
  | .tup (d :: l), .int k => if (decide (2 ≤ k) && decide (k ≤ 1000) && decide ((d :: l).length ≤ 1000)) = true then .ok (.tup (List.replicate k.toNat (d :: l)).flatten) S else .bad
  | _, _ => .bad
theorem od_rpT : OpD K (rRepT K) gRpT := by
  intro g f H S dx dy d S' x y Q s rx ry hm q
  unfold gRpT at hm
  split at hm
  · rename_i d0 l k
    split at hm
    · rename_i hc
      rw [Bool.and_eq_true, Bool.and_eq_true, decide_eq_true_eq, decide_eq_true_eq, decide_eq_true_eq] at hc
      cases hm
      obtain ⟨a, vs, rfl, hq, r⟩ := rx
      cases ry
      have hl := r.length
      refine ⟨a, k, vs, rfl, rfl, hq, fun e => ?_, hc.1.1, hc.1.2, by rw [← hl]; exact hc.2, fun p hp => ?_⟩
      · rw [e] at hl; cases hl
      · exact q _ g _ (.new hp) (s.new hp) ⟨p, _, rfl, .inl (.inl upd_same), RelDs.ext (.new hp) _ _ (RelDs.reps r _)⟩
    · cases hm
  · cases hm
end
/-! ### several names at once, cells among them, any number -/
section
variable {X : Cx}
theorem RelSl.new {K : PySem.W.Frag} {g f : List Addr} {H : Hp} {p : Addr} {u : HO} (h : H p = none) : ∀ (ss : List Slot) (vs : List V) (ns : List Addr), RelSl K g f H ss vs ns → RelSl K g f (upd H p u) ss vs ns
  | [], _, _, r => r
  | .val d :: ss, _, ns, ⟨v, vr, e, r, t⟩ => ⟨v, vr, e, RelD.ext (.new h) d v r, RelSl.new h ss vr ns t⟩
  | .own c :: ss, _, _, ⟨a, vr, nr, e, en, r, t⟩ => ⟨a, vr, nr, e, en, r.new h, RelSl.new h ss vr nr t⟩
def gNames : List Nat → TGs
  | [] => gNil
  | i :: is => gCons (gName i) (gNames is)
theorem gNames_of : ∀ (is : List Nat) (vs : List V) (σ : L2.St) (H : Hp) (Q : L2.St → Hp → Prop), vs.length = is.length → Q (setV σ (is.zip vs)) H → gNames is vs σ H Q
  | [], [], σ, H, Q, _, h => ⟨rfl, h⟩
  | i :: is, v :: vs, σ, H, Q, hl, h => ⟨v, vs, rfl, gNames_of is vs _ H Q (by simpa using hl) h⟩
  | [], _ :: _, _, _, _, hl, _ => by simp at hl
  | _ :: _, [], _, _, _, hl, _ => by simp at hl
theorem sm_parG {st : Stmt} {is : List Nat} {n : Nat} {m : MSl} (h : PS X st (tAsg (tTup (tSl X.K m)) (gTup X.K n (gNames is)))) (hn : is.length = n := by rfl) (hz : (decide (is.length ≤ 1000)) = true := by rfl) : SM X st (mPar is m) := PS.of h fun E σ H ⟨g, w, o, ρ, S, fl, S', s, hm, q⟩ => by
  obtain ⟨ss, S1, h1, hm⟩ := R.bind_ok hm
  split at hm
  · rename_i hl
    cases hm
    refine ⟨g, w, o, ρ, S, ss, _, s, h1, fun vs ns g1 H1 x1 st hns nd rs => ?_⟩
    have go : ∀ {f : List Addr} (ss : List Slot) (vs : List V) (ns : List Addr), RelSl X.K g1 f H1 ss vs ns → vs.length = ss.length := by
      intro f ss
      induction ss with
      | nil => intro vs ns h; rw [h.1]; rfl
      | cons c ss ih =>
        intro vs ns h
        cases c with
        | val d => obtain ⟨v, vr, e, _, t⟩ := h; rw [e, List.length_cons, List.length_cons, ih _ _ t]
        | own c => obtain ⟨a, vr, nr, e, _, _, t⟩ := h; rw [e, List.length_cons, List.length_cons, ih _ _ t]
    have hv : vs.length = is.length := by rw [hl]; exact go ss vs ns rs
    refine ⟨by rw [hv]; exact small_le (by have := of_decide_eq_true hz; omega), fun p hp => ⟨p, vs, rfl, .inl (.inl upd_same), by rw [hv]; exact hn, gNames_of is vs σ _ _ hv ?_⟩⟩
    have st2 := st.ext (.new hp) (st.sto.new hp (u := .tup vs))
    refine q g1 (o ++ ns) _ ?_ _ (Sta.setSl is ss vs ns ρ σ st2 (fun p hp => List.mem_append_right _ hp) nd (fun p hp j c hj e => ?_) (RelSl.new hp ss vs ns rs) hl)
    · refine ExtS.trans (o1 := o ++ ns) ⟨x1.more, fun a u h n _ => x1.keep a u h n, x1.live, x1.tups, x1.frz, fun a h => ?_⟩ (Ext.s (.new hp))
      rcases List.mem_append.mp h with m | m
      · exact .inl m
      · exact .inr (hns a m)
    · obtain ⟨a, e1, m, _⟩ := s.own j c hj
      rw [e] at e1; cases e1
      exact s.liv p (List.mem_append_right _ m) (hns p hp)
  · cases hm
end
end Mo
set_option maxRecDepth 100000
set_option maxHeartbeats 1000000
/-! Mo: dicts whose keys are tuples of numbers, of any depth. -/
namespace Mo
open PySem PySem.Spec PyProof.Rows L2
mutual
/-- data as a key -/
def convN : D → Option NestedKey
  | .non => some .none
  | .int i => some (.num i)
  | .tup l => (convNs l).map .tup
  | .bl _ | .str _ | .lst _ | .loc _ | .raw _ | .scr _ => none
def convNs : List D → Option (List NestedKey)
  | [] => some []
  | d :: ds => match convN d, convNs ds with
    | some k, some ks => some (k :: ks)
    | _, _ => none
end
mutual
theorem convN_key : ∀ {d : D} {k : NestedKey}, convN d = some k → d = dKey k ∧ calm k = true
  | .non, k, h => by rw [convN] at h; cases h; exact ⟨by rw [dKey], by rw [calm]⟩
  | .int i, k, h => by rw [convN] at h; cases h; exact ⟨by rw [dKey], by rw [calm]⟩
  | .tup l, k, h => by
    rw [convN] at h
    obtain ⟨ks, h1, rfl⟩ := Option.map_eq_some_iff.mp h
    obtain ⟨i1, i2⟩ := convNs_keys h1
    exact ⟨by rw [dKey, i1], by rw [calm, i2]⟩
  | .bl _, _, h | .str _, _, h | .lst _, _, h | .loc _, _, h | .raw _, _, h | .scr _, _, h => by rw [convN] at h; cases h
theorem convNs_keys : ∀ {l : List D} {ks : List NestedKey}, convNs l = some ks → l = dKeys ks ∧ calms ks = true
  | [], ks, h => by rw [convNs] at h; cases h; exact ⟨by rw [dKeys], by rw [calms]⟩
  | d :: ds, ks, h => by
    rw [convNs] at h
    cases e1 : convN d with
    | none => simp only [e1] at h; cases h
    | some k1 =>
      cases e2 : convNs ds with
      | none => simp only [e1, e2] at h; cases h
      | some k2 =>
        simp only [e1, e2] at h
        cases h
        obtain ⟨i1, i2⟩ := convN_key e1
        obtain ⟨i3, i4⟩ := convNs_keys e2
        exact ⟨by rw [dKeys, ← i1, ← i3], by rw [calms, i2, i4]; rfl⟩
end
/-- a tuple as a key -/
def keyT (d : D) : Option NestedKey := match convN d with
  | some (.tup ks) => if decide ((NestedKey.tup ks).depth ≤ 8) = true then some (.tup ks) else none
  | _ => none
theorem keyT_of {d : D} {k : NestedKey} (h : keyT d = some k) : d = dKey k ∧ calm k = true ∧ k.depth ≤ 8 ∧ ∃ ks, k = .tup ks := by
  unfold keyT at h
  split at h
  · rename_i ks e
    split at h
    · rename_i z
      cases h
      obtain ⟨i1, i2⟩ := convN_key e
      exact ⟨i1, i2, of_decide_eq_true z, ks, rfl⟩
    · cases h
  · cases h
section
variable {X : Cx} {pins : List (Addr × Obj)} {σ : L2.St} {H : Hp} {s : Shared} {g f : List Addr}
mutual
theorem key_is (I : Inv X pins σ H s) : ∀ (k : NestedKey) (v : V) (u : Value), RelD X.K g f H (dKey k) v → RelV v u → NestedIs s.heap k u
  | .none, v, u, h, r => by
    rw [dKey] at h
    obtain rfl : v = V.non := h
    cases r
    exact .none
  | .num i, v, u, h, r => by
    rw [dKey] at h
    obtain rfl : v = V.int i := h
    obtain ⟨t, rfl⟩ := r
    exact .int i t
  | .text x, v, u, h, r => by
    rw [dKey] at h
    obtain rfl : v = V.str x := h
    obtain ⟨t, rfl⟩ := r
    exact .text x t
  | .tup ks, v, u, h, r => by
    rw [dKey] at h
    obtain ⟨a, vs, rfl, q, rs⟩ := h
    obtain rfl : u = Value.ref a := r
    obtain ⟨its, h1, ⟨o, h2, h3, n, h4⟩, _⟩ := I.tuple q
    exact .tup h2 h3 h4 (keys_are I ks vs its rs h1)
theorem keys_are (I : Inv X pins σ H s) : ∀ (ks : List NestedKey) (vs : List V) (us : List Value), RelDs X.K g f H (dKeys ks) vs → Vals vs us → NestedAll s.heap ks us
  | [], vs, us, h, r => by
    rw [dKeys] at h
    obtain rfl : vs = [] := h
    cases r
    exact .nil
  | k :: ks, vs, us, h, r => by
    rw [dKeys] at h
    obtain ⟨v, r1, rfl, q, t⟩ := h
    cases r with
    | cons r2 r3 => exact .cons (key_is I k v _ q r2) (keys_are I ks r1 _ t r3)
end
theorem kal_all {K : PySem.W.Frag} : ∀ {l : List (NestedKey × D)} {xs : List NX}, RelKv K g f H (kdl l) (kal xs) → ∀ x ∈ xs, RelD K g f H (dKey x.1) (.ref x.2.1)
  | [], [], _, x, hx => nomatch hx
  | [], y :: ys, h, _, _ => by cases h
  | p :: l, [], h, x, hx => nomatch hx
  | p :: l, y :: ys, h, x, hx => by
    obtain ⟨v, r, e, q, t⟩ := h
    have e' : (y.1, V.ref y.2.1) :: kal ys = (p.1, v) :: r := e
    injection e' with e1 e2
    injection e1 with e3 e4
    subst e2
    rcases List.mem_cons.mp hx with z | hx
    · rw [z, e3, e4]; exact q
    · exact kal_all t x hx
theorem kAll_of {l : List (NestedKey × D)} {xs : List NX} {k : NestedKey} {b : Addr} (r : RelKv X.K g f H (kdl l) (kal xs)) (rk : RelD X.K g f H (dKey k) (.ref b)) : KAll X H xs k b :=
  fun _ _ _ I => ⟨fun x hx => key_is I x.1 _ _ (kal_all r x hx) rfl, key_is I k _ _ rk rfl⟩
theorem any_kvl (xs : List NX) (k : NestedKey) : ((kvl xs).any fun kv => decide (kv.1 = k)) = (xs.any fun x => decide (x.1 = k)) := by unfold kvl; rw [List.any_map]; rfl
theorem kvl_put (xs : List NX) (k : NestedKey) (b : Addr) (v : V) : kvl (putX xs k b v) = putK (kvl xs) k v := by
  unfold putX putK
  rw [any_kvl]
  split
  · unfold kvl
    rw [List.map_map, List.map_map]
    refine List.map_congr_left fun x _ => ?_
    show (_ : NestedKey × V) = _
    by_cases e : x.1 = k
    · simp [e]
    · simp [e]
  · unfold kvl; rw [List.map_append]; rfl
theorem kal_put (xs : List NX) (k : NestedKey) (b : Addr) (v : V) : kal (putX xs k b v) = if (xs.any fun x => decide (x.1 = k)) = true then kal xs else kal xs ++ [(k, V.ref b)] := by
  unfold putX
  split
  · unfold kal
    rw [List.map_map]
    refine List.map_congr_left fun x _ => ?_
    show (_ : NestedKey × V) = _
    by_cases e : x.1 = k
    · simp [e]
    · simp [e]
  · unfold kal; rw [List.map_append]; rfl
theorem kdl_put (l : List (NestedKey × D)) (k : NestedKey) (d : D) : kdl (putA l k d) = if (l.any fun x => decide (x.1 = k)) = true then kdl l else kdl l ++ [(k, dKey k)] := by
  unfold putA
  split
  · unfold kdl
    rw [List.map_map]
    refine List.map_congr_left fun x _ => ?_
    show (_ : NestedKey × D) = _
    by_cases e : x.1 = k
    · simp [e]
    · simp [e]
  · unfold kdl; rw [List.map_append]; rfl
/-- a dict of deep keys changes -/
theorem relT_put {K : PySem.W.Frag} {l : List (NestedKey × D)} {xs : List NX} {k : NestedKey} {b : Addr} {d : D} {v : V} (r1 : RelKv K g f H (kdl l) (kal xs)) (r2 : RelKv K g f H l (kvl xs)) (rk : RelD K g f H (dKey k) (.ref b)) (rv : RelD K g f H d v) :
    RelKv K g f H (kdl (putA l k d)) (kal (putX xs k b v)) ∧ RelKv K g f H (putA l k d) (kvl (putX xs k b v)) := by
  refine ⟨?_, by rw [kvl_put]; exact r2.put rv⟩
  rw [kal_put, kdl_put, ← any_kvl, r2.any]
  split
  · exact r1
  · exact r1.append rk
end
def dictT (S : Store) : D → Option (List (NestedKey × D))
  | .loc n => match S[n]? with
    | some (.dT l) => some l
    | _ => none
  | _ => none
theorem dictT_of {S : Store} {d : D} {l : List (NestedKey × D)} (h : dictT S d = some l) : ∃ n, d = .loc n ∧ S[n]? = some (.dT l) := by
  cases d with
  | loc n =>
    dsimp only [dictT] at h
    cases e : S[n]? with
    | none => rw [e] at h; cases h
    | some c =>
      rw [e] at h
      cases c with
      | dT l' => cases h; exact ⟨n, rfl, e⟩
      | lst _ => cases h
      | dK _ => cases h
      | dF _ => cases h
  | _ => cases h
theorem keyT_ref {K : PySem.W.Frag} {g f : List Addr} {H : Hp} {d : D} {v : V} {k : NestedKey} (r : RelD K g f H d v) (h : keyT d = some k) : ∃ b, v = .ref b ∧ RelD K g f H (dKey k) (.ref b) := by
  obtain ⟨e, _, _, ks, rfl⟩ := keyT_of h
  subst e
  have r0 := r
  rw [dKey] at r
  obtain ⟨a, vs, rfl, _, _⟩ := r
  exact ⟨a, rfl, r0⟩
section
variable {X : Cx} {e a b o i : Expr} {me ma mb mk mx mv mo : ME} {pos p apos cpos : Pos}
def mNNew : ME := fun _ S => .ok (.loc S.length) (S ++ [.dT []])
theorem em_nnew : EM X (.Dict [] [] pos) mNNew := PE.of pe_nnew fun σ H Q ⟨g, w, o, ρ, S, d, S', s, hm, q⟩ => by
  cases hm
  intro p hp
  have x : Ext g H (g ++ [p]) (upd H p (ndO p [])) := ⟨⟨[p], rfl, fun b hb => by rw [List.mem_singleton.mp hb]; exact hp⟩, fun a u h _ => (Ext.new (g := []) hp).keep a u h (by simp), (Ext.new (g := []) hp).live, (Ext.new (g := []) hp).tups, (Ext.new (g := []) hp).frz⟩
  exact q _ (g ++ [p]) _ x (((s.sto.fresh hp).new hp).addG (s.sto.noG hp) (c := .dT []) ⟨[], upd_same, rfl, rfl⟩) ⟨p, rfl, by rw [← s.sto.len]; exact List.getElem?_concat_length⟩
/-- d[k] -/
def gNGet : G2 := fun x y S => match dictT S x, keyT y with
  | some l, some k => match valA l k with
    | some d => .ok d S
    | none => .bad
  | _, _ => .bad
theorem em_nget (hu : X.A.units + 64 < cLine) (ho : EM X o mo) (hi : EM X i mk) (hs : NoSl i) : EM X (.Subscript o i pos) (m2 gNGet mo mk) :=
  PE.of (pe_nget hu ho hi hs) fun σ H Q q => op_of (r := fun x y H Q => ∃ a b xs k v, x = .ref a ∧ y = .ref b ∧ H a = some (ndO a xs) ∧ KAll X H xs k b ∧ k.depth ≤ 8 ∧ valV (kvl xs) k = some v ∧ Q v H) (fun g f H S dx dy d S' x y Q s rx ry hm q => by
    unfold gNGet at hm
    split at hm
    · rename_i l k hl hk
      split at hm
      · rename_i d' hd
        cases hm
        obtain ⟨n, rfl, hn⟩ := dictT_of hl
        obtain ⟨a, ev, hg⟩ := rx
        obtain ⟨xs, hH, r1, r2⟩ := s.cel n _ a hn hg
        obtain ⟨v, hv, rv⟩ := (r2.val (k := k)).1 _ hd
        obtain ⟨b, eb, rk⟩ := keyT_ref ry hk
        exact ⟨a, b, xs, k, v, ev, eb, hH, kAll_of r1 rk, (keyT_of hk).2.2.1, hv, q.same s rv⟩
      · cases hm
    · cases hm) q
/-- k in d, k not in d -/
def gNIn (neg : Bool) : G2 := fun y x S => match dictT S x, keyT y with
  | some l, some k => .ok (.bl ((valA l k).isSome != neg)) S
  | _, _ => .bad
def rNIn (X : Cx) (neg : Bool) : R2 := fun y x H Q => ∃ a b xs k, x = .ref a ∧ y = .ref b ∧ H a = some (ndO a xs) ∧ KAll X H xs k b ∧ k.depth ≤ 8 ∧ Q (.bl ((valV (kvl xs) k).isSome != neg)) H
theorem op_nin (hu : X.A.units + 64 < cLine) : OpR X (compareOp .In) (rNIn X false) := by
  intro pins s σ H y x iv u Q I ry rx h
  obtain ⟨a, b, xs, k, ex, ey, hH, hk, kd, q2⟩ := h
  subst ex ey
  obtain rfl : u = Value.ref a := rx
  obtain rfl : iv = Value.ref b := ry
  obtain ⟨k1, k2⟩ := hk _ _ _ I
  exact n_in hu I hH k1 k2 kd fun s3 I3 => ⟨.bl (valV (kvl xs) k).isSome, H, I3, rfl, by simpa using q2⟩
theorem op_nnotin (hu : X.A.units + 64 < cLine) : OpR X (compareOp .NotIn) (rNIn X true) := by
  intro pins s σ H y x iv u Q I ry rx h
  obtain ⟨a, b, xs, k, ex, ey, hH, hk, kd, q2⟩ := h
  subst ex ey
  obtain rfl : u = Value.ref a := rx
  obtain rfl : iv = Value.ref b := ry
  obtain ⟨k1, k2⟩ := hk _ _ _ I
  exact n_notIn hu I hH k1 k2 kd fun s3 I3 => ⟨.bl (!(valV (kvl xs) k).isSome), H, I3, rfl, by simpa using q2⟩
theorem od_nin (neg : Bool) : OpD X.K (rNIn X neg) (gNIn neg) := fun g f H S dy dx d S' y x Q s ry rx hm q => by
  unfold gNIn at hm
  split at hm
  · rename_i l k hl hk
    cases hm
    obtain ⟨n, rfl, hn⟩ := dictT_of hl
    obtain ⟨a, ev, hg⟩ := rx
    obtain ⟨xs, hH, r1, r2⟩ := s.cel n _ a hn hg
    obtain ⟨b, eb, rk⟩ := keyT_ref ry hk
    refine ⟨a, b, xs, k, ev, eb, hH, kAll_of r1 rk, (keyT_of hk).2.2.1, ?_⟩
    have e : (valV (kvl xs) k).isSome = (valA l k).isSome := by
      cases hv : valA l k with
      | none => rw [(r2.val (k := k)).2 hv]; rfl
      | some d => obtain ⟨v, e, _⟩ := (r2.val (k := k)).1 d hv; rw [e]; rfl
    rw [e]
    exact q.same s rfl
  · cases hm
/-- d.get(k), d.get(k, x) -/
def mNGet1 (md mk : ME) : ME := fun ρ S => (md ρ S).bind fun c S1 => match dictT S1 c with
  | none => .bad
  | some _ => (mk ρ S1).bind fun y S2 => match dictT S2 c, keyT y with
    | some l, some k => .ok ((valA l k).getD .non) S2
    | _, _ => .bad
theorem em_nget1 (hu : X.A.units + 64 < cLine) (ho : EM X o mo) (he : EM X e mk) (m : M1 X o "get" apos e cpos) : EM X (.Call (.Attribute o "get" apos) [e] [] cpos) (mNGet1 mo mk) :=
  PE.of (pe_nget1 hu ho he m) fun σ H Q ⟨g, w, o, ρ, S, d, S', s, hm, q⟩ => by
    obtain ⟨c, S1, h1, hm⟩ := R.bind_ok hm
    split at hm
    · cases hm
    rename_i l0 hl0
    obtain ⟨y, S2, h2, hm⟩ := R.bind_ok hm
    split at hm
    · rename_i l k hl hk
      cases hm
      obtain ⟨n, rfl, hn0⟩ := dictT_of hl0
      obtain ⟨n', en, hn⟩ := dictT_of hl
      cases en
      refine ⟨g, w, o, ρ, S, _, S1, s, h1, fun vc g1 H1 x1 s1 ⟨a, ev, hg⟩ => ?_⟩
      obtain ⟨xs0, hH0, _, _⟩ := s1.cel n _ a hn0 hg
      refine ⟨a, ev, ⟨xs0, hH0⟩, ?_⟩
      have t1 := s.ext x1 s1
      refine ⟨g1, w, o, ρ, S1, y, _, t1, h2, fun vy g2 H2 x2 s2 r2 => ?_⟩
      obtain ⟨xs, hH, q1, q2⟩ := s2.cel n _ a hn (x2.get hg)
      obtain ⟨b, eb, rk⟩ := keyT_ref r2 hk
      refine ⟨b, xs, k, eb, hH, kAll_of q1 rk, (keyT_of hk).2.2.1, q _ g2 H2 (x1.trans x2) s2 ?_⟩
      cases hv : valA l k with
      | none => rw [(q2.val (k := k)).2 hv]; rfl
      | some d => obtain ⟨v, e, rv⟩ := (q2.val (k := k)).1 d hv; rw [e]; exact rv
    · cases hm
def mNGet2 (md mk mx : ME) : ME := fun ρ S => (md ρ S).bind fun c S1 => match dictT S1 c with
  | none => .bad
  | some _ => (mk ρ S1).bind fun y S2 => (mx ρ S2).bind fun z S3 => match dictT S3 c, keyT y with
    | some l, some k => .ok ((valA l k).getD z) S3
    | _, _ => .bad
theorem em_nget2 {f : Expr} (hu : X.A.units + 64 < cLine) (ho : EM X o mo) (he : EM X e mk) (hf : EM X f mx) (m : M2 X o "get" apos e f cpos) : EM X (.Call (.Attribute o "get" apos) [e, f] [] cpos) (mNGet2 mo mk mx) :=
  PE.of (pe_nget2 hu ho he hf m) fun σ H Q ⟨g, w, o, ρ, S, d, S', s, hm, q⟩ => by
    obtain ⟨c, S1, h1, hm⟩ := R.bind_ok hm
    split at hm
    · cases hm
    rename_i l0 hl0
    obtain ⟨y, S2, h2, hm⟩ := R.bind_ok hm
    obtain ⟨z, S3, h3, hm⟩ := R.bind_ok hm
    split at hm
    · rename_i l k hl hk
      cases hm
      obtain ⟨n, rfl, hn0⟩ := dictT_of hl0
      obtain ⟨n', en, hn⟩ := dictT_of hl
      cases en
      refine ⟨g, w, o, ρ, S, _, S1, s, h1, fun vc g1 H1 x1 s1 ⟨a, ev, hg⟩ => ?_⟩
      obtain ⟨xs0, hH0, _, _⟩ := s1.cel n _ a hn0 hg
      refine ⟨a, ev, ⟨xs0, hH0⟩, ?_⟩
      have t1 := s.ext x1 s1
      refine ⟨g1, w, o, ρ, S1, y, S2, t1, h2, fun vy g2 H2 x2 s2 r2 => ?_⟩
      refine ⟨g2, w, o, ρ, S2, z, _, t1.ext x2 s2, h3, fun vz g3 H3 x3 s3 r3 => ?_⟩
      obtain ⟨xs, hH, q1, q2⟩ := s3.cel n _ a hn ((x2.trans x3).get hg)
      obtain ⟨b, eb, rk⟩ := keyT_ref (RelD.ext x3 _ _ r2) hk
      refine ⟨b, xs, k, eb, hH, kAll_of q1 rk, (keyT_of hk).2.2.1, q _ g3 H3 ((x1.trans x2).trans x3) s3 ?_⟩
      cases hv : valA l k with
      | none => rw [(q2.val (k := k)).2 hv]; exact r3
      | some d => obtain ⟨v, e, rv⟩ := (q2.val (k := k)).1 d hv; rw [e]; exact rv
    · cases hm
/-- d[k] = v -/
def putT (c y d : D) (S : Store) : Option Store := match c with
  | .loc n => match dictT S (.loc n), keyT y with
    | some l, some k => if l.length < sizeLine then some (S.set n (.dT (putA l k d))) else none
    | _, _ => none
  | _ => none
theorem putT_ok {c y d : D} {S S' : Store} (h : putT c y d S = some S') : ∃ n l k, c = .loc n ∧ S[n]? = some (.dT l) ∧ keyT y = some k ∧ l.length < sizeLine ∧ S' = S.set n (.dT (putA l k d)) := by
  cases c with
  | loc n =>
    dsimp only [putT] at h
    cases e1 : dictT S (.loc n) with
    | none => rw [e1] at h; cases h
    | some l =>
      cases e2 : keyT y with
      | none => rw [e1, e2] at h; cases h
      | some k =>
        rw [e1, e2] at h
        dsimp only at h
        split at h
        · rename_i hz
          cases h
          obtain ⟨n', en, hn⟩ := dictT_of e1
          cases en
          exact ⟨n, l, k, rfl, hn, rfl, hz, rfl⟩
        · cases h
  | _ => cases h
theorem updT {K : PySem.W.Frag} {g f : List Addr} {H : Hp} {a b : Addr} {l : List (NestedKey × D)} {xs : List NX} {k : NestedKey} {d : D} {v : V} (mD : Mut (H a)) (gD : a ∈ g) (r1 : RelKv K g f H (kdl l) (kal xs)) (r2 : RelKv K g f H l (kvl xs)) (rk : RelD K g f H (dKey k) (.ref b)) (rv : RelD K g f H d v) :
    RelC K g f (upd H a (ndO a (putX xs k b v))) a (.dT (putA l k d)) := by
  obtain ⟨q1, q2⟩ := relT_put r1 r2 rk rv
  exact ⟨_, upd_same, RelKv.upd mD (.inr gD) _ _ q1, RelKv.upd mD (.inr gD) _ _ q2⟩
def mNPut (md mk mv : ME) : MS := fun ρ S => (mv ρ S).bind fun d S1 => (md ρ S1).bind fun c S2 => (mk ρ S2).bind fun y S3 => match putT c y d S3 with
  | some S4 => .ok (.nx ρ) S4
  | none => .bad
theorem sm_nput {value : Expr} {pos' : Pos} (hu : X.A.units + 64 < cLine) (ho : EM X o mo) (hi : EM X i mk) (hv : EM X value mv) (hs : swapsWith value (some (.Subscript o i pos')) pos.line X.env = pure false := by rfl) :
    SM X (.Assign [.Subscript o i pos'] value pos) (mNPut mo mk mv) := PS.of (ps_nput hu ho hi hv hs) fun E σ H ⟨g, w, o, ρ, S, fl, S', s, hm, q⟩ => by
  obtain ⟨d, S1, h1, hm1⟩ := R.bind_ok hm
  obtain ⟨c, S2, h2, hm2⟩ := R.bind_ok hm1
  obtain ⟨y, S3, h3, hm3⟩ := R.bind_ok hm2
  split at hm3
  · rename_i S4 hp
    cases hm3
    obtain ⟨n, l, k, rfl, hn, hk, hz, rfl⟩ := putT_ok hp
    refine ⟨g, w, o, ρ, S, d, S1, s, h1, fun v g1 H1 x1 s1 r1 => ?_⟩
    have t1 := s.ext x1 s1
    refine ⟨g1, w, o, ρ, S1, _, S2, t1, h2, fun vc g2 H2 x2 s2 r2 => ?_⟩
    have t2 := t1.ext x2 s2
    refine ⟨g2, w, o, ρ, S2, y, S3, t2, h3, fun vy g3 H3 x3 s3 r3 => ?_⟩
    have t3 := t2.ext x3 s3
    obtain ⟨a, ea, hg⟩ := RelD.ext x3 _ _ r2
    obtain ⟨xs, hH, q1, q2⟩ := s3.cel n _ a hn hg
    have mD : Mut (H3 a) := by rw [hH]; trivial
    have gD : a ∈ g3 := List.mem_of_getElem? hg
    have rv := RelD.ext (x2.trans x3) d v r1
    obtain ⟨b, eb, rk⟩ := keyT_ref r3 hk
    obtain ⟨_, ck, kd, _⟩ := keyT_of hk
    refine ⟨a, b, xs, k, ea, eb, hH, kAll_of q1 rk, kd, ck, ?_, ?_⟩
    · have e1 := q2.length
      unfold kvl at e1
      rw [List.length_map] at e1
      omega
    · have x4 : Ext g3 H3 g3 (upd H3 a (ndO a (putX xs k b v))) := .updG mD gD
      have s4 := s3.updG (c := .dT (putA l k d)) (u := ndO a (putX xs k b v)) mD hg (updT mD gD q1 q2 rk rv)
      exact q g3 o _ (((x1.trans x2).trans x3).trans x4).s σ (t3.ext x4 s4)
  · cases hm3
/-- d.setdefault(k, x) -/
def setT (c y z : D) (S : Store) : R D := match c with
  | .loc n => match dictT S (.loc n), keyT y with
    | some l, some k => if l.length < sizeLine then (match valA l k with
      | some d => .ok d S
      | none => .ok z (S.set n (.dT (putA l k z)))) else .bad
    | _, _ => .bad
  | _ => .bad
theorem setT_ok {c y z d : D} {S S' : Store} (h : setT c y z S = .ok d S') : ∃ n l k, c = .loc n ∧ S[n]? = some (.dT l) ∧ keyT y = some k ∧ l.length < sizeLine ∧ ((valA l k = some d ∧ S' = S) ∨ (valA l k = none ∧ d = z ∧ S' = S.set n (.dT (putA l k z)))) := by
  cases c with
  | loc n =>
    dsimp only [setT] at h
    cases e1 : dictT S (.loc n) with
    | none => rw [e1] at h; cases h
    | some l =>
      cases e2 : keyT y with
      | none => rw [e1, e2] at h; cases h
      | some k =>
        rw [e1, e2] at h
        dsimp only at h
        split at h
        · rename_i hz
          obtain ⟨n', en, hn⟩ := dictT_of e1
          cases en
          refine ⟨n, l, k, rfl, hn, rfl, hz, ?_⟩
          cases e3 : valA l k with
          | some d' => rw [e3] at h; cases h; exact .inl ⟨rfl, rfl⟩
          | none => rw [e3] at h; cases h; exact .inr ⟨rfl, rfl, rfl⟩
        · cases h
  | _ => cases h
def mNSet (md mk mx : ME) : ME := fun ρ S => (md ρ S).bind fun c S1 => match dictT S1 c with
  | none => .bad
  | some _ => (mk ρ S1).bind fun y S2 => (mx ρ S2).bind fun z S3 => setT c y z S3
theorem em_nsetd {f : Expr} (hu : X.A.units + 64 < cLine) (ho : EM X o mo) (he : EM X e mk) (hf : EM X f mx) (m : M2 X o "setdefault" apos e f cpos) : EM X (.Call (.Attribute o "setdefault" apos) [e, f] [] cpos) (mNSet mo mk mx) :=
  PE.of (pe_nsetd hu ho he hf m) fun σ H Q ⟨g, w, o, ρ, S, d, S', s, hm, q⟩ => by
    obtain ⟨c, S1, h1, hm1⟩ := R.bind_ok hm
    split at hm1
    · cases hm1
    rename_i l0 hl0
    obtain ⟨y, S2, h2, hm2⟩ := R.bind_ok hm1
    obtain ⟨z, S3, h3, hm3⟩ := R.bind_ok hm2
    obtain ⟨n, l, k, rfl, hn, hk, hz, hor⟩ := setT_ok hm3
    obtain ⟨n0, en0, hn0⟩ := dictT_of hl0
    cases en0
    refine ⟨g, w, o, ρ, S, _, S1, s, h1, fun vc g1 H1 x1 s1 ⟨a, ev, hg⟩ => ?_⟩
    obtain ⟨xs0, hH0, _, _⟩ := s1.cel n _ a hn0 hg
    refine ⟨a, ev, ⟨xs0, hH0⟩, ?_⟩
    have t1 := s.ext x1 s1
    refine ⟨g1, w, o, ρ, S1, y, S2, t1, h2, fun vy g2 H2 x2 s2 r2 => ?_⟩
    refine ⟨g2, w, o, ρ, S2, z, S3, t1.ext x2 s2, h3, fun vz g3 H3 x3 s3 r3 => ?_⟩
    have hg3 := (x2.trans x3).get hg
    obtain ⟨xs, hH, q1, q2⟩ := s3.cel n _ a hn hg3
    have mD : Mut (H3 a) := by rw [hH]; trivial
    have gD : a ∈ g3 := List.mem_of_getElem? hg3
    obtain ⟨b, eb, rk⟩ := keyT_ref (RelD.ext x3 _ _ r2) hk
    obtain ⟨_, ck, kd, _⟩ := keyT_of hk
    have hlen : xs.length < sizeLine := by
      have e1 := q2.length
      unfold kvl at e1
      rw [List.length_map] at e1
      omega
    refine ⟨b, xs, k, eb, hH, kAll_of q1 rk, kd, ck, hlen, fun v hv => ?_, fun hv => ?_⟩
    · rcases hor with ⟨hva, rfl⟩ | ⟨hva, _, _⟩
      · obtain ⟨v', e', rv⟩ := (q2.val (k := k)).1 d hva
        rw [hv] at e'
        cases e'
        exact q v g3 H3 ((x1.trans x2).trans x3) s3 rv
      · rw [(q2.val (k := k)).2 hva] at hv; cases hv
    · rcases hor with ⟨hva, _⟩ | ⟨hva, rfl, rfl⟩
      · obtain ⟨v', e', rv⟩ := (q2.val (k := k)).1 d hva
        rw [hv] at e'; cases e'
      · have x4 : Ext g3 H3 g3 (upd H3 a (ndO a (putX xs k b vz))) := .updG mD gD
        have s4 := s3.updG (c := .dT (putA l k d)) (u := ndO a (putX xs k b vz)) mD hg3 (updT mD gD q1 q2 rk r3)
        exact q vz g3 _ (((x1.trans x2).trans x3).trans x4) s4 (RelD.ext x4 _ _ r3)
end
/-! what they give -/
@[simp] theorem mNNew_eq (ρ : MEnv) (S : Store) : mNNew ρ S = .ok (.loc S.length) (S ++ [.dT []]) := rfl
@[simp] theorem dictT_eq (S : Store) (n : Nat) : dictT S (.loc n) = (match S[n]? with | some (.dT l) => some l | _ => none) := rfl
@[simp] theorem mNGet1_eq (md mk : ME) (ρ : MEnv) (S : Store) : mNGet1 md mk ρ S = (md ρ S).bind fun c S1 => match dictT S1 c with
  | none => .bad
  | some _ => (mk ρ S1).bind fun y S2 => match dictT S2 c, keyT y with
    | some l, some k => .ok ((valA l k).getD .non) S2
    | _, _ => .bad := rfl
@[simp] theorem mNGet2_eq (md mk mx : ME) (ρ : MEnv) (S : Store) : mNGet2 md mk mx ρ S = (md ρ S).bind fun c S1 => match dictT S1 c with
  | none => .bad
  | some _ => (mk ρ S1).bind fun y S2 => (mx ρ S2).bind fun z S3 => match dictT S3 c, keyT y with
    | some l, some k => .ok ((valA l k).getD z) S3
    | _, _ => .bad := rfl
@[simp] theorem gNGet_eq (n : Nat) (y : D) (S : Store) : gNGet (.loc n) y S = (match dictT S (.loc n), keyT y with
  | some l, some k => match valA l k with
    | some d => .ok d S
    | none => .bad
  | _, _ => .bad) := rfl
@[simp] theorem gNIn_eq (neg : Bool) (n : Nat) (y : D) (S : Store) : gNIn neg y (.loc n) S = (match dictT S (.loc n), keyT y with
  | some l, some k => .ok (.bl ((valA l k).isSome != neg)) S
  | _, _ => .bad) := rfl
@[simp] theorem putT_eq (n : Nat) (y d : D) (S : Store) : putT (.loc n) y d S = (match dictT S (.loc n), keyT y with
    | some l, some k => if l.length < sizeLine then some (S.set n (.dT (putA l k d))) else none
    | _, _ => none) := rfl
@[simp] theorem setT_eq (n : Nat) (y z : D) (S : Store) : setT (.loc n) y z S = (match dictT S (.loc n), keyT y with
    | some l, some k => if l.length < sizeLine then (match valA l k with
      | some d => .ok d S
      | none => .ok z (S.set n (.dT (putA l k z)))) else .bad
    | _, _ => .bad) := rfl
@[simp] theorem mNPut_eq (md mk mv : ME) (ρ : MEnv) (S : Store) : mNPut md mk mv ρ S = (mv ρ S).bind fun d S1 => (md ρ S1).bind fun c S2 => (mk ρ S2).bind fun y S3 => match putT c y d S3 with
  | some S4 => .ok (.nx ρ) S4
  | none => .bad := rfl
@[simp] theorem mNSet_eq (md mk mx : ME) (ρ : MEnv) (S : Store) : mNSet md mk mx ρ S = (md ρ S).bind fun c S1 => match dictT S1 c with
  | none => .bad
  | some _ => (mk ρ S1).bind fun y S2 => (mx ρ S2).bind fun z S3 => setT c y z S3 := rfl
end Mo
set_option maxRecDepth 100000
set_option maxHeartbeats 1000000
/-! Mo: dict comprehensions, get of one argument, defaults of keyword-only parameters, constants of a module. -/
namespace Mo
open PySem PySem.Spec PyProof.Rows L2
def mDcL (p : Pat) (mt : MT) (mk me : ME) : List D → MEnv → Store → List (Key × D) → R (List (Key × D))
  | [], _, S, acc => .ok acc S
  | d :: ds, ρ, S, acc => match p.bind d with
    | none => .bad
    | some l => (mt (setD ρ l) S).bind fun k S1 => if k = true then (mk (setD ρ l) S1).bind fun y S2 => (me (setD ρ l) S2).bind fun z S3 => match keyD y with
        | some kk => if acc.length < sizeLine then mDcL p mt mk me ds ρ S3 (putA acc kk z) else .bad
        | none => .bad
      else mDcL p mt mk me ds ρ S1 acc
/-- {k: e for p in it if t}: a new dict of the store -/
def mDc (it : ML) (p : Pat) (vs : List Nat) (mt : MT) (mk me : ME) : ME := fun ρ S => (it ρ S).bind fun l S1 => (mDcL p mt mk me l (wipeM ρ vs) S1 []).bind fun r S2 => .ok (.loc S2.length) (S2 ++ [.dK r])
section
variable {X : Cx} {tg iter kx elt : Expr} {ifs : List Expr} {p : Pat} {pos : Pos} {ml : ML} {mt : MT} {mk me : ME}
theorem dc_of {vs : List Nat} {σ : L2.St} {H : Hp} {Q : VK} (hv : ∀ i ∈ p.ixs, i ∈ vs) (q : tE X.K (mDc ml p vs mt mk me) σ H Q) : tDc (tI X.K ml) (tG X.K p) (tM X.K mt) (tE X.K mk) (tE X.K me) vs σ H Q := by
  obtain ⟨g, w, o, ρ, S, res, S', s, hm, q⟩ := q
  obtain ⟨l, S1, h1, hm⟩ := R.bind_ok hm
  obtain ⟨r, S2, h2, hm⟩ := R.bind_ok hm
  cases hm
  refine ⟨g, w, o, ρ, S, l, S1, s, h1, fun g1 H1 J x1 s1 wk D hD => ?_⟩
  have st1 : Sta X.K g1 w o ρ S1 σ H1 := s.ext x1 s1
  have hHD : H D = none := by
    cases e : H D with
    | none => rfl
    | some u => exact absurd hD (x1.live D (by rw [e]; simp))
  have ea : w ++ (o ++ [D]) = (w ++ o) ++ [D] := (List.append_assoc w o [D]).symm
  have noOwn : ∀ (i : Nat) (c : Cell), (wipeM ρ vs)[i]? = some (some (Slot.own c)) → (wipe σ vs)[i]? ≠ some (some (V.ref D)) := fun i c h e => by
    obtain ⟨a, e1, m, _⟩ := (st1.wipe vs).own i c h
    rw [e] at e1; cases e1
    exact st1.liv D (List.mem_append_right _ m) hD
  have st2 : Sta X.K g1 w (o ++ [D]) (wipeM ρ vs) S1 (wipe σ vs) (upd H1 D (.dK [])) := by
    have a := st1.wipe vs
    refine ⟨a.len, fun i d h => ?_, fun i c h => ?_, a.inj, fun b m => ?_, fun b m => ?_, ?_⟩
    · obtain ⟨v, e1, r1⟩ := a.val i d h
      exact ⟨v, e1, by rw [ea]; exact RelD.ext (.new hD) d v (RelD.fresh hD d v r1)⟩
    · obtain ⟨b, e1, m, r1⟩ := a.own i c h
      exact ⟨b, e1, List.mem_append_left _ m, by rw [ea]; exact (r1.fresh hD).new hD⟩
    · rcases List.mem_append.mp m with m | m
      · exact a.out b m
      · rw [List.mem_singleton.mp m]
        exact ⟨s1.noG hD, fun z => st1.noF hD (List.mem_append_left _ z)⟩
    · rw [ea] at m
      by_cases e : b = D
      · subst e; rw [upd_same]; simp
      · rw [upd_ne e]
        rcases List.mem_append.mp m with m | m
        · exact a.liv b m
        · exact absurd (List.mem_singleton.mp m) e
    · rw [ea]; exact (s1.fresh hD).new hD
  refine ⟨fun i m H2 => m = l.length - i ∧ i ≤ l.length ∧ ∃ g2 S3 acc accD, Ext g1 H1 g2 H2 ∧ Sta X.K g2 w (o ++ [D]) (wipeM ρ vs) S3 (wipe σ vs) H2 ∧ H2 D = some (.dK acc) ∧ RelKv X.K g2 (w ++ (o ++ [D])) H2 accD acc ∧
      mDcL p mt mk me (l.drop i) (wipeM ρ vs) S3 accD = .ok r S2,
    ⟨l.length, by simp, Nat.zero_le _, g1, S1, [], [], .new hD, st2, upd_same, rfl, by simpa using h2⟩, ?_⟩
  rintro i m H2 ⟨rfl, hi, g2, S3, acc, accD, x2, s2, hacc, racc, hm⟩
  have xs : ExtS g1 o H1 g2 (o ++ [D]) H2 := .own x2 hD
  by_cases hlt : i < l.length
  · have hdr : l.drop i = l[i] :: l.drop (i + 1) := List.drop_eq_getElem_cons hlt
    obtain ⟨go, yl⟩ := wk.item i l[i] g2 (o ++ [D]) H2 (List.getElem?_eq_getElem hlt) xs
    rw [hdr] at hm
    unfold mDcL at hm
    split at hm
    · cases hm
    rename_i bl hbl
    obtain ⟨k, S4, h3, hm⟩ := R.bind_ok hm
    refine .inr ⟨go, fun H3 => ∃ g3 S3 acc accD, Ext g1 H1 g3 H3 ∧ Sta X.K g3 w (o ++ [D]) (wipeM ρ vs) S3 (wipe σ vs) H3 ∧ H3 D = some (.dK acc) ∧ RelKv X.K g3 (w ++ (o ++ [D])) H3 accD acc ∧
      mDcL p mt mk me (l.drop (i + 1)) (wipeM ρ vs) S3 accD = .ok r S2, fun H' n => ⟨l.length - (i + 1), by omega, rfl, hlt, n⟩, fun x H3 hy => ?_⟩
    obtain ⟨⟨x3, t3⟩, rx⟩ := yl x H3 hy
    have s3 := s2.ext x3 (t3 _ _ s2.sto)
    have racc3 := RelKv.ext x3 _ _ racc
    have nD : D ∉ g2 := (s2.out D (by simp)).1
    have hacc3 : H3 D = some (.dK acc) := x3.keep D _ hacc nD
    refine ⟨g2, w ++ (o ++ [D]), l[i], bl, rx, hbl, fun us ru => ⟨wipe_setV fun j hj => ?_, ?_⟩⟩
    · rw [ru.fst, p.bind_ixs _ _ hbl] at hj
      exact hv j hj
    refine ⟨g2, w, o ++ [D], _, S3, k, S4, s3.setA ru, h3, fun g4 H4 x4 s4 => ?_⟩
    have st4 := s3.ext x4 s4
    have racc4 := RelKv.ext x4 _ _ racc3
    have hacc4 : H4 D = some (.dK acc) := x4.keep D _ hacc3 nD
    have nD4 : D ∉ g4 := (st4.out D (by simp)).1
    have x14 := (x2.trans x3).trans x4
    cases k with
    | false =>
      rw [if_neg Bool.false_ne_true] at hm
      exact iteF ⟨g4, S4, acc, accD, x14, st4, hacc4, racc4, hm⟩
    | true =>
      rw [if_pos rfl] at hm
      obtain ⟨y, S5, h5, hm⟩ := R.bind_ok hm
      obtain ⟨z, S6, h6, hm⟩ := R.bind_ok hm
      split at hm
      · rename_i kk hkk
        split at hm
        · rename_i hz
          refine iteT ⟨g4, w, o ++ [D], _, S4, y, S5, (s3.setA ru).ext x4 s4, h5, fun v g5 H5 x5 s5 r5 => ?_⟩
          have st5 := st4.ext x5 s5
          refine ⟨g5, w, o ++ [D], _, S5, z, S6, ((s3.setA ru).ext x4 s4).ext x5 s5, h6, fun u g6 H6 x6 s6 r6 => ?_⟩
          have st6 := st5.ext x6 s6
          have x46 := x5.trans x6
          have hacc6 : H6 D = some (.dK acc) := x46.keep D _ hacc4 nD4
          have nD6 : D ∉ g6 := (st6.out D (by simp)).1
          have racc6 := RelKv.ext x46 _ _ racc4
          have mD : Mut (H6 D) := by rw [hacc6]; trivial
          have fD : D ∈ w ++ (o ++ [D]) := by simp
          refine ⟨acc, kk, keyD_rel r5 hkk, hacc6, by rw [← racc6.length]; exact hz, ?_⟩
          refine ⟨g6, S6, putK acc kk u, putA accD kk z, ?_, st6.updF mD fD nD6 noOwn, upd_same, RelKv.upd mD (.inl fD) _ _ (racc6.put r6), hm⟩
          have xx := x14.trans x46
          refine ⟨xx.more, fun a u e hn => ?_, fun a h => ?_, fun a vs h => ?_, fun a o u h => ?_⟩
          · have : a ≠ D := fun z => by subst z; rw [hD] at e; cases e
            rw [upd_ne this]; exact xx.keep a u e hn
          · by_cases z : a = D
            · subst z; rw [upd_same]; simp
            · rw [upd_ne z]; exact xx.live a h
          · have h' := xx.tups a vs h
            exact Rd.upd (Rd.mut (v := .tup vs) mD (fun z => z) h') h'
          · have h' := xx.frz a o u h
            have : a ≠ D := fun z => by subst z; rw [h'] at mD; exact mD
            rw [upd_ne this]; exact h'
        · cases hm
      · cases hm
  · have e : i = l.length := by omega
    subst e
    rw [List.drop_length] at hm
    cases hm
    refine .inl ⟨wk.stop _ g2 (o ++ [D]) H2 (Nat.le_refl _) xs, ?_⟩
    have nD : D ∉ g2 := (s2.out D (by simp)).1
    obtain ⟨ns, eg, hns⟩ := (x1.trans x2).more
    have x3 : Ext g H (g2 ++ [D]) H2 := ⟨⟨ns ++ [D], by rw [eg, List.append_assoc], fun b hb => by
      rcases List.mem_append.mp hb with z | z
      · exact hns b z
      · rw [List.mem_singleton.mp z]; exact hHD⟩, (x1.trans x2).keep, (x1.trans x2).live, (x1.trans x2).tups, (x1.trans x2).frz⟩
    have sto := s2.sto
    rw [ea] at sto racc
    exact q _ _ H2 x3 (sto.addG nD ⟨acc, hacc, racc⟩) ⟨D, rfl, by rw [← s2.sto.len]; exact List.getElem?_concat_length⟩
theorem em_dc {scope : Scope} {own : List (Str × Nat)} (hc : X.calm = true) (hN : X.N.Nodup) (hi : IM X tg iter ml) (ok : BlkOk X.N X.env.scope scope own) (hv : ∀ i ∈ p.ixs, i ∈ own.map (·.2))
    (hg : ∀ (s : Shared) (H : Hp) (C : Addr) (cl : List (Str × Addr)) (fp : List Addr), GM (X.blk s H scope (compEnvC scope cl C X.env) fp) tg p)
    (ht : ∀ (s : Shared) (H : Hp) (C : Addr) (cl : List (Str × Addr)) (fp : List Addr), TsM (X.blk s H scope (compEnvC scope cl C X.env) fp) ifs mt)
    (hk : ∀ (s : Shared) (H : Hp) (C : Addr) (cl : List (Str × Addr)) (fp : List Addr), EM (X.blk s H scope (compEnvC scope cl C X.env) fp) kx mk)
    (he : ∀ (s : Shared) (H : Hp) (C : Addr) (cl : List (Str × Addr)) (fp : List Addr), EM (X.blk s H scope (compEnvC scope cl C X.env) fp) elt me) (hs : ∀ x, foldedSetIterable iter X.env x = pure x := by intro _; rfl) :
    EM X (.DictComp kx elt [⟨tg, iter, ifs, 0⟩] scope pos) (mDc ml p (own.map (·.2)) mt mk me) :=
  PE.of (pe_dc (g := tG X.K p) (tt := tM X.K mt) (tk := tE X.K mk) (tv := tE X.K me) hc hN hi ok hg ht hk he hs) fun σ H Q q => dc_of hv q
end
end Mo
set_option maxRecDepth 100000
set_option maxHeartbeats 1000000
namespace Mo
open PySem PySem.Spec PyProof.Rows L2
section
variable {X : Cx} {e a b o i : Expr} {me ma mb mk mx mv mo : ME} {pos p apos cpos : Pos}
/-- d.get(k) -/
def mDGet1 (md mk : ME) : ME := fun ρ S => (md ρ S).bind fun c S1 => match dictR S1 c with
  | none => .bad
  | some _ => (mk ρ S1).bind fun y S2 => match dictR S2 c, keyD y with
    | some l, some k => .ok ((valA l k).getD .non) S2
    | _, _ => .bad
theorem em_dget1 (hu : X.A.units + 64 < cLine) (ho : EM X o mo) (he : EM X e mk) (m : M1 X o "get" apos e cpos) : EM X (.Call (.Attribute o "get" apos) [e] [] cpos) (mDGet1 mo mk) :=
  PE.of (pe_dget1 (by omega) ho he m) fun σ H Q ⟨g, w, o, ρ, S, d, S', s, hm, q⟩ => by
    obtain ⟨c, S1, h1, hm⟩ := R.bind_ok hm
    split at hm
    · cases hm
    rename_i l0 hl0
    obtain ⟨y, S2, h2, hm⟩ := R.bind_ok hm
    split at hm
    · rename_i l k hl hk
      cases hm
      obtain ⟨n, rfl, hn0⟩ := dictR_of hl0
      obtain ⟨n', en, hn⟩ := dictR_of hl
      cases en
      refine ⟨g, w, o, ρ, S, _, S1, s, h1, fun vc g1 H1 x1 s1 ⟨a, ev, hg⟩ => ?_⟩
      obtain ⟨kvs0, hH0, _⟩ := s1.rd hn0 hg
      refine ⟨a, ev, .inl ⟨kvs0, hH0⟩, ?_⟩
      have t1 := s.ext x1 s1
      refine ⟨g1, w, o, ρ, S1, y, _, t1, h2, fun vy g2 H2 x2 s2 r2 => ?_⟩
      obtain ⟨kvs, hH, r⟩ := s2.rd hn (x2.get hg)
      refine ⟨valV kvs k, ?_, q _ g2 H2 (x1.trans x2) s2 ?_⟩
      · rw [keyD_rel r2 hk]
        exact .inl ⟨kvs, k, hH, rfl, rfl⟩
      · cases hv : valA l k with
        | none => rw [(r.val (k := k)).2 hv]; rfl
        | some d => obtain ⟨v, e, rv⟩ := (r.val (k := k)).1 d hv; rw [e]; exact rv
    · cases hm
@[simp] theorem mDGet1_eq (md mk : ME) (ρ : MEnv) (S : Store) : mDGet1 md mk ρ S = (md ρ S).bind fun c S1 => match dictR S1 c with
  | none => .bad
  | some _ => (mk ρ S1).bind fun y S2 => match dictR S2 c, keyD y with
    | some l, some k => .ok ((valA l k).getD .non) S2
    | _, _ => .bad := rfl
end
/-! ### constants of a module -/
mutual
def KD (K : PySem.W.Frag) : D → Value → Prop
  | .non, u => u = .none
  | .bl b, u => u = .bool b
  | .int i, u => ∃ t, u = .int i t
  | .str x, u => ∃ t, u = .str x t
  | .tup l, u => ∃ (a : Addr) (ob : Obj) (its : Array Value) (n : Nat), u = .ref a ∧ K.lookup a = some ob ∧ ob.cls = .type "tuple" ∧ ob.data = .seq its n ∧ its.size ≤ sizeLine ∧ KDs K l its.toList
  | .lst _, _ | .loc _, _ | .raw _, _ | .scr _, _ => False
def KDs (K : PySem.W.Frag) : List D → List Value → Prop
  | [], us => us = []
  | d :: ds, us => ∃ u r, us = u :: r ∧ KD K d u ∧ KDs K ds r
end
mutual
theorem kd_rel {K : PySem.W.Frag} : ∀ {d : D} {u : Value}, KD K d u → ∃ v, RelV v u ∧ ∀ g f H, RelD K g f H d v
  | .non, u, h => by rw [KD] at h; subst h; exact ⟨.non, rfl, fun _ _ _ => rfl⟩
  | .bl b, u, h => by rw [KD] at h; subst h; exact ⟨.bl b, rfl, fun _ _ _ => rfl⟩
  | .int i, u, h => by rw [KD] at h; exact ⟨.int i, h, fun _ _ _ => rfl⟩
  | .str x, u, h => by rw [KD] at h; exact ⟨.str x, h, fun _ _ _ => rfl⟩
  | .tup l, u, h => by
    rw [KD] at h
    obtain ⟨a, ob, its, n, rfl, h1, h2, h3, h4, h5⟩ := h
    obtain ⟨vs, r1, r2⟩ := kds_rel h5
    exact ⟨.ref a, rfl, fun g f H => ⟨a, vs, rfl, .inr ⟨ob, its, n, h1, h2, h3, h4, r1⟩, r2 g f H⟩⟩
  | .lst _, _, h | .loc _, _, h | .raw _, _, h | .scr _, _, h => by rw [KD] at h; exact h.elim
theorem kds_rel {K : PySem.W.Frag} : ∀ {l : List D} {us : List Value}, KDs K l us → ∃ vs, Vals vs us ∧ ∀ g f H, RelDs K g f H l vs
  | [], us, h => by rw [KDs] at h; subst h; exact ⟨[], .nil, fun _ _ _ => rfl⟩
  | d :: ds, us, h => by
    rw [KDs] at h
    obtain ⟨u, r, rfl, h1, h2⟩ := h
    obtain ⟨v, q1, q2⟩ := kd_rel h1
    obtain ⟨vs, q3, q4⟩ := kds_rel h2
    exact ⟨v :: vs, .cons q1 q3, fun g f H => ⟨v, vs, rfl, q2 g f H, q4 g f H⟩⟩
end
/-- a name of the module that stands for data -/
structure Cst (K : PySem.W.Frag) (mg : Str → Option Value) (x : Str) (d : D) : Prop where
  ex : ∃ u, mg x = some u ∧ KD K d u
theorem em_cst {X : Cx} {x : Str} {d : D} {pos : Pos} (c : Cst X.K X.mg x d) (hg : Gl X x) (hd : (x == ("__debug__" : Str)) = false := by decide) : EM X (.Name x pos) (mC d) := by
  obtain ⟨u, h1, h2⟩ := c.ex
  obtain ⟨v, r1, r2⟩ := kd_rel h2
  refine PE.of (pe_glob hg h1 r1 hd) fun σ H Q ⟨g, w, o, ρ, S, d', S', s, hm, q⟩ => ?_
  cases hm
  exact q v g H .refl s.sto (r2 _ _ _)
/-! ### keyword-only parameters with a default -/
/-- how names bind where the last parameters are not given -/
structure MixD (K : PySem.W.Frag) (fd : FuncData) (ps ks : List Str) (np : Nat) (ix : List Nat) (dv : List D) : Prop where
  ex : ∃ (dvs : List V) (dws : List Value), Vals dvs dws ∧ (∀ K g f H, RelDs K g f H dv dvs) ∧
    ∀ (s : Shared) (us ws : List Value), K.In s.heap → us.length = np → ws.length = ks.length → BindsTo s fd ⟨us, ks.zip ws⟩ (ps.zip (pickIx ix us ws ++ dws))
def mCallD (m : MF) (n np nk : Nat) (ix : List Nat) (dv : List D) (l lk : MA) : ME := fun ρ S => (l ρ S).bind fun ds S1 => (lk ρ S1).bind fun es S2 =>
  if ds.length = np ∧ es.length = nk ∧ (pickIx ix ds es ++ dv).length = n then m (pickIx ix ds es ++ dv) S2 else .bad
section
variable {X : Cx} {k n : Nat} {a : Addr} {fd : FuncData} {ps : List Str} {x : Str} {p pos : Pos} {e : Expr} {es : List Expr} {l : MA} {m : MF} {dv : List D}
variable {kws : List Keyword} {ks : List Str} {lk : MA} {np : Nat} {ix : List Nat}
theorem em_ownD (C : Own X.prog X.w X.K X.mg X.base k n x ps a fd m) (B : MixD X.K fd ps ks np ix dv) (hgd : X.A.guards = some []) (hr : Room k X.A) (hg : Gl X x) (ha : AM X (e :: es) l) (hkw : KM X kws lk) (hall : (backToKw pos (keywordEach kws X.env)).all (·.1.isSome) = true := by rfl)
    (hks : (backToKw pos (keywordEach kws X.env)).filterMap (·.1) = ks := by rfl) (hdb : (x == ("__debug__" : Str)) = false := by decide) (he : starEach (e :: es) X.env = (false, eval e X.env) :: starEach es X.env := by rfl)
    (hpl : ((backTo pos (starEach (e :: es) X.env)).any (·.1) || (backToKw pos (keywordEach kws X.env)).any (·.1.isNone)) = false := by rfl) : EM X (.Call (.Name x p) (e :: es) kws pos) (mCallD m n np ks.length ix dv l lk) := by
  obtain ⟨dvs, dws, hv, hdd, hb⟩ := B.ex
  refine ⟨fun pins s σ H Q I ⟨g, w, o, ρ, S, d, S', st, hq, q⟩ => ?_⟩
  obtain ⟨ds, S1, h1, hq⟩ := R.bind_ok hq
  obtain ⟨ds2, S2, h2, hq⟩ := R.bind_ok hq
  split at hq
  · rename_i hl
    obtain ⟨l1, l2, l3⟩ := hl
    refine wpAny_Call_Name_kw (ld_glob I hg C.at_ (PySem.W.callWith_KW (h₀ := X.base) I.ok.mod.kin C.kp hall ?_ hpl he) hdb)
    refine thn (PA.run ha pos pins s σ H _ I ⟨g, w, o, ρ, S, ds, S1, st, h1, fun vs g1 H1 x1 s1 r1 => (⟨g1, H1, rfl, x1, s1, r1⟩ : ∃ g1 H2, H1 = H2 ∧ Ext g H g1 H2 ∧ RelS X.K g1 (w ++ o) H2 S1 ∧ RelDs X.K g1 (w ++ o) H2 ds vs)⟩) fun us s1 ⟨vs, H1, I1, r, g1, H1', e1, x1, t1, r1⟩ => ?_
    subst e1
    refine thn (PK.run hkw pos pins s1 σ H1 _ I1 ⟨g1, w, o, ρ, S1, ds2, S2, st.ext x1 t1, h2, fun zs g2 H2 x2 s2 r2 => (⟨g2, H2, rfl, x2, s2, r2⟩ : ∃ g2 H3, H2 = H3 ∧ Ext g1 H1 g2 H3 ∧ RelS X.K g2 (w ++ o) H3 S2 ∧ RelDs X.K g2 (w ++ o) H3 ds2 zs)⟩) fun ws s2 ⟨zs, H2, I2, rz, g2, H2', e2, x2, t2, r2⟩ => ⟨I2.kIn, ?_⟩
    subst e2
    rw [hks]
    have u1 : us.length = np := by rw [← r.length, ← r1.length]; exact l1
    have u2 : ws.length = ks.length := by rw [← rz.length, ← r2.length]; exact l2
    have rr : RelDs X.K g2 (w ++ o) H2 (pickIx ix ds ds2 ++ dv) (pickIx ix vs zs ++ dvs) := RelDs.append (rel_pick (RelDs.append (RelDs.ext x2 ds vs r1) r2) ix) (hdd _ _ _ _)
    have rv : Vals (pickIx ix vs zs ++ dvs) (pickIx ix us ws ++ dws) := (vals_pick (r.append rz) ix).append hv
    refine C.ok.run hgd hr (fun _ => hb s2 us ws I2.kIn u1 u2) pass0 I2 rv ⟨by rw [← rr.length]; exact l3, g2, w ++ o, pickIx ix ds ds2 ++ dv, S2, d, S', fun b hbm => x2.live b (x1.live b (st.liv b hbm)), t2, rr, hq, ?_⟩
    exact fun v g3 H3 x3 s3 r3 => q v g3 H3 ((x1.trans x2).trans x3) s3 r3
  · cases hq
theorem em_ownD0 (C : Own X.prog X.w X.K X.mg X.base k n x ps a fd m) (B : MixD X.K fd ps ks 0 ix dv) (hgd : X.A.guards = some []) (hr : Room k X.A) (hg : Gl X x) (hkw : KM X kws lk) (hall : (backToKw pos (keywordEach kws X.env)).all (·.1.isSome) = true := by rfl)
    (hks : (backToKw pos (keywordEach kws X.env)).filterMap (·.1) = ks := by rfl) (hdb : (x == ("__debug__" : Str)) = false := by decide)
    (hpl : ((backTo pos (starEach [] X.env)).any (·.1) || (backToKw pos (keywordEach kws X.env)).any (·.1.isNone)) = false := by rfl) : EM X (.Call (.Name x p) [] kws pos) (mCallD m n 0 ks.length ix dv aNil lk) := by
  obtain ⟨dvs, dws, hv, hdd, hb⟩ := B.ex
  refine ⟨fun pins s σ H Q I ⟨g, w, o, ρ, S, d, S', st, hq, q⟩ => ?_⟩
  obtain ⟨ds, S1, h1, hq⟩ := R.bind_ok hq
  cases h1
  obtain ⟨ds2, S2, h2, hq⟩ := R.bind_ok hq
  split at hq
  · rename_i hl
    obtain ⟨l1, l2, l3⟩ := hl
    refine wpAny_Call_Name_kw (ld_glob I hg C.at_ (PySem.W.callWith_KW0 (h₀ := X.base) I.ok.mod.kin C.kp hall ?_ hpl) hdb)
    refine thn (PK.run hkw pos pins s σ H _ I ⟨g, w, o, ρ, _, ds2, S2, st, h2, fun zs g2 H2 x2 s2 r2 => (⟨g2, H2, rfl, x2, s2, r2⟩ : ∃ g2 H3, H2 = H3 ∧ Ext g H g2 H3 ∧ RelS X.K g2 (w ++ o) H3 S2 ∧ RelDs X.K g2 (w ++ o) H3 ds2 zs)⟩) fun ws s2 ⟨zs, H2, I2, rz, g2, H2', e2, x2, t2, r2⟩ => ⟨I2.kIn, ?_⟩
    subst e2
    rw [hks]
    have u2 : ws.length = ks.length := by rw [← rz.length, ← r2.length]; exact l2
    have rr : RelDs X.K g2 (w ++ o) H2 (pickIx ix [] ds2 ++ dv) (pickIx ix [] zs ++ dvs) := RelDs.append (rel_pick (RelDs.append (l := []) (vs := []) rfl r2) ix) (hdd _ _ _ _)
    have rv : Vals (pickIx ix [] zs ++ dvs) (pickIx ix [] ws ++ dws) := (vals_pick (Vals.append .nil rz) ix).append hv
    refine C.ok.run (us := []) hgd hr (fun _ => hb s2 [] ws I2.kIn rfl u2) pass0 I2 rv ⟨by rw [← rr.length]; exact l3, g2, w ++ o, pickIx ix [] ds2 ++ dv, S2, d, S', fun b hbm => x2.live b (st.liv b hbm), t2, rr, hq, ?_⟩
    exact fun v g3 H3 x3 s3 r3 => q v g3 H3 (x2.trans x3) s3 r3
  · cases hq
/-- the same call, its values written in their places, no keywords -/
theorem em_ownP (C : Own X.prog X.w X.K X.mg X.base k n x ps a fd m) (B : MixD X.K fd ps [] np ix dv) (hix : ∀ us : List Value, us.length = np → pickIx ix us [] = us) (hn : np + dv.length = ps.length) (hgd : X.A.guards = some []) (hr : Room k X.A) (hg : Gl X x) (ha : AM X (e :: es) l) (hdb : (x == ("__debug__" : Str)) = false := by decide)
    (he : starEach (e :: es) X.env = (false, eval e X.env) :: starEach es X.env := by rfl) (hpl : (backTo pos (starEach es X.env)).any (·.1) = false := by rfl) : EM X (.Call (.Name x p) (e :: es) [] pos) (mCall m n dv l) := by
  obtain ⟨dvs, dws, hv, hdd, hb⟩ := B.ex
  have hlen : dv.length = dws.length := by
    have := (hdd X.K [] [] (fun _ => none)).length
    rw [this, hv.length]
  refine em_call (dvs := dvs) C.ok hgd hr hg C.at_ C.kp (dws := dws) (fun s us I hl => ?_) hv hdd ha hdb he hpl
  have hu : us.length = np := by
    rw [List.length_append] at hl
    omega
  have := hb s us [] I hu rfl
  have e1 := hix us hu
  rw [e1] at this
  exact this
end
end Mo
set_option maxRecDepth 100000
set_option maxHeartbeats 1000000
/-! Mo: how a keyword-only default is found, how a constant of the module is. -/
namespace Mo
open PySem PySem.Spec PyProof.Rows L2
theorem mixD_of {K : PySem.W.Frag} {fd : FuncData} {ps ks : List Str} {np : Nat} {D : Addr} {nm : Str} {i : Int} {t : Tok} (ix : List Nat) (hq : PySem.W.nsIn K D nm = some (some (.int i t)))
    (h : ∀ us ws : List Value, us.length = np → ws.length = ks.length → KwChain D [(nm, .int i t)] (bindArgs fd ⟨us, ks.zip ws⟩) (ps.zip (pickIx ix us ws ++ [.int i t]))) : MixD K fd ps ks np ix [.int i] := by
  refine ⟨[.int i], [.int i t], .cons ⟨t, rfl⟩ .nil, fun K' g f H => ⟨_, [], rfl, rfl, rfl⟩, fun s us ws I l1 l2 => BindsTo.of_looks fun M => KwChain.looks I (fun q hq' => ?_) (h us ws l1 l2)⟩
  rw [List.mem_singleton.mp hq']; exact hq
end Mo
set_option maxRecDepth 100000
set_option maxHeartbeats 4000000
namespace Pm
open PySem PySem.Spec PyProof.Rows L2 Mo
def b_p_is_from : MS :=
    (mRet (mAnd (mA hIsi (aCons (mVar 0) (aCons (mC (.raw (.ty "int"))) aNil))) (mAnd (mNot (mA hIsi (aCons (mVar 0) (aCons (mC (.raw (.ty "bool"))) aNil)))) (m2 gGe (mVar 0) (mVar 1)))))
def m_p_is_from : MF := mDef 2 b_p_is_from

def b_p_has_parts : MS :=
    (mRet (mAnd (mA hIsi (aCons (mVar 0) (aCons (mC (.raw (.ty "tuple"))) aNil))) (m2 gEqA (mB1 gLen (mVar 0)) (mVar 1))))
def m_p_has_parts : MF := mDef 2 b_p_has_parts

def b_p_is_pair : MS :=
    (mRet (mAnd (mCall m_p_has_parts 2 [] (aCons (mVar 0) (aCons (mC (.int 2)) aNil))) (mAnd (mCall m_p_is_from 2 [] (aCons (m2 gIx (mVar 0) (mC (.int 0))) (aCons (mC (.int 0)) aNil))) (mCall m_p_is_from 2 [] (aCons (m2 gIx (mVar 0) (mC (.int 1))) (aCons (mC (.int 0)) aNil))))))
def m_p_is_pair : MF := mDef 1 b_p_is_pair

def b_p_is_ballot : MS :=
    (mRet (mAnd (mCall m_p_is_pair 1 [] (aCons (mVar 0) aNil)) (m2 gGe (m2 gIx (mVar 0) (mC (.int 0))) (mC (.int 1)))))
def m_p_is_ballot : MF := mDef 1 b_p_is_ballot

def b_p_is_promise : MS :=
    (mRet (mAnd (mCall m_p_is_pair 1 [] (aCons (mVar 0) aNil)) (mOr (mCall m_p_is_ballot 1 [] (aCons (mVar 0) aNil)) (m2 gEqA (mVar 0) (mC (.tup [(.int 0), (.int 0)]))))))
def m_p_is_promise : MF := mDef 1 b_p_is_promise

def b_p_is_taking : MS :=
    (mSeq (mIf (mNotT (mB (mCall m_p_has_parts 2 [] (aCons (mVar 0) (aCons (mC (.int 3)) aNil))))) (mRet (mC (.bl false))) mNil)
    (mSeq (mAsg (.tp [(.nm 2), (.nm 3), (.nm 4)]) (mVar 0))
    (mRet (mAnd (mCall m_p_is_from 2 [] (aCons (mVar 2) (aCons (mC (.int 0)) aNil))) (mAnd (mCall m_p_is_ballot 1 [] (aCons (mVar 3) aNil)) (mAnd (m2 gLeA (mVar 3) (mVar 1)) (mCall m_p_is_from 2 [] (aCons (mVar 4) (aCons (mC (.int 0)) aNil)))))))))
def m_p_is_taking : MF := mDef 5 b_p_is_taking

def e_p_is_slip_1 : ME :=
    (mCall m_p_is_taking 2 [] (aCons (mVar 3) (aCons (mVar 1) aNil)))
def e_p_is_slip_2 : ME :=
    (m2 gLt (m2 gIx (mVar 4) (mC (.int 0))) (m2 gIx (mVar 5) (mC (.int 0))))
def b_p_is_slip : MS :=
    (mSeq (mIf (mNotT (mB (mCall m_p_has_parts 2 [] (aCons (mVar 0) (aCons (mC (.int 2)) aNil))))) (mRet (mC (.bl false))) mNil)
    (mSeq (mAsg (.tp [(.nm 1), (.nm 2)]) (mVar 0))
    (mSeq (mIf (mOrT (mNotT (mB (mCall m_p_is_promise 1 [] (aCons (mVar 1) aNil)))) (mNotT (mB (mA hIsi (aCons (mVar 2) (aCons (mC (.raw (.ty "tuple"))) aNil)))))) (mRet (mC (.bl false))) mNil)
    (mSeq (mIf (mNotT (mB (mQ hAll (mLc (iSeq (mVar 2)) (.nm 3) [3] mYes e_p_is_slip_1)))) (mRet (mC (.bl false))) mNil)
    (mRet (mQ hAll (mLc (iZip (aCons (mVar 2) (aCons (mSlT (mVar 2) (oSome (mC (.int 1))) oNone) aNil))) (.tp [(.nm 4), (.nm 5)]) [4, 5] mYes e_p_is_slip_2)))))))
def m_p_is_slip : MF := mDef 6 b_p_is_slip

def e_p_above_1 : ME :=
    (mVar 4)
def t_p_above_2 : MT :=
    (mB (m2 gGe (m2 gIx (mVar 4) (mC (.int 0))) (mVar 1)))
def b_p_above : MS :=
    (mSeq (mAsg (.tp [(.nm 2), (.nm 3)]) (mVar 0))
    (mSeq (mIf (mOrT (mB (m2 gEqA (mVar 3) (mTup aNil))) (mB (m2 gGe (m2 gIx (m2 gIx (mVar 3) (mC (.int 0))) (mC (.int 0))) (mVar 1)))) (mRet (mVar 0)) mNil)
    (mRet (mTup (aCons (mVar 2) (aCons (mQ hTup (mLc (iSeq (mVar 3)) (.nm 4) [4] t_p_above_2 e_p_above_1)) aNil))))))
def m_p_above : MF := mDef 5 b_p_above

def b_p_keeps : MS :=
    (mRet (mAnd (m2 gNotN (mVar 1) (mC .non)) (mOr (m2 gGtA (m2 gIx (mVar 1) (mC (.int 0))) (m2 gIx (mVar 0) (mC (.int 0)))) (m2 gEqA (mVar 1) (mVar 0)))))
def m_p_keeps : MF := mDef 2 b_p_keeps

def e_p_is_later_1 : ME :=
    (mVar 4)
def e_p_is_later_2 : ME :=
    (mTup (aCons (mVar 5) (aCons (mVar 6) aNil)))
def e_p_is_later_3 : ME :=
    (mCall m_p_keeps 2 [] (aCons (mTup (aCons (mVar 5) (aCons (mVar 6) aNil))) (aCons (mDGet1 (mVar 3) (mVar 4)) aNil)))
def t_p_is_later_4 : MT :=
    (mB (m2 gGe (mVar 4) (mVar 2)))
def b_p_is_later : MS :=
    (mSeq (mIf (mB (m2 gLtA (m2 gIx (mVar 1) (mC (.int 0))) (m2 gIx (mVar 0) (mC (.int 0))))) (mRet (mC (.bl false))) mNil)
    (mSeq (mSet 3 (mDc (iSeq (m2 gIx (mVar 1) (mC (.int 1)))) (.tp [(.nm 4), (.nm 5), (.nm 6)]) [4, 5, 6] mYes e_p_is_later_1 e_p_is_later_2))
    (mRet (mQ hAll (mLc (iSeq (m2 gIx (mVar 0) (mC (.int 1)))) (.tp [(.nm 4), (.nm 5), (.nm 6)]) [4, 5, 6] t_p_is_later_4 e_p_is_later_3)))))
def m_p_is_later : MF := mDef 7 b_p_is_later

def b_p_later : MS :=
    (mSeq (mIf (mB (mCall m_p_is_later 3 [.int 0] (aCons (mVar 0) (aCons (mVar 1) aNil)))) (mRet (mVar 1)) mNil)
    (mRet (mVar 0)))
def m_p_later : MF := mDef 2 b_p_later

end Pm
set_option maxRecDepth 100000
set_option maxHeartbeats 1000000
/-! Mo: starred items of a display. -/
namespace Mo
open PySem PySem.Spec PyProof.Rows L2
/-- *e, .. : what e holds, then the rest -/
def aStar (m : ME) (l : MA) : MA := fun ρ S => (m ρ S).bind fun d S1 => (anyD d S1).bind fun xs S2 => (l ρ S2).bind fun ys S3 => .ok (xs ++ ys) S3
theorem am_star {X : Cx} {e : Expr} {es : List Expr} {me : ME} {l : MA} {p : Pos} (he : EM X e me) (hr : AM X es l) (hs : starEach (.Starred e p :: es) X.env = (true, eval e X.env) :: starEach es X.env := by rfl) : AM X (.Starred e p :: es) (aStar me l) :=
  ⟨fun pos pins s σ H Q I ⟨g, w, o, ρ, S, ds, S', st, hm, q⟩ => by
    obtain ⟨d, S1, h1, hm⟩ := R.bind_ok hm
    obtain ⟨xs, S2, h2, hm⟩ := R.bind_ok hm
    obtain ⟨ys, S3, h3, hm⟩ := R.bind_ok hm
    cases hm
    refine (StX.pa_star he hr hs).run pos pins s σ H Q I (show StX.tStar X.K (tE X.K me) (tA X.K l) σ H Q from ?_)
    refine ⟨g, w, o, ρ, S, d, S1, st, h1, fun v g1 H1 x1 s1 r1 => ?_⟩
    obtain ⟨e2, a, vs, ev, hq, rr⟩ := anyD_rel s1 r1 h2
    subst e2
    refine ⟨a, vs, ev, hq.symm, ?_⟩
    refine ⟨g1, w, o, ρ, _, ys, _, st.ext x1 s1, h3, fun us g2 H2 x2 s2 r2 => ?_⟩
    exact q (vs ++ us) g2 H2 (x1.trans x2) s2 (RelDs.append (RelDs.ext x2 _ _ rr) r2)⟩
@[simp] theorem aStar_eq (m : ME) (l : MA) (ρ : MEnv) (S : Store) : aStar m l ρ S = (m ρ S).bind fun d S1 => (anyD d S1).bind fun xs S2 => (l ρ S2).bind fun ys S3 => .ok (xs ++ ys) S3 := rfl
end Mo
set_option maxRecDepth 100000
set_option maxHeartbeats 1000000
/-! Mo: a dict copied. -/
namespace Mo
open PySem PySem.Spec PyProof.Rows L2
def rDCopy : List V → Hp → VK → Prop := fun xs H Q => ∃ a kvs, xs = [.ref a] ∧ Rd H a (.dK kvs) ∧ ∀ p, H p = none → Q (.ref p) (upd H p (.dK kvs))
theorem cr_dcopy {X : Cx} : CallR X (.type "dict") rDCopy := by
  intro pins s σ H xs us Q I r h
  obtain ⟨a, kvs, rfl, e, q⟩ := h
  cases r with
  | cons r1 r2 =>
    cases r2
    cases r1
    exact d_copyOf I e fun p s' hp I' => ⟨.ref p, _, I', rfl, q p hp⟩
def mDCopy (m : ME) : ME := fun ρ S => (m ρ S).bind fun c S1 => match dictR S1 c with
  | some l => .ok (.loc S1.length) (S1 ++ [.dK l])
  | none => .bad
theorem em_dcopy {X : Cx} {e : Expr} {me : ME} {p pos : Pos} (h : EM X e me) (hg : Gl X "dict") (hm : X.mg "dict" = none) (hb : bootBuiltins "dict" = some (.type "dict") := by decide +kernel) (hs : starEach [e] X.env = (false, eval e X.env) :: starEach [] X.env := by rfl) (hpl : (backTo pos (starEach [] X.env)).any (·.1) = false := by rfl) :
    EM X (.Call (.Name "dict" p) [e] [] pos) (mDCopy me) :=
  PE.of (pe_callTy cr_dcopy hg hm hb (b1 h hs) (by decide) (by decide) hs hpl) fun σ H Q ⟨g, w, o, ρ, S, d, S', s, hm, q⟩ => by
    obtain ⟨c, S1, h1, hm⟩ := R.bind_ok hm
    split at hm
    · rename_i l hl
      cases hm
      obtain ⟨n, rfl, hn⟩ := dictR_of hl
      refine ⟨g, w, o, ρ, S, _, S1, s, h1, fun v g1 H1 x1 s1 ⟨a, ev, hg1⟩ => ?_⟩
      subst ev
      obtain ⟨kvs, hH, r⟩ := s1.rd hn hg1
      refine ⟨a, kvs, rfl, hH, fun t ht => ?_⟩
      have x2 : Ext g1 H1 (g1 ++ [t]) (upd H1 t (.dK kvs)) := ⟨⟨[t], rfl, fun b hb => by rw [List.mem_singleton.mp hb]; exact ht⟩, fun a u h _ => (Ext.new (g := []) ht).keep a u h (by simp), (Ext.new (g := []) ht).live, (Ext.new (g := []) ht).tups, (Ext.new (g := []) ht).frz⟩
      refine q _ (g1 ++ [t]) _ (x1.trans x2) (((s1.fresh ht).new ht).addG (s1.noG ht) (c := .dK l) ⟨_, upd_same, ?_⟩) ⟨t, rfl, by rw [← s1.len]; exact List.getElem?_concat_length⟩
      exact RelKv.ext (.new ht) _ _ (RelKv.fresh ht _ _ r)
    · cases hm
@[simp] theorem mDCopy_eq (m : ME) (ρ : MEnv) (S : Store) : mDCopy m ρ S = (m ρ S).bind fun c S1 => match dictR S1 c with
  | some l => .ok (.loc S1.length) (S1 ++ [.dK l])
  | none => .bad := rfl
end Mo
set_option maxRecDepth 100000
set_option maxHeartbeats 1000000
/-! Mo: k in d, k not in d, of dicts by numbers and texts. -/
namespace Mo
open PySem PySem.Spec PyProof.Rows L2
def gDIn (neg : Bool) : G2 := fun y x S => match dictR S x, keyD y with
  | some l, some k => .ok (.bl ((valA l k).isSome != neg)) S
  | _, _ => .bad
def rDIn (neg : Bool) : R2 := fun y x H Q => ∃ a o, x = V.ref a ∧ DGet H a y o ∧ Q (.bl (o.isSome != neg)) H
theorem op_din {X : Cx} (hu : X.A.units + 64 < cLine) : OpR X (compareOp .In) (rDIn false) := by
  intro pins s σ H y x iv u Q I ry rx h
  obtain ⟨a, o, ex, g, q2⟩ := h
  subst ex
  obtain rfl : u = Value.ref a := rx
  exact d_in (by omega) I g ry fun s3 I3 => ⟨.bl o.isSome, H, I3, rfl, by simpa using q2⟩
theorem op_dnotin {X : Cx} (hu : X.A.units + 64 < cLine) : OpR X (compareOp .NotIn) (rDIn true) := by
  intro pins s σ H y x iv u Q I ry rx h
  obtain ⟨a, o, ex, g, q2⟩ := h
  subst ex
  obtain rfl : u = Value.ref a := rx
  exact d_notIn (by omega) I g ry fun s3 I3 => ⟨.bl (!o.isSome), H, I3, rfl, by simpa using q2⟩
theorem od_din {X : Cx} (neg : Bool) : OpD X.K (rDIn neg) (gDIn neg) := fun g f H S dy dx d S' y x Q s ry rx hm q => by
  unfold gDIn at hm
  split at hm
  · rename_i l k hl hk
    cases hm
    obtain ⟨n, rfl, hn⟩ := dictR_of hl
    obtain ⟨a, ev, hg⟩ := rx
    obtain ⟨kvs, hH, r⟩ := s.rd hn hg
    refine ⟨a, valV kvs k, ev, ?_, ?_⟩
    · rw [keyD_rel ry hk]
      exact .inl ⟨kvs, k, hH, rfl, rfl⟩
    · have e : (valV kvs k).isSome = (valA l k).isSome := by
        cases hv : valA l k with
        | none => rw [(r.val (k := k)).2 hv]; rfl
        | some d => obtain ⟨v, e, _⟩ := (r.val (k := k)).1 d hv; rw [e]; rfl
      rw [e]
      exact q.same s rfl
  · cases hm
@[simp] theorem gDIn_eq (neg : Bool) (y x : D) (S : Store) : gDIn neg y x S = (match dictR S x, keyD y with
  | some l, some k => .ok (.bl ((valA l k).isSome != neg)) S
  | _, _ => .bad) := rfl
end Mo
set_option maxRecDepth 100000
set_option maxHeartbeats 1000000
/-! Mo: x.insert(i, e) of an own list; x[::-1] of a list. -/
namespace Mo
open PySem PySem.Spec PyProof.Rows L2
section
variable {X : Cx}
def mIns (i : Nat) (mk me : ME) : MS := fun ρ S => (mk ρ S).bind fun k S1 => (me ρ S1).bind fun d S2 => match ρ[i]?, k with
  | some (some (.own (.lst l))), .int j => if l.length < sizeLine ∧ 0 ≤ j ∧ j < 2 ^ 63 then .ok (.nx (ρ.set i (some (.own (.lst (l.take j.toNat ++ [d] ++ l.drop j.toNat)))))) S2 else .bad
  | _, _ => .bad
theorem sm_insert {o e f : Expr} {mk me : ME} {apos cpos spos : Pos} {i : Nat} (ho : PE X o (tVar i)) (hk : EM X e mk) (ha : EM X f me) (hbase : attributeBase o "insert" X.env (eval o X.env) = eval o X.env := by rfl)
    (hfew : ((backTo cpos (starEach [e, f] X.env)).all (fun x => !x.1) && (backToKw cpos (keywordEach [] X.env)).all (fun x => x.1.isSome) && decide ([e, f].length + ([] : List Keyword).length + (if ([] : List Keyword).isEmpty then 0 else 1) < 30)) = true := by rfl)
    (hline : (apos.endLine == cpos.line) = true := by rfl) (hs : starEach [e, f] X.env = (false, eval e X.env) :: starEach [f] X.env := by rfl) (hs2 : starEach [f] X.env = (false, eval f X.env) :: starEach [] X.env := by rfl) (hplain : (backTo cpos (starEach [f] X.env)).any (·.1) = false := by rfl)
    (hsw : swapsWith (.Call (.Attribute o "insert" apos) [e, f] [] cpos) none spos.line X.env = pure false := by rfl) : SM X (.Expr (.Call (.Attribute o "insert" apos) [e, f] [] cpos) spos) (mIns i mk me) :=
  PS.of (ps_expr (pe_bm PySem.F.plainAttrs_list PySem.F.slot_list_insert PySem.F.type_list_insert mt_insert ho (pa_cons hk (pa_cons ha pa_nil hs2) hs) hbase hfew hline hs hplain) hsw) fun E σ H ⟨g, w, o, ρ, S, fl, S', s, hm, q⟩ => by
    obtain ⟨k, S1, h1, hm⟩ := R.bind_ok hm
    obtain ⟨d, S2, h2, hm⟩ := R.bind_ok hm
    split at hm
    · rename_i l j hl hb
      split at hm
      · rename_i hz
        cases hm
        obtain ⟨a, e1, m, vs, hH, r⟩ := s.own i _ hl
        refine ⟨_, e1, .inl ⟨rfl, vs, .of hH⟩, ?_⟩
        refine ⟨g, w, o, ρ, S, _, S1, s, h1, fun v g1 H1 x1 s1 r1 => ?_⟩
        have st1 := s.ext x1 s1
        refine ⟨g1, w, o, ρ, S1, d, _, st1, h2, fun v2 g2 H2 x2 s2 r2 => ?_⟩
        have st2 := st1.ext x2 s2
        obtain ⟨a', e1', m', vs', hH', r'⟩ := st2.own i _ hl
        rw [e1] at e1'; cases e1'
        have mD : Mut (H2 a) := by rw [hH']; trivial
        have fD : a ∈ w ++ o := List.mem_append_right _ m
        cases r1
        refine ⟨a, vs', j, v2, rfl, rfl, hH', by rw [← r'.length]; exact hz.1, hz.2.1, hz.2.2, q g2 o _ ((x1.trans x2).s.trans (.updO mD m)) _ (st2.updO hl e1 mD ?_)⟩
        exact ⟨_, upd_same, RelDs.upd mD (.inl fD) _ _ (RelDs.append (RelDs.append (r'.take j.toNat) ⟨v2, [], rfl, r2, rfl⟩) (r'.drop j.toNat))⟩
      · cases hm
    · cases hm
@[simp] theorem mIns_eq (i : Nat) (mk me : ME) (ρ : MEnv) (S : Store) : mIns i mk me ρ S = (mk ρ S).bind fun k S1 => (me ρ S1).bind fun d S2 => (match ρ[i]?, k with
  | some (some (.own (.lst l))), .int j => if l.length < sizeLine ∧ 0 ≤ j ∧ j < 2 ^ 63 then .ok (.nx (ρ.set i (some (.own (.lst (l.take j.toNat ++ [d] ++ l.drop j.toNat)))))) S2 else .bad
  | _, _ => .bad) := rfl
/-- xs[::-1] -/
def rRevL (K : PySem.W.Frag) : V → Hp → VK → Prop := fun x H Q => ∃ a xs, x = .ref a ∧ SqL K H a xs ∧ ∀ p, H p = none → Q (.ref p) (upd H p (.lst xs.reverse))
theorem vals_reverse {xs : List V} {us : List Value} (r : Vals xs us) : Vals xs.reverse us.reverse := by
  induction r with
  | nil => exact .nil
  | cons h _ ih =>
    rw [List.reverse_cons, List.reverse_cons]
    exact ih.append (.cons h .nil)
theorem pe_rev {e ste : Expr} {te : TE} {ts : TO} {pos p2 : Pos} (he : PE X e te) (hs : PO X (some ste) ts) : PE X (.Subscript e (.Slice none none (some ste) p2) pos) (fun σ H Q => te σ H fun x H1 => ts σ H1 fun k H2 => k = some (-1) ∧ rRevL X.K x H2 Q) := by
  refine ⟨fun pins s σ H Q I h => ?_⟩
  refine Subscript_ (thn (he.run pins s σ H _ I h) fun v s1 ⟨x, H1, I1, r1, q1⟩ => ?_)
  refine wpAny_Slice ?_
  rw [evalPart_none]
  refine wpAny_pure ?_
  refine wpAny_pure ?_
  refine thn (hs.run pins s1 σ H1 _ I1 q1) fun vs s3 ⟨k, H3, I3, pk, ek, q3⟩ => ?_
  subst ek
  have I4 : Inv X pins σ H3 { s3 with heap := s3.heap.push { cls := .type "slice", data := .fields #[.none, .none, vs] } } := I3.kept (t' := s3.toks) fun b ob q => Heap.get?_push_of_some _ q
  obtain ⟨a, xs, rfl, hx, q⟩ := q3
  cases r1
  obtain ⟨its, r, ht, hz⟩ := I4.list hx
  have hlen := r.length
  have hg : wpAny (model X.prog X.w) X.A (getItem (.ref a) (.ref s3.heap.objs.size)) (EP X pins σ Q) X.xe { s3 with heap := s3.heap.push { cls := .type "slice", data := .fields #[.none, .none, vs] } } := by
    refine wpAny_getItem_list_slice ht.isList (Heap.IsSliceOf.new ..) .none .none pk (by simp) ?_ (by rw [List.size_toArray] <;> omega)
    rw [PySem.W.krv_pick]
    refine ⟨.ref _, _, I4.laid (t' := s3.toks) (o := .lst xs.reverse) (fun b ob q => Heap.get?_push_of_some _ q) (Nat.le_refl _) ?_, rfl, q _ (I4.hok.fresh (Nat.le_refl _))⟩
    exact ⟨by rw [List.length_reverse]; exact hz, _, 0, vals_reverse r, Heap.get?_push_size _ rfl⟩
  show wpAny (model X.prog X.w) X.A (subscriptTail e (.Slice none none (some ste) p2) (.ref a) (.ref s3.heap.objs.size)) (EP X pins σ Q) X.xe { s3 with heap := s3.heap.push { cls := .type "slice", data := .fields #[.none, .none, vs] } }
  exact tail_any (ops := [.ref a, .ref s3.heap.objs.size]) ht.isList.typeIs slot_list_getitem.lookup hg (by with_unfolding_all rfl)
/-- xs[::-1] of a list that rests -/
def mRevQ (ml : ML) (mo : MO) : ML := fun ρ S => (ml ρ S).bind fun l S1 => (mo ρ S1).bind fun k S2 => if k = some (-1) then .ok l.reverse S2 else .bad
theorem RelDs.rev {K : PySem.W.Frag} {g f : List Addr} {H : Hp} : ∀ {l : List D} {vs : List V}, RelDs K g f H l vs → RelDs K g f H l.reverse vs.reverse
  | [], _, h => by cases h; rfl
  | d :: l, _, ⟨v, r, e, h, t⟩ => by
    subst e
    rw [List.reverse_cons, List.reverse_cons]
    exact RelDs.append (RelDs.rev t) ⟨v, [], rfl, h, rfl⟩
theorem nm_rev {e ste : Expr} {me : ME} {mo : MO} {pos p2 : Pos} (he : EM X e me) (hs : OM X (some ste) mo) : NM X (.Subscript e (.Slice none none (some ste) p2) pos) (mRevQ (iLst me) mo) := PE.of (pe_rev he hs) fun σ H Q ⟨g, w, o, ρ, S, d, S', s, hm, q⟩ => by
  obtain ⟨l, S1, h1, hm⟩ := R.bind_ok hm
  obtain ⟨k1, S2, h2, hm⟩ := R.bind_ok hm
  split at hm
  · rename_i hk
    cases hm
    obtain ⟨d1, S0, h0, h1⟩ := R.bind_ok h1
    obtain ⟨rfl, rfl⟩ := seqD_ok h1
    refine ⟨g, w, o, ρ, S, _, _, s, h0, fun v g1 H1 x1 s1 r1 => ?_⟩
    have t1 := s.ext x1 s1
    refine ⟨g1, w, o, ρ, _, _, _, t1, h2, fun g2 H2 x2 s2 => ⟨hk, ?_⟩⟩
    obtain ⟨a, vs, ev, hq, r⟩ := RelD.ext x2 _ _ r1
    refine ⟨a, vs, ev, hq.sq, ?_⟩
    have q' : FinN X.K g2 (w ++ o) H2 l.reverse _ Q := fun p vs g4 H4 x4 hp n4 e4 s4 r4 => q p vs g4 H4 ((x1.trans x2).trans x4) (back_none x1 (back_none x2 hp)) n4 e4 s4 r4
    exact q'.put s2 (RelDs.rev r)
  · cases hm
@[simp] theorem mRevQ_eq (ml : ML) (mo : MO) (ρ : MEnv) (S : Store) : mRevQ ml mo ρ S = (ml ρ S).bind fun l S1 => (mo ρ S1).bind fun k S2 => if k = some (-1) then .ok l.reverse S2 else .bad := rfl
end
end Mo
set_option maxRecDepth 100000
set_option maxHeartbeats 4000000
namespace Pm
open PySem PySem.Spec PyProof.Rows L2 Mo
def t_p_overlaps_1 : MT :=
    (mAndT (mB (m2 gLt (mVar 3) (mB1 gLen (mVar 0)))) (mB (m2 gLt (mVar 4) (mB1 gLen (mVar 1)))))
def b_p_overlaps_2 : MS :=
    (mSeq (mSet 5 (mA hMax2 (aCons (m2 gIx (m2 gIx (mVar 0) (mVar 3)) (mC (.int 0))) (aCons (m2 gIx (m2 gIx (mVar 1) (mVar 4)) (mC (.int 0))) aNil))))
    (mSeq (mSet 6 (mA hMin2 (aCons (m2 gIx (m2 gIx (mVar 0) (mVar 3)) (mC (.int 1))) (aCons (m2 gIx (m2 gIx (mVar 1) (mVar 4)) (mC (.int 1))) aNil))))
    (mSeq (mIf (mB (m2 gLe (mVar 5) (mVar 6))) (mApp 2 (mTup (aCons (mVar 5) (aCons (mVar 6) (aCons (mVar 3) (aCons (mVar 4) aNil)))))) mNil)
    (mIf (mB (m2 gLt (m2 gIx (m2 gIx (mVar 0) (mVar 3)) (mC (.int 1))) (m2 gIx (m2 gIx (mVar 1) (mVar 4)) (mC (.int 1))))) (mAug 3 (fun i j => i + j) (mC (.int 1))) (mAug 4 (fun i j => i + j) (mC (.int 1)))))))
def b_p_overlaps : MS :=
    (mSeq (mOwnL 2 (mDisp aNil))
    (mSeq (mAsg2 3 4 (mC (.int 0)))
    (mSeq (mWhile t_p_overlaps_1
    b_p_overlaps_2)
    (mRetO 2))))
def m_p_overlaps : MF := mDef 7 b_p_overlaps

def b_p_knitted_1 : MS :=
    (mIf (mAndT (mTruQ (qOwn 1)) (mAndT (mB (m2 gEqA (m2 gAddI (m2 gIx (mIxO 1 (mB1 gNeg (mC (.int 1)))) (mC (.int 1))) (mC (.int 1))) (m2 gIx (mVar 2) (mC (.int 0))))) (mB (m2 gEqA (mSlT (mIxO 1 (mB1 gNeg (mC (.int 1)))) (oSome (mC (.int 2))) oNone) (mSlT (mVar 2) (oSome (mC (.int 2))) oNone))))) (mSetO 1 (mB1 gNeg (mC (.int 1))) (m2 gCatT (mSlT (mIxO 1 (mB1 gNeg (mC (.int 1)))) oNone (oSome (mC (.int 1)))) (mSlT (mVar 2) (oSome (mC (.int 1))) oNone))) (mApp 1 (mVar 2)))
def b_p_knitted : MS :=
    (mSeq (mOwnL 1 (mDisp aNil))
    (mSeq (mFor (.nm 2) (iSeq (mVar 0))
    b_p_knitted_1)
    (mRet (mQ hTup (qOwn 1)))))
def m_p_knitted : MF := mDef 3 b_p_knitted

def e_p_common_1 : ME :=
    (mSlT (mVar 2) oNone (oSome (mC (.int 2))))
def b_p_common : MS :=
    (mRet (mQ hTup (mLc (iSeq (mCall m_p_overlaps 2 [] (aCons (mVar 0) (aCons (mVar 1) aNil)))) (.nm 2) [2] mYes e_p_common_1)))
def m_p_common : MF := mDef 3 b_p_common

def b_p_gaps_1 : MS :=
    (mSeq (mIf (mB (m2 gLt (mVar 3) (mVar 4))) (mApp 2 (mTup (aCons (mVar 3) (aCons (m2 gSubI (mVar 4) (mC (.int 1))) aNil)))) mNil)
    (mSet 3 (m2 gAddI (mVar 5) (mC (.int 1)))))
def b_p_gaps : MS :=
    (mSeq (mOwnL 2 (mDisp aNil))
    (mSeq (mSet 3 (mC (.int 0)))
    (mSeq (mFor (.tp [(.nm 4), (.nm 5)]) (iSeq (mVar 0))
    b_p_gaps_1)
    (mSeq (mIf (mB (m2 gLe (mVar 3) (mVar 1))) (mApp 2 (mTup (aCons (mVar 3) (aCons (mVar 1) aNil)))) mNil)
    (mRet (mQ hTup (qOwn 2)))))))
def m_p_gaps : MF := mDef 6 b_p_gaps

def b_p_without : MS :=
    (mSeq (mIf (mB (m2 gEqA (mVar 0) (mTup aNil))) (mRet (mTup aNil)) mNil)
    (mRet (mCall m_p_common 2 [] (aCons (mVar 0) (aCons (mCall m_p_gaps 2 [] (aCons (mVar 1) (aCons (m2 gIx (m2 gIx (mVar 0) (mB1 gNeg (mC (.int 1)))) (mC (.int 1))) aNil))) aNil)))))
def m_p_without : MF := mDef 2 b_p_without

def e_p_lot_held_1 : ME :=
    (mSlT (mVar 1) oNone (oSome (mC (.int 2))))
def b_p_lot_held : MS :=
    (mRet (mCall m_p_knitted 1 [] (aCons (mLst (mLc (iSeq (mVar 0)) (.nm 1) [1] mYes e_p_lot_held_1)) aNil)))
def m_p_lot_held : MF := mDef 2 b_p_lot_held

def e_p_held_of_1 : ME :=
    (mTup (aCons (mVar 2) (aCons (mVar 3) (aCons (m2 gIx (m2 gIx (mVar 0) (mVar 4)) (mC (.int 2))) aNil))))
def b_p_held_of : MS :=
    (mRet (mQ hTup (mLc (iSeq (mCall m_p_overlaps 2 [] (aCons (mVar 0) (aCons (mVar 1) aNil)))) (.tp [(.nm 2), (.nm 3), (.nm 4), (.nm 5)]) [2, 3, 4, 5] mYes e_p_held_of_1)))
def m_p_held_of : MF := mDef 6 b_p_held_of

def b_p_cut : MS :=
    (mSeq (mSet 2 (mCall m_p_without 2 [] (aCons (mCall m_p_lot_held 1 [] (aCons (mVar 0) aNil)) (aCons (mVar 1) aNil))))
    (mRet (mTup (aCons (mCall m_p_held_of 2 [] (aCons (mVar 0) (aCons (mVar 1) aNil))) (aCons (mCall m_p_held_of 2 [] (aCons (mVar 0) (aCons (mVar 2) aNil))) aNil)))))
def m_p_cut : MF := mDef 3 b_p_cut

def e_p_gathered_1 : ME :=
    (mTup (aCons (mVar 7) (aCons (mVar 8) (aCons (mCall m_p_later 2 [] (aCons (m2 gIx (m2 gIx (mVar 0) (mVar 9)) (mC (.int 2))) (aCons (m2 gIx (m2 gIx (mVar 1) (mVar 10)) (mC (.int 2))) aNil))) aNil))))
def b_p_gathered : MS :=
    (mSeq (mIf (mOrT (mB (m2 gEqA (mVar 0) (mTup aNil))) (mB (m2 gEqA (mVar 1) (mTup aNil)))) (mRet (m2 gCatT (mVar 0) (mVar 1))) mNil)
    (mSeq (mSet 2 (mCall m_p_overlaps 2 [] (aCons (mVar 0) (aCons (mVar 1) aNil))))
    (mSeq (mIf (mB (m2 gEqA (mVar 2) (mLst (mDisp aNil)))) (mRet (mCall m_p_knitted 1 [] (aCons (mLst (mVL (hSortedB false) (m2 gCatT (mVar 0) (mVar 1)))) aNil))) mNil)
    (mSeq (mSet 3 (mLst (mLc (iSeq (mVar 2)) (.tp [(.nm 7), (.nm 8), (.nm 9), (.nm 10)]) [7, 8, 9, 10] mYes e_p_gathered_1)))
    (mSeq (mAsg (.tp [(.nm 4), (.nm 5)]) (mCall m_p_cut 2 [] (aCons (mVar 0) (aCons (mCall m_p_lot_held 1 [] (aCons (mVar 1) aNil)) aNil))))
    (mSeq (mAsg (.tp [(.nm 4), (.nm 6)]) (mCall m_p_cut 2 [] (aCons (mVar 1) (aCons (mCall m_p_lot_held 1 [] (aCons (mVar 0) aNil)) aNil))))
    (mRet (mCall m_p_knitted 1 [] (aCons (mLst (mQL hSorted (mDisp (aStar (mVar 3) (aStar (mVar 5) (aStar (mVar 6) aNil)))))) aNil)))))))))
def m_p_gathered : MF := mDef 11 b_p_gathered

end Pm
set_option maxRecDepth 100000
set_option maxHeartbeats 1000000
/-! Mo: list(d), list(d.items()), d.pop(k), try where nothing is raised, raise that is never reached, targets with subscripts. -/
namespace Mo
open PySem PySem.Spec PyProof.Rows L2
section
variable {X : Cx}
theorem relDs_keys {K : PySem.W.Frag} {g f : List Addr} {H : Hp} : ∀ {l : List (Key × D)} {kvs : List (Key × V)}, RelKv K g f H l kvs → RelDs K g f H (l.map fun kv => keyV kv.1) (kvs.map fun kv => kV kv.1)
  | [], _, h => by cases h; rfl
  | p :: l, _, ⟨v, r, e, _, t⟩ => by
    subst e
    exact ⟨_, _, rfl, keyV_rel _, relDs_keys t⟩
/-- list(d) -/
def mKeysL (m : ME) : ML := fun ρ S => (m ρ S).bind fun c S1 => match dictR S1 c with
  | some l => .ok (l.map fun kv => keyV kv.1) S1
  | none => .bad
theorem nm_listD {e : Expr} {me : ME} {p pos : Pos} (hc : X.calm = true) (h : EM X e me) (hg : Gl X "list") (hm : X.mg "list" = none) (hb : bootBuiltins "list" = some (.type "list") := by decide +kernel) (hs : starEach [e] X.env = (false, eval e X.env) :: starEach [] X.env := by rfl) (hpl : (backTo pos (starEach [] X.env)).any (·.1) = false := by rfl) :
    NM X (.Call (.Name "list" p) [e] [] pos) (mKeysL me) :=
  PE.of (pe_callTy (call_listD hc) hg hm hb (b1 h hs) (by decide) (by decide) hs hpl) fun σ H Q ⟨g, w, o, ρ, S, d, S', s, hm, q⟩ => by
    obtain ⟨c, S1, h1, hm⟩ := R.bind_ok hm
    split at hm
    · rename_i l hl
      cases hm
      obtain ⟨n, rfl, hn⟩ := dictR_of hl
      refine ⟨g, w, o, ρ, S, .loc n, _, s, h1, fun v g1 H1 x1 s1 ⟨a, ev, hg1⟩ => ?_⟩
      subst ev
      obtain ⟨kvs, hH, r⟩ := s1.rd hn hg1
      refine ⟨a, kvs, rfl, hH, ?_⟩
      have q' : FinN X.K g1 (w ++ o) H1 (l.map fun kv => keyV kv.1) _ Q := fun p vs g4 H4 x4 hp n4 e4 s4 r4 => q p vs g4 H4 (x1.trans x4) (back_none x1 hp) n4 e4 s4 r4
      exact q'.put s1 (relDs_keys r)
    · cases hm
@[simp] theorem mKeysL_eq (m : ME) (ρ : MEnv) (S : Store) : mKeysL m ρ S = (m ρ S).bind fun c S1 => (match dictR S1 c with
  | some l => .ok (l.map fun kv => keyV kv.1) S1
  | none => .bad) := rfl
/-! ### all that was there stands -/
theorem Ext.all {g : List Addr} {H H' : Hp} (k : ∀ b o, H b = some o → H' b = some o) : Ext g H g H' :=
  ⟨⟨[], by simp, fun _ h => nomatch h⟩, fun a u h _ => k a u h, (fun a h => by
    cases e : H a with
    | none => exact absurd e h
    | some u => rw [k a u e]; exact (fun z => nomatch z)), (fun a vs h => by
    rcases h with h | ⟨o, h⟩
    · exact .inl (k _ _ h)
    · exact .inr ⟨o, k _ _ h⟩), fun a o u h => k _ _ h⟩
theorem RelS.all {K : PySem.W.Frag} {g f : List Addr} {H H' : Hp} {S : Store} (k : ∀ b o, H b = some o → H' b = some o) (s : RelS K g f H S) : RelS K g f H' S :=
  ⟨s.len, s.nod, fun n c a e1 e2 => by
    have x : Ext g H g H' := .all k
    have := s.cel n c a e1 e2
    cases c with
    | lst l => obtain ⟨vs, h, r⟩ := this; exact ⟨vs, k _ _ h, RelDs.ext x _ _ r⟩
    | dK l => obtain ⟨vs, h, r⟩ := this; exact ⟨vs, k _ _ h, RelKv.ext x _ _ r⟩
    | dT l => obtain ⟨vs, h, r, r2⟩ := this; exact ⟨vs, k _ _ h, RelKv.ext x _ _ r, RelKv.ext x _ _ r2⟩
    | dF l => obtain ⟨vs, ⟨ob, h⟩, r⟩ := this; exact ⟨vs, ⟨ob, k _ _ h⟩, RelKv.ext x _ _ r⟩⟩
theorem relDs_items {K : PySem.W.Frag} {g f : List Addr} {H : Hp} : ∀ {l : List (Key × D)} {kvs : List (Key × V)} {ts : List Addr}, RelKv K g f H l kvs → Paired (fun (t : Addr) (q : Key × V) => H t = some (.tup [kV q.1, q.2])) ts kvs → RelDs K g f H (l.map fun kv => .tup [keyV kv.1, kv.2]) (ts.map V.ref)
  | [], _, _, h, p => by cases h; cases p; rfl
  | d :: l, _, _, ⟨v, r, e, q, t⟩, p => by
    subst e
    cases p with
    | cons h p => exact ⟨_, _, rfl, ⟨_, _, rfl, .inl (.inl h), ⟨_, _, rfl, keyV_rel _, ⟨_, _, rfl, q, rfl⟩⟩⟩, relDs_items t p⟩
/-- list(d.items()) -/
def mItemsL (m : ME) : ML := fun ρ S => (m ρ S).bind fun c S1 => match dictAt S1 c with
  | some l => .ok (l.map fun kv => .tup [keyV kv.1, kv.2]) S1
  | none => .bad
theorem nm_items {e : Expr} {me : ME} {p apos cpos pos : Pos} (hc : X.calm = true) (h : EM X e me) (hg : Gl X "list") (hm : X.mg "list" = none) (hv : bootBuiltins "list" = some (.type "list") := by decide +kernel) (hbase : attributeBase e "items" X.env (eval e X.env) = eval e X.env := by rfl) (hline : (apos.endLine == cpos.line) = true := by rfl)
    (hs : starEach [.Call (.Attribute e "items" apos) [] [] cpos] X.env = (false, eval (.Call (.Attribute e "items" apos) [] [] cpos) X.env) :: starEach [] X.env := by rfl) :
    NM X (.Call (.Name "list" p) [.Call (.Attribute e "items" apos) [] [] cpos] [] pos) (mItemsL me) :=
  PE.of (LiI.pe_listItems hc h hg hm hv hbase hline hs) fun σ H Q ⟨g, w, o, ρ, S, d, S', s, hm, q⟩ => by
    obtain ⟨c, S1, h1, hm⟩ := R.bind_ok hm
    split at hm
    · rename_i l hl
      cases hm
      obtain ⟨n, rfl, hn⟩ := dictAt_of hl
      refine ⟨g, w, o, ρ, S, .loc n, _, s, h1, fun v g1 H1 x1 s1 ⟨a, ev, hg1⟩ => ?_⟩
      subst ev
      obtain ⟨kvs, hH, r⟩ := s1.cel n _ a hn hg1
      refine ⟨a, kvs, rfl, hH, fun H' p ts k hp hts hpt hl2 pr => ?_⟩
      have x2 : Ext g1 H1 g1 H' := .all k
      refine q p (ts.map V.ref) g1 H' (x1.trans x2) (back_none x1 hp) (s1.noG hp) hl2 ((s1.fresh hp).all k) ?_
      exact relDs_items (RelKv.ext x2 _ _ (RelKv.fresh hp _ _ r)) pr
    · cases hm
@[simp] theorem mItemsL_eq (m : ME) (ρ : MEnv) (S : Store) : mItemsL m ρ S = (m ρ S).bind fun c S1 => (match dictAt S1 c with
  | some l => .ok (l.map fun kv => .tup [keyV kv.1, kv.2]) S1
  | none => .bad) := rfl
/-! ### d.pop(k) -/
def dropA (l : List (Key × D)) (k : Key) : List (Key × D) := l.filter fun kv => decide (kv.1 ≠ k)
theorem RelKv.drop {K : PySem.W.Frag} {g f : List Addr} {H : Hp} {k : Key} : ∀ {l : List (Key × D)} {kvs : List (Key × V)}, RelKv K g f H l kvs → RelKv K g f H (dropA l k) (dropK kvs k)
  | [], _, h => by cases h; rfl
  | p :: l, _, ⟨v, r, e, q, t⟩ => by
    subst e
    have ih := RelKv.drop (k := k) t
    unfold dropA dropK at *
    by_cases c : p.1 = k
    · rw [List.filter_cons_of_neg (by simp [c]), List.filter_cons_of_neg (by simp [c])]; exact ih
    · rw [List.filter_cons_of_pos (by simp [c]), List.filter_cons_of_pos (by simp [c])]; exact ⟨v, _, rfl, q, ih⟩
def mDPop (mo mk : ME) : ME := fun ρ S => (mo ρ S).bind fun c S1 => match dictAt S1 c with
  | none => .bad
  | some _ => (mk ρ S1).bind fun y S2 => match c, dictAt S2 c, keyD y with
    | .loc n, some l, some k => (match valA l k with
      | some d => .ok d (S2.set n (.dK (dropA l k)))
      | none => .bad)
    | _, _, _ => .bad
theorem em_dpop {o e : Expr} {mo mk : ME} {apos cpos : Pos} (ho : EM X o mo) (he : EM X e mk) (m : M1 X o "pop" apos e cpos) : EM X (.Call (.Attribute o "pop" apos) [e] [] cpos) (mDPop mo mk) :=
  PE.of (pe_dpop1 ho he m) fun σ H Q ⟨g, w, o, ρ, S, d, S', s, hm, q⟩ => by
    obtain ⟨c, S1, h1, hm1⟩ := R.bind_ok hm
    split at hm1
    · cases hm1
    rename_i l0 hl0
    obtain ⟨y, S2, h2, hm2⟩ := R.bind_ok hm1
    obtain ⟨n, rfl, hn0⟩ := dictAt_of hl0
    cases hk : keyD y with
    | none => rw [hk] at hm2; cases hd2 : dictAt S2 (.loc n) <;> rw [hd2] at hm2 <;> cases hm2
    | some k =>
      cases hd2 : dictAt S2 (.loc n) with
      | none => rw [hk, hd2] at hm2; cases hm2
      | some l =>
        rw [hk, hd2] at hm2
        dsimp only at hm2
        cases hv : valA l k with
        | none => rw [hv] at hm2; cases hm2
        | some d2 =>
          rw [hv] at hm2
          cases hm2
          obtain ⟨n', en, hn⟩ := dictAt_of hd2
          cases en
          refine ⟨g, w, o, ρ, S, _, S1, s, h1, fun vc g1 H1 x1 s1 ⟨a, ev, hg⟩ => ?_⟩
          obtain ⟨kvs0, hH0, _⟩ := s1.cel n _ a hn0 hg
          refine ⟨a, ev, .inl ⟨kvs0, .inl hH0⟩, ?_⟩
          have t1 := s.ext x1 s1
          refine ⟨g1, w, o, ρ, S1, y, S2, t1, h2, fun vy g2 H2 x2 s2 r2 => ?_⟩
          have hg2 := x2.get hg
          obtain ⟨kvs, hH, r⟩ := s2.cel n _ a hn hg2
          have mD : Mut (H2 a) := by rw [hH]; trivial
          have gD : a ∈ g2 := List.mem_of_getElem? hg2
          obtain ⟨v', e', rv⟩ := (r.val (k := k)).1 d hv
          have x4 : Ext g2 H2 g2 (upd H2 a (.dK (dropK kvs k))) := .updG mD gD
          have s4 := s2.updG (c := .dK (dropA l k)) (u := .dK (dropK kvs k)) mD hg2 ⟨_, upd_same, RelKv.upd mD (.inr gD) _ _ (RelKv.drop r)⟩
          exact ⟨kvs, k, v', hH, keyD_rel r2 hk, e', q v' g2 _ ((x1.trans x2).trans x4) s4 (RelD.ext x4 _ _ rv)⟩
@[simp] theorem mDPop_eq (mo mk : ME) (ρ : MEnv) (S : Store) : mDPop mo mk ρ S = (mo ρ S).bind fun c S1 => (match dictAt S1 c with
  | none => .bad
  | some _ => (mk ρ S1).bind fun y S2 => (match c, dictAt S2 c, keyD y with
    | .loc n, some l, some k => (match valA l k with
      | some d => .ok d (S2.set n (.dK (dropA l k)))
      | none => .bad)
    | _, _, _ => .bad)) := rfl
/-! ### try, raise -/
theorem sm_thru {body : List Stmt} {h₀ : ExceptHandler} {hs : List ExceptHandler} {pos : Pos} {m : MS} (hb : SsM X.nox body m) : SM X (.Try body (h₀ :: hs) [] [] pos) m := ps_try_thru0 hb
def mBad : MS := fun _ _ => .bad
theorem sm_bad {st : Stmt} : SM X st mBad := ⟨fun pins s σ H D I ⟨g, w, o, ρ, S, fl, S', s', hm, q⟩ => by cases hm⟩
@[simp] theorem mBad_eq (ρ : MEnv) (S : Store) : mBad ρ S = .bad := rfl
/-! ### o[i], x = e; o[i], o2[i2] = e -/
def mAsgS (mo mk : ME) (i : Nat) (m : ME) : MS := fun ρ S => (m ρ S).bind fun d S1 => match d with
  | .tup [d1, d2] => (mo ρ S1).bind fun c S2 => (mk ρ S2).bind fun k S3 => (match putC c k d1 S3 with
    | some S4 => .ok (.nx (ρ.set i (some (.val d2)))) S4
    | none => .bad)
  | _ => .bad
theorem sm_asgS {st : Stmt} {mo mk me : ME} {i : Nat} (h : PS X st (tAsg (tE X.K me) (gTup X.K 2 (gCons (gSub (tE X.K mo) (tE X.K mk) rSetL) (gCons (gName i) gNil))))) : SM X st (mAsgS mo mk i me) := PS.of h fun E σ H ⟨g, w, o, ρ, S, fl, S', s, hm, q⟩ => by
  obtain ⟨d, S1, h1, hm⟩ := R.bind_ok hm
  split at hm
  · rename_i d1 d2
    obtain ⟨c, S2, h2, hm⟩ := R.bind_ok hm
    obtain ⟨k, S3, h3, hm⟩ := R.bind_ok hm
    split at hm
    · rename_i S4 hp
      cases hm
      obtain ⟨n, j, l, m, rfl, rfl, hl, hmx, rfl⟩ := putC_ok hp
      refine ⟨g, w, o, ρ, S, _, S1, s, h1, fun v g1 H1 x1 s1 r1 => ?_⟩
      obtain ⟨b, vs0, ev, hq, v1, rr, ers, rv1, v2, rr2, ers2, rv2, ers3⟩ := r1
      subst ers3; subst ers2; subst ers; subst ev
      refine ⟨b, _, rfl, hq, rfl, v1, _, rfl, ?_⟩
      have t1 := s.ext x1 s1
      refine ⟨g1, w, o, ρ, S1, _, S2, t1, h2, fun vc g2 H2 x2 s2 r2 => ?_⟩
      have t2 := t1.ext x2 s2
      refine ⟨g2, w, o, ρ, S2, _, S3, t2, h3, fun vk g3 H3 x3 s3 r3 => ?_⟩
      have t3 := t2.ext x3 s3
      obtain ⟨a, ea, hg⟩ := RelD.ext x3 _ _ r2
      obtain ⟨vs, hH, r⟩ := s3.cel n _ a hl hg
      have mD : Mut (H3 a) := by rw [hH]; trivial
      have gD : a ∈ g3 := List.mem_of_getElem? hg
      have rv := RelD.ext (x2.trans x3) d1 v1 rv1
      refine ⟨a, vs, j, m, ea, r3, hH, by rw [← r.length]; exact hmx, ?_⟩
      have x4 : Ext g3 H3 g3 (upd H3 a (.lst (vs.set m v1))) := .updG mD gD
      have s4 := s3.updG (c := .lst (l.set m d1)) (u := .lst (vs.set m v1)) mD hg ⟨_, upd_same, RelDs.upd mD (.inr gD) _ _ (RelDs.set r rv)⟩
      exact ⟨v2, _, rfl, rfl, q g3 o _ (((x1.trans x2).trans x3).trans x4).s _ ((t3.ext x4 s4).set (RelD.ext ((x2.trans x3).trans x4) d2 v2 rv2))⟩
    · cases hm
  · cases hm
def mAsgSS (mo mk mo2 mk2 : ME) (m : ME) : MS := fun ρ S => (m ρ S).bind fun d S1 => match d with
  | .tup [d1, d2] => (mo ρ S1).bind fun c S2 => (mk ρ S2).bind fun k S3 => (match putC c k d1 S3 with
    | some S4 => (mo2 ρ S4).bind fun c2 S5 => (mk2 ρ S5).bind fun k2 S6 => (match putC c2 k2 d2 S6 with
      | some S7 => .ok (.nx ρ) S7
      | none => .bad)
    | none => .bad)
  | _ => .bad
theorem sm_asgSS {st : Stmt} {mo mk mo2 mk2 me : ME} (h : PS X st (tAsg (tE X.K me) (gTup X.K 2 (gCons (gSub (tE X.K mo) (tE X.K mk) rSetL) (gCons (gSub (tE X.K mo2) (tE X.K mk2) rSetL) gNil))))) : SM X st (mAsgSS mo mk mo2 mk2 me) := PS.of h fun E σ H ⟨g, w, o, ρ, S, fl, S', s, hm, q⟩ => by
  obtain ⟨d, S1, h1, hm⟩ := R.bind_ok hm
  split at hm
  · rename_i d1 d2
    obtain ⟨c, S2, h2, hm⟩ := R.bind_ok hm
    obtain ⟨k, S3, h3, hm⟩ := R.bind_ok hm
    split at hm
    · rename_i S4 hp
      obtain ⟨c2, S5, h5, hm⟩ := R.bind_ok hm
      obtain ⟨k2, S6, h6, hm⟩ := R.bind_ok hm
      split at hm
      · rename_i S7 hp2
        cases hm
        obtain ⟨n, j, l, m, rfl, rfl, hl, hmx, rfl⟩ := putC_ok hp
        obtain ⟨n2, j2, l2, m2, rfl, rfl, hl2, hmx2, rfl⟩ := putC_ok hp2
        refine ⟨g, w, o, ρ, S, _, S1, s, h1, fun v g1 H1 x1 s1 r1 => ?_⟩
        obtain ⟨b, vs0, ev, hq, v1, rr, ers, rv1, v2, rr2, ers2, rv2, ers3⟩ := r1
        subst ers3; subst ers2; subst ers; subst ev
        refine ⟨b, _, rfl, hq, rfl, v1, _, rfl, ?_⟩
        have t1 := s.ext x1 s1
        refine ⟨g1, w, o, ρ, S1, _, S2, t1, h2, fun vc g2 H2 x2 s2 r2 => ?_⟩
        have t2 := t1.ext x2 s2
        refine ⟨g2, w, o, ρ, S2, _, S3, t2, h3, fun vk g3 H3 x3 s3 r3 => ?_⟩
        have t3 := t2.ext x3 s3
        obtain ⟨a, ea, hg⟩ := RelD.ext x3 _ _ r2
        obtain ⟨vs, hH, r⟩ := s3.cel n _ a hl hg
        have mD : Mut (H3 a) := by rw [hH]; trivial
        have gD : a ∈ g3 := List.mem_of_getElem? hg
        have rv := RelD.ext (x2.trans x3) d1 v1 rv1
        refine ⟨a, vs, j, m, ea, r3, hH, by rw [← r.length]; exact hmx, ?_⟩
        have x4 : Ext g3 H3 g3 (upd H3 a (.lst (vs.set m v1))) := .updG mD gD
        have s4 := s3.updG (c := .lst (l.set m d1)) (u := .lst (vs.set m v1)) mD hg ⟨_, upd_same, RelDs.upd mD (.inr gD) _ _ (RelDs.set r rv)⟩
        refine ⟨v2, _, rfl, ?_⟩
        have t4 := t3.ext x4 s4
        refine ⟨g3, w, o, ρ, _, _, S5, t4, h5, fun vc5 g5 H5 x5 s5 r5 => ?_⟩
        have t5 := t4.ext x5 s5
        refine ⟨g5, w, o, ρ, S5, _, S6, t5, h6, fun vk6 g6 H6 x6 s6 r6 => ?_⟩
        have t6 := t5.ext x6 s6
        obtain ⟨a2, ea2, hg2⟩ := RelD.ext x6 _ _ r5
        obtain ⟨vs2, hH2, r22⟩ := s6.cel n2 _ a2 hl2 hg2
        have mD2 : Mut (H6 a2) := by rw [hH2]; trivial
        have gD2 : a2 ∈ g6 := List.mem_of_getElem? hg2
        have x26 := (((x2.trans x3).trans x4).trans x5).trans x6
        have rv2' := RelD.ext x26 d2 v2 rv2
        refine ⟨a2, vs2, j2, m2, ea2, r6, hH2, by rw [← r22.length]; exact hmx2, ?_⟩
        have x7 : Ext g6 H6 g6 (upd H6 a2 (.lst (vs2.set m2 v2))) := .updG mD2 gD2
        have s7 := s6.updG (c := .lst (l2.set m2 d2)) (u := .lst (vs2.set m2 v2)) mD2 hg2 ⟨_, upd_same, RelDs.upd mD2 (.inr gD2) _ _ (RelDs.set r22 rv2')⟩
        exact ⟨rfl, q g6 o _ ((x1.trans x26).trans x7).s _ (t6.ext x7 s7)⟩
      · cases hm
    · cases hm
  · cases hm
@[simp] theorem mAsgS_eq (mo mk : ME) (i : Nat) (m : ME) (ρ : MEnv) (S : Store) : mAsgS mo mk i m ρ S = (m ρ S).bind fun d S1 => (match d with
  | .tup [d1, d2] => (mo ρ S1).bind fun c S2 => (mk ρ S2).bind fun k S3 => (match putC c k d1 S3 with
    | some S4 => .ok (.nx (ρ.set i (some (.val d2)))) S4
    | none => .bad)
  | _ => .bad) := rfl
@[simp] theorem mAsgSS_eq (mo mk mo2 mk2 : ME) (m : ME) (ρ : MEnv) (S : Store) : mAsgSS mo mk mo2 mk2 m ρ S = (m ρ S).bind fun d S1 => (match d with
  | .tup [d1, d2] => (mo ρ S1).bind fun c S2 => (mk ρ S2).bind fun k S3 => (match putC c k d1 S3 with
    | some S4 => (mo2 ρ S4).bind fun c2 S5 => (mk2 ρ S5).bind fun k2 S6 => (match putC c2 k2 d2 S6 with
      | some S7 => .ok (.nx ρ) S7
      | none => .bad)
    | none => .bad)
  | _ => .bad) := rfl
end
end Mo
set_option maxRecDepth 100000
set_option maxHeartbeats 1000000
/-! Mo: str(int), the text of an empty dict. -/
namespace Mo
open PySem PySem.Spec PyProof.Rows L2
section
variable {X : Cx} {e : Expr} {me : ME} {l : MA} {p pos : Pos}
/-- str(a whole number) -/
def hStrI : List D → Store → R D
  | [.int i], S => if b62 i = true then .ok (.str (toString i)) S else .bad
  | _, _ => .bad
theorem log_b62 {i : Int} (h : b62 i = true) : i.natAbs.log2 < 1920 := by
  have h1 := (b62_iff i).mp h
  by_cases c : i.natAbs = 0
  · rw [c]; decide
  · have h2 : 2 ^ i.natAbs.log2 ≤ i.natAbs := Nat.log2_self_le c
    have h3 : 2 ^ i.natAbs.log2 < 2 ^ 63 := by
      have : (2 : Nat) ^ 63 = 9223372036854775808 := by decide
      omega
    have h4 := (Nat.pow_lt_pow_iff_right (by decide : 1 < 2)).mp h3
    omega
theorem em_strI (h : AM X [e] l) (hg : Gl X "str") (hm : X.mg "str" = none) (hb : bootBuiltins "str" = some (.type "str") := by decide +kernel) (hs : starEach [e] X.env = (false, eval e X.env) :: starEach [] X.env := by rfl) (hpl : (backTo pos (starEach [] X.env)).any (·.1) = false := by rfl) :
    EM X (.Call (.Name "str" p) [e] [] pos) (mA hStrI l) :=
  PE.of (pe_callTy call_str_int hg hm hb h (by decide) (by decide) hs hpl) fun σ H Q q => a_of (fun g f H S l d S' vs Q s r hm q => by
    unfold hStrI at hm
    split at hm
    · split at hm
      · rename_i i hi
        cases hm
        obtain ⟨v, t, ev, rv, rn⟩ := r
        cases rv; cases rn
        exact ⟨_, ev, log_b62 hi, q.same s rfl⟩
      · cases hm
    · cases hm) q
/-- repr of data, or of an empty dict -/
def gReprA (d : D) (S : Store) : R D := match d with
  | .loc n => match S[n]? with
    | some (.dK []) => .ok (.str "{}") S
    | _ => .bad
  | d => gReprV d S
theorem cr_repr0 (hg : X.A.guards = some []) (hu : X.A.units + 64 < cLine) : CallR X (.builtin "repr") (fun xs H Q => ∃ a, xs = [.ref a] ∧ H a = some (.dK []) ∧ Q (.str "{}") H) := by
  intro pins s σ H xs us Q I r h
  obtain ⟨a, rfl, ha, q⟩ := h
  rw [Vals.ref1 r]
  obtain ⟨_, lo, vs, kv, o, es, ep, h1, h2, h3, h4, h5, h6⟩ := dk_of I.hok ha
  cases kv
  have he : es.toList = [] := by
    cases q2 : es.toList with
    | nil => rfl
    | cons x l => rw [q2] at h5; cases h5
  have rd : Reads s.heap (.ref a) (.dict []) (a :: [] ++ []) := .dict h1 h2.1 h3 (by rw [he]; exact .nil) (by rw [he]; exact .nil)
  refine repr_of_reads' rd rfl (fun _ hz => ?_) hg (Nat.lt_of_le_of_lt (Nat.add_le_add_left (show (PyData.dict []).depth + 1 ≤ 64 by decide) _) hu) (fun _ _ e => e) (fun h' u tk hk => ?_) (by decide)
  · rw [beq_eq_false_iff_ne] at lo
    simp only [List.append_nil, List.mem_singleton] at hz
    exact lo hz.symm
  · exact ⟨.str _, H, I.kept (t' := tk) hk, ⟨u, rfl⟩, q⟩
theorem cr_reprA (hg : X.A.guards = some []) (hu : X.A.units + 64 < cLine) : CallR X (.builtin "repr") (fun xs H Q => (∃ x p, xs = [x] ∧ Dp X.K H x p ∧ p.hasDict = false ∧ shownOk p ∧ Q (.str p.shown) H) ∨ (∃ a, xs = [.ref a] ∧ H a = some (.dK []) ∧ Q (.str "{}") H)) := by
  intro pins s σ H xs us Q I r h
  rcases h with h | h
  · exact cr_reprV hg hu pins s σ H xs us Q I r h
  · exact cr_repr0 hg hu pins s σ H xs us Q I r h
theorem em_reprA (hgd : X.A.guards = some []) (hu : X.A.units + 64 < cLine) (h : EM X e me) (hg : Gl X "repr") (hm : X.mg "repr" = none) (hb : bootBuiltins "repr" = some (.builtin "repr") := by decide +kernel) (hs : starEach [e] X.env = (false, eval e X.env) :: starEach [] X.env := by rfl) (hpl : (backTo pos (starEach [] X.env)).any (·.1) = false := by rfl) :
    EM X (.Call (.Name "repr" p) [e] [] pos) (mB1 gReprA me) :=
  PE.of (pe_callB (cr_reprA hgd hu) hg hm hb (b1 h hs) (by decide) (by decide) hs hpl) fun σ H Q ⟨g, w, o, ρ, S, d, S', s, hm, q⟩ => by
    obtain ⟨d1, S1, h1, h2⟩ := R.bind_ok hm
    refine ⟨g, w, o, ρ, S, d1, S1, s, h1, fun v g1 H1 x1 s1 r1 => ?_⟩
    unfold gReprA at h2
    split at h2
    · rename_i n
      split at h2
      · rename_i hn
        cases h2
        obtain ⟨a, rfl, hg1⟩ := r1
        obtain ⟨kvs, hH, rk⟩ := s1.cel n _ a hn hg1
        cases rk
        exact .inr ⟨a, rfl, hH, q _ g1 H1 x1 s1 rfl⟩
      · cases h2
    · unfold gReprV at h2
      split at h2
      · rename_i pd hp
        split at h2
        · rename_i hok
          cases h2
          exact .inl ⟨v, pd, rfl, RelD.dp _ _ _ r1 hp, toP_noDict _ _ hp, hok, q _ g1 H1 x1 s1 rfl⟩
        · cases h2
      · cases h2
end
@[simp] theorem hStrI_eq (i : Int) (S : Store) : hStrI [.int i] S = if b62 i = true then .ok (.str (toString i)) S else .bad := rfl
@[simp] theorem gReprA_loc (n : Nat) (S : Store) : gReprA (.loc n) S = (match S[n]? with
  | some (.dK []) => .ok (.str "{}") S
  | _ => .bad) := rfl
@[simp] theorem gReprA_tup (l : List D) (S : Store) : gReprA (.tup l) S = gReprV (.tup l) S := rfl
@[simp] theorem gReprA_lst (l : List D) (S : Store) : gReprA (.lst l) S = gReprV (.lst l) S := rfl
@[simp] theorem gReprA_non (S : Store) : gReprA .non S = gReprV .non S := rfl
@[simp] theorem gReprA_bl (k : Bool) (S : Store) : gReprA (.bl k) S = gReprV (.bl k) S := rfl
@[simp] theorem gReprA_int (i : Int) (S : Store) : gReprA (.int i) S = gReprV (.int i) S := rfl
@[simp] theorem gReprA_str (i : Str) (S : Store) : gReprA (.str i) S = gReprV (.str i) S := rfl
end Mo
set_option maxRecDepth 100000
set_option maxHeartbeats 1000000
/-! Mo: t[::-1] of a tuple. -/
namespace Mo
open PySem PySem.Spec PyProof.Rows L2 HT
section
variable {prog : Program} {w : World} {A : Around} {E : Value → Shared → Prop} {s : Shared}
theorem adjust_back (n : Nat) : Builtin.Slice.sliceAdjust none none (-1) (n : Int) = ((n : Int) - 1, -1) := rfl
theorem places_back (n : Nat) : Builtin.Slice.slicePlaces ((n : Int) - 1) (-1) (-1) = n := by
  have h1 : ¬ ((-1 : Int) > 0) := by decide
  unfold Builtin.Slice.slicePlaces
  rw [if_neg h1]
  by_cases c : n = 0
  · subst c; rfl
  · rw [if_pos (by omega), Int.neg_neg, Int.ediv_one]; omega
theorem applied_back {sl : Addr} {vs : Value} {n : Nat} {Q : Int × Int × Nat → Shared → Prop} (hs : s.heap.IsSliceOf sl .none .none vs) (pk : IsPart vs (some (-1))) (h : Q ((n : Int) - 1, -1, n) s) : wpAny (model prog w) A (Builtin.Slice.sliceApplied (.ref sl) (pure (n : Int))) Q E s := by
  obtain ⟨os, hos, _, hds⟩ := hs
  unfold Builtin.Slice.sliceApplied Builtin.Slice.sliceFields
  refine wpAny_bind (wpAny_bind (wpAny_field hos hds (x := .none) rfl (wpAny_bind (wpAny_field hos hds (x := .none) rfl (wpAny_bind (wpAny_field hos hds (x := vs) rfl (wpAny_pure ?_)))))))
  refine wpAny_bind (slicePart_ pk ?_)
  show wpAny _ _ (if ((-1 : Int) == 0) = true then _ else _) _ _ s
  rw [if_neg (by decide)]; refine wpAny_bind (slicePart_none (wpAny_bind (slicePart_none (wpAny_bind (wpAny_pure ?_)))))
  show wpAny _ _ (match Builtin.Slice.sliceAdjust none none (-1) (n : Int) with | (lo, hi) => pure (lo, (-1 : Int), Builtin.Slice.slicePlaces lo hi (-1))) _ _ s
  rw [adjust_back]
  show wpAny _ _ (pure ((n : Int) - 1, (-1 : Int), Builtin.Slice.slicePlaces ((n : Int) - 1) (-1) (-1))) _ _ s
  rw [places_back]; exact wpAny_pure h
theorem fm_congr {α β : Type} {f g : α → Option β} : ∀ {l : List α}, (∀ x ∈ l, f x = g x) → l.filterMap f = l.filterMap g
  | [], _ => rfl
  | x :: l, h => by rw [List.filterMap_cons, List.filterMap_cons, h x List.mem_cons_self, fm_congr fun y hy => h y (List.mem_cons_of_mem _ hy)]
theorem pick_back (xs : Array Value) : ((List.range xs.size).filterMap fun (k : Nat) => xs[((xs.size : Int) - 1 + (k : Int) * (-1)).toNat]?) = xs.toList.reverse := by
  have e : ((List.range xs.size).filterMap fun (k : Nat) => xs[((xs.size : Int) - 1 + (k : Int) * (-1)).toNat]?) = (((List.range xs.size).map fun k => xs.size - 1 - k).filterMap (xs[·]?)) := by
    rw [List.filterMap_map]
    refine fm_congr fun k hk => ?_
    have : ((xs.size : Int) - 1 + (k : Int) * (-1)).toNat = xs.size - 1 - k := by have := List.mem_range.mp hk; omega
    show xs[((xs.size : Int) - 1 + (k : Int) * (-1)).toNat]? = xs[xs.size - 1 - k]?
    rw [this]
  rw [e, PySem.W.krv_range, List.filterMap_reverse, PySem.W.krv_all]
theorem item_back {t sl : Addr} {items : Array Value} {vs : Value} {Q : Value → Shared → Prop} (ht : IsTup s.heap t items) (hs : s.heap.IsSliceOf sl .none .none vs) (pk : IsPart vs (some (-1)))
    (h : Q (.ref s.heap.objs.size) { s with heap := s.heap.push { cls := .type "tuple", data := .seq items.toList.reverse.toArray } }) (hsz : items.size ≤ sizeLine) : wpAny (model prog w) A (getItem (.ref t) (.ref sl)) Q E s := by
  have hz : sizeOk (.seq items.toList.reverse.toArray) := (by rw [List.size_toArray, List.length_reverse, Array.length_toList]; exact hsz : items.toList.reverse.toArray.size ≤ sizeLine)
  obtain ⟨os, hos, hcs, _⟩ := id hs
  have hT : s.TypeIs (.ref sl) "slice" := ⟨os, hos, hcs⟩
  unfold getItem; (try with_reducible refine wpAny_holding ?_); (first | refine wpAny_bind (wpAny_pure ?_) | skip)
  refine wpAny_bind (wpAny_sequenceKey ht.typeIs (by decide) (wpAny_bind (wpAny_callSpecial?_slot (name := Str.ofString "__getitem__") ht.typeIs PyProof.Rows.slot_tuple_getitem (wpAny_call_entry PyProof.Rows.slot_tuple_getitem ht.typeIs entry_tuple_getitem ?_ (args_tuple_getitem _ _)))))
  show wpAny _ _ (Builtin.Tuple.tupleItemsOf (.ref t) >>= _) _ _ s; refine wpAny_bind (tupleItemsOf_ ht (wpAny_bind (wpAny_typeOf hT ?_)))
  rw [if_pos (by decide)]; refine wpAny_bind (applied_back hs pk ?_)
  have no : ¬ ((((items.size : Int) - 1) == 0 && (-1 : Int) == 1 && items.size == items.size) = true) := by simp
  show wpAny _ _ (if (((items.size : Int) - 1) == 0 && (-1 : Int) == 1 && items.size == items.size) = true then _ else _) _ _ s
  rw [if_neg no, pick_back]
  first
    | exact wpAny_bind (m := Builtin.Tuple.tupleExact _) (wpAny_newObj_type (wpAny_pure ⟨_, rfl, wpAny_pure h⟩) hz)
    | exact wpAny_bind (m := Builtin.Tuple.tupleExact _) (wpAny_newObj_type (wpAny_bind (wpAny_pure (wpAny_pure ⟨_, rfl, wpAny_pure h⟩))) hz)
    | exact wpAny_bind (wpAny_bind (m := Builtin.Tuple.tupleExact _) (wpAny_newObj_type (wpAny_pure (wpAny_pure ⟨_, rfl, wpAny_pure h⟩)) hz))
    | exact wpAny_bind (wpAny_bind (m := Builtin.Tuple.tupleExact _) (wpAny_newObj_type (wpAny_pure ⟨_, rfl, wpAny_pure h⟩) hz))
end
section
variable {X : Cx}
def rRevT (K : PySem.W.Frag) : V → Hp → VK → Prop := fun x H Q => ∃ a xs, x = .ref a ∧ SqT K H a xs ∧ ∀ p, H p = none → Q (.ref p) (upd H p (.tup xs.reverse))
theorem pe_revT {e ste : Expr} {te : TE} {ts : TO} {pos p2 : Pos} (he : PE X e te) (hs : PO X (some ste) ts) : PE X (.Subscript e (.Slice none none (some ste) p2) pos) (fun σ H Q => te σ H fun x H1 => ts σ H1 fun k H2 => k = some (-1) ∧ rRevT X.K x H2 Q) := by
  refine ⟨fun pins s σ H Q I h => Subscript_ (thn (he.run pins s σ H _ I h) fun v s1 ⟨x, H1, I1, r1, q1⟩ => wpAny_Slice ?_)⟩
  rw [evalPart_none]
  refine wpAny_pure (wpAny_pure (thn (hs.run pins s1 σ H1 _ I1 q1) fun vs s3 ⟨k, H3, I3, pk, ek, a, xs, ex, hx, q⟩ => ?_))
  subst ek; subst ex
  have I4 : Inv X pins σ H3 { s3 with heap := s3.heap.push { cls := .type "slice", data := .fields #[.none, .none, vs] } } := I3.kept (t' := s3.toks) fun b ob q => Heap.get?_push_of_some _ q
  cases r1
  obtain ⟨its, r, ht, hz⟩ := I4.tuple hx
  have hlen := r.length
  have hg : wpAny (model X.prog X.w) X.A (getItem (.ref a) (.ref s3.heap.objs.size)) (EP X pins σ Q) X.xe { s3 with heap := s3.heap.push { cls := .type "slice", data := .fields #[.none, .none, vs] } } := by
    refine item_back ht (Heap.IsSliceOf.new ..) pk ?_ (by rw [List.size_toArray]; omega)
    refine ⟨.ref _, _, I4.laid (t' := s3.toks) (o := .tup xs.reverse) (fun b ob q => Heap.get?_push_of_some _ q) (Nat.le_refl _) ?_, rfl, q _ (I4.hok.fresh (Nat.le_refl _))⟩
    exact ⟨by rw [List.length_reverse]; exact hz, _, vals_reverse r, _, Heap.get?_push_size _ rfl, rfl, 0, rfl⟩
  show wpAny (model X.prog X.w) X.A (subscriptTail e (.Slice none none (some ste) p2) (.ref a) (.ref s3.heap.objs.size)) (EP X pins σ Q) X.xe { s3 with heap := s3.heap.push { cls := .type "slice", data := .fields #[.none, .none, vs] } }
  exact tail_any (ops := [.ref a, .ref s3.heap.objs.size]) ht.typeIs slot_tuple_getitem.lookup hg (by with_unfolding_all rfl)
/-- t[::-1] of a tuple -/
def mRevT (me : ME) (mo : MO) : ME := fun ρ S => (me ρ S).bind fun d S1 => (mo ρ S1).bind fun k S2 => match d with
  | .tup l => if k = some (-1) then .ok (.tup l.reverse) S2 else .bad
  | _ => .bad
theorem em_revT {e ste : Expr} {me : ME} {mo : MO} {pos p2 : Pos} (he : EM X e me) (hs : OM X (some ste) mo) : EM X (.Subscript e (.Slice none none (some ste) p2) pos) (mRevT me mo) := PE.of (pe_revT he hs) fun σ H Q ⟨g, w, o, ρ, S, d, S', s, hm, q⟩ => by
  obtain ⟨d1, S1, h1, hm⟩ := R.bind_ok hm
  obtain ⟨k1, S2, h2, hm⟩ := R.bind_ok hm
  split at hm
  · rename_i l
    split at hm
    · rename_i hk
      cases hm
      refine ⟨g, w, o, ρ, S, _, S1, s, h1, fun v g1 H1 x1 s1 r1 => ?_⟩
      have t1 := s.ext x1 s1
      refine ⟨g1, w, o, ρ, S1, _, _, t1, h2, fun g2 H2 x2 s2 => ⟨hk, ?_⟩⟩
      obtain ⟨a, vs, ev, hq, r⟩ := RelD.ext x2 _ _ r1
      exact ⟨a, vs, ev, hq, fun t ht => q _ g2 _ ((x1.trans x2).trans (.new ht)) (s2.new ht) ⟨t, _, rfl, .inl (.inl upd_same), RelDs.ext (.new ht) _ _ (RelDs.rev r)⟩⟩
    · cases hm
  · cases hm
@[simp] theorem mRevT_eq (me : ME) (mo : MO) (ρ : MEnv) (S : Store) : mRevT me mo ρ S = (me ρ S).bind fun d S1 => (mo ρ S1).bind fun k S2 => (match d with
  | .tup l => if k = some (-1) then .ok (.tup l.reverse) S2 else .bad
  | _ => .bad) := rfl
end
end Mo
set_option maxRecDepth 100000
set_option maxHeartbeats 1000000
/-! Mo: statements that may end in an exception of an own class with fields. -/
namespace Mo
open PySem PySem.Spec PyProof.Rows L2
/-- an end of a statement, or an exception: its class by name, its fields, the frame's slots -/
inductive FX where
  | fl (f : Fl)
  | ex (c : Str) (fs : List (Str × D)) (ρ : MEnv)
abbrev MX := MEnv → Store → R FX
def RelFs (K : PySem.W.Frag) (g f : List Addr) (H : Hp) (fs : List (Str × D)) (vs : List (Str × V)) : Prop := fs.map (·.1) = vs.map (·.1) ∧ RelDs K g f H (fs.map (·.2)) (vs.map (·.2))
def FinX (K : PySem.W.Frag) (mg : Str → Option Value) (g w o : List Addr) (H : Hp) (r : FX) (S' : Store) (E : Ends) (W : WX) : Prop := match r with
  | .fl fl => FinS K g w o H fl S' E
  | .ex c fs ρ' => ∀ g' o' H', ExtS g o H g' o' H' → ∀ (σ' : L2.St) (C dd : Addr) (vs : List (Str × V)), mg c = some (.ref C) → Sta K g' w o' ρ' S' σ' H' → H' dd = some (.xd vs) → RelFs K g' (w ++ o') H' fs vs → W (.ref C) (some dd) σ' H'
def tX (K : PySem.W.Frag) (mg : Str → Option Value) (W : WX) (m : MX) : TS := fun E σ H => ∃ g w o ρ S r S', Sta K g w o ρ S σ H ∧ m ρ S = .ok r S' ∧ FinX K mg g w o H r S' E W
def XM (X : Cx) (W : WX) (st : Stmt) (m : MX) : Prop := PS X st (tX X.K X.mg W m)
def XsM (X : Cx) (W : WX) (st : List Stmt) (m : MX) : Prop := PSs X st (tX X.K X.mg W m)
theorem FinX.after {K : PySem.W.Frag} {mg : Str → Option Value} {g w o g1 o1 : List Addr} {H H1 : Hp} {r : FX} {S' : Store} {E : Ends} {W : WX} (q : FinX K mg g w o H r S' E W) (x : ExtS g o H g1 o1 H1) : FinX K mg g1 w o1 H1 r S' E W := by
  cases r with
  | fl f => exact FinS.after q x
  | ex c fs ρ => exact fun g' o' H' y => q g' o' H' (x.trans y)
section
variable {X : Cx} {W : WX} {st : Stmt} {rest : List Stmt} {c : Expr} {pos : Pos} {m : MS} {m1 m2 ma mb : MX} {mt : MT}
/-- what raises nothing -/
def mUp (m : MS) : MX := fun ρ S => (m ρ S).bind fun fl S1 => .ok (.fl fl) S1
theorem xm_up (h : SM X st m) : XM X W st (mUp m) := PS.of h fun E σ H ⟨g, w, o, ρ, S, r, S', s, hm, q⟩ => by
  obtain ⟨fl, S1, e1, hm⟩ := R.bind_ok hm
  cases hm
  exact ⟨g, w, o, ρ, S, fl, _, s, e1, q⟩
theorem xsm_up {st : List Stmt} (h : SsM X st m) : XsM X W st (mUp m) := PSs.of h fun E σ H ⟨g, w, o, ρ, S, r, S', s, hm, q⟩ => by
  obtain ⟨fl, S1, e1, hm⟩ := R.bind_ok hm
  cases hm
  exact ⟨g, w, o, ρ, S, fl, _, s, e1, q⟩
def mSeqX (m1 m2 : MX) : MX := fun ρ S => (m1 ρ S).bind fun r S1 => match r with
  | .fl (.nx ρ1) => m2 ρ1 S1
  | r => .ok r S1
theorem xsm_cons (h1 : XM X W st m1) (h2 : XsM X W rest m2) : XsM X W (st :: rest) (mSeqX m1 m2) := PSs.of (pss_cons h1 h2) fun E σ H ⟨g, w, o, ρ, S, r, S', s, hm, q⟩ => by
  obtain ⟨f1, S1, e1, hm⟩ := R.bind_ok hm
  refine ⟨g, w, o, ρ, S, f1, S1, s, e1, ?_⟩
  cases f1 with
  | ex c fs ρ1 => cases hm; exact q
  | fl f1 =>
    refine fun g1 o1 H1 x1 => ?_
    cases f1 with
    | nx ρ1 => exact fun σ1 s1 => ⟨g1, w, o1, ρ1, S1, r, S', s1, hm, q.after x1⟩
    | rt d => cases hm; exact q g1 o1 H1 x1
    | bk d => cases hm; exact q g1 o1 H1 x1
    | ct d => cases hm; exact q g1 o1 H1 x1
theorem xsm_one (h1 : XM X W st m1) : XsM X W [st] m1 := pss_one h1
def mIfX (mt : MT) (a b : MX) : MX := fun ρ S => (mt ρ S).bind fun k S1 => if k = true then a ρ S1 else b ρ S1
theorem xm_if {a b : List Stmt} (hc : TM X c mt) (ha : XsM X W a ma) (hb : XsM X W b mb) : XM X W (.If c a b pos) (mIfX mt ma mb) := PS.of (ps_if hc ha hb) fun E σ H ⟨g, w, o, ρ, S, r, S', s, hm, q⟩ => by
  obtain ⟨k, S1, e1, hm⟩ := R.bind_ok hm
  refine ⟨g, w, o, ρ, S, k, S1, s, e1, fun g1 H1 x1 s1 => ?_⟩
  have st1 := s.ext x1 s1
  cases k with
  | true => exact ⟨g1, w, o, ρ, S1, r, S', st1, by rw [if_pos rfl] at hm; exact hm, q.after x1.s⟩
  | false => exact ⟨g1, w, o, ρ, S1, r, S', st1, by rw [if_neg Bool.false_ne_true] at hm; exact hm, q.after x1.s⟩
end
end Mo
namespace Mo
open PySem PySem.Spec PyProof.Rows L2
/-- what an __init__ of one part keeps: self.f = the part -/
def spInit1 (C : Addr) (f : Str) : Sp := fun vs H Q _ => ∃ (a : Addr) (y : V), vs = [.ref a, y] ∧ H a = some (exo a C none) ∧ ∀ dx, H dx = none → dx ≠ a → Q .non (upd (upd H dx (exd dx [(f, y)])) a (exo a C (some dx)))
/-- raise C(e) -/
def mRaise1 (c f : Str) (me : ME) : MX := fun ρ S => (me ρ S).bind fun d S1 => .ok (.ex c [(f, d)] ρ) S1
theorem upd_del {H : Hp} {a dx : Addr} {u v o z : HO} (ha : H a = none) (hne : dx ≠ a) : upd (del (upd (upd (upd H a u) dx v) a o) a) dx z = upd H dx z := by
  funext b
  by_cases h1 : b = dx
  · subst h1; rw [upd_same, upd_same]
  · rw [upd_ne h1, upd_ne h1]
    by_cases h2 : b = a
    · subst h2; rw [del_same, ha]
    · rw [del_ne h2, upd_ne h2, upd_ne h1, upd_ne h2]
section
variable {X : Cx} {W : WX} {e : Expr} {me : ME} {p pos pos2 : Pos} {CX : CXT} {x f : Str} {C fI : Addr} {k : Nat} {fd : FuncData} {ps : List Str}
theorem xm_raise1 (hc : X.calm = true) (tk : Takes X W) (T : OexC X.K C) (iC : PySem.W.findIn X.K (.ref C) "__init__" = some (some (.ref fI))) (tI : PySem.W.typeIn X.K (.ref fI) = some (.type "function"))
    (F1 : FnOk X.prog X.w X.K X.mg X.base CX k fI fd ps (spInit1 C f)) (hr : Room (k + 1) X.A) (hb : Binds X.K fd ps []) (hx : Passes CX X (fun _ _ _ => False)) (hg : Gl X x) (hm : X.mg x = some (.ref C)) (he : EM X e me)
    (hdb : (x == ("__debug__" : Str)) = false := by decide) (hs : starEach [e] X.env = (false, eval e X.env) :: starEach [] X.env := by rfl) (hpl : (backTo pos (starEach [] X.env)).any (·.1) = false := by rfl) :
    XM X W (.Raise (some (.Call (.Name x p) [e] [] pos)) none pos2) (mRaise1 x f me) :=
  PS.of (ps_raise hc tk (pmk_oex (dvs := []) T iC tI F1 hr hb .nil hx hg hm (am_cons he am_nil hs) hdb hs hpl)) fun E σ H ⟨g, w, o, ρ, S, r, S', s, hm', q⟩ => by
    obtain ⟨d, S1, h1, hm'⟩ := R.bind_ok hm'
    cases hm'
    refine ⟨g, w, o, ρ, S, [d], _, s, by rw [aCons_eq, h1]; rfl, fun vs g1 H1 x1 s1 r1 => ?_⟩
    obtain ⟨y, ws, ev, ry, rn⟩ := r1
    cases rn; subst ev
    refine ⟨by simp, fun a ha => ⟨a, y, rfl, upd_same, fun dx hdx hne => ⟨rfl, dx, [(f, y)], upd_same, ?_, ?_, ?_⟩⟩⟩
    · rw [upd_ne hne, upd_same]
    · rw [upd_ne hne] at hdx; exact hdx
    · rw [upd_ne hne] at hdx
      rw [upd_del ha hne]
      have x2 : Ext g1 H1 g1 (upd H1 dx (.xd [(f, y)])) := .new hdx
      exact q g1 o _ (x1.trans x2).s σ C dx [(f, y)] hm (s.ext (x1.trans x2) (s1.new hdx)) upd_same ⟨rfl, ⟨y, [], rfl, RelD.ext x2 _ _ ry, rfl⟩⟩
end
end Mo
set_option maxRecDepth 100000
set_option maxHeartbeats 1000000
/-! Mo: an __init__ of one part. -/
namespace Mo
open PySem PySem.Spec PyProof.Rows L2
theorem init1_ok {CX : CXT} {P : Program} {w : World} {K : PySem.W.Frag} {mg : Str → Option Value} {base : Heap} {k : Nat} {fI C : Addr} {name qual : Str} {params : Arguments} {scope : Scope} {dV kV doc pm cdv ct oc : Value} {an od : Option Addr}
    {osl : Array (Option Value)} {x y f : Str} {p1 p2 p3 pos : Pos} (lk : K.lookup fI = some ⟨oc, od, .func (PySem.W.fnOf name qual params [.Assign [.Attribute (.Name x p1) f p2] (.Name y p3) pos] scope dV kV doc pm an cdv ct), osl⟩) (hcd : PySem.W.codeIn K cdv qual = true) (S : FnScope [x, y] [x, y] scope)
    (T : OexC K C) (hno : PySem.W.findIn K (.ref C) f = some none) (hx : scope.names.lookup x = some .local) (hy : scope.names.lookup y = some .local)
    (dx : (x == ("__debug__" : Str)) = false := by decide) (cx : (x == ("__classdict__" : Str)) = false := by decide) (dy : (y == ("__debug__" : Str)) = false := by decide) (cy : (y == ("__classdict__" : Str)) = false := by decide) :
    FnOk P w K mg base CX (k + 1) fI (PySem.W.fnOf name qual params [.Assign [.Attribute (.Name x p1) f p2] (.Name y p3) pos] scope dV kV doc pm an cdv ct) [x, y] (spInit1 C f) := by
  refine fn_of lk hcd S (fun vs H Q E ⟨a, v, e, _⟩ => by rw [e]; rfl) ?_
  rintro A outer s H vs Q E hr ⟨a, v, rfl, h1, h2⟩
  refine ⟨_, pss_cons (ps_ost (pe_var (i := 0) rfl (.inl hx) dx cx) (pe_var (i := 1) rfl (.inl hy) dy cy)) pss_nil, ?_⟩
  exact ⟨v, rfl, .ref a, rfl, a, C, rfl, T, hno, .inl ⟨h1, fun d hd hne => h2 d hd hne⟩⟩
end Mo
set_option maxRecDepth 100000
set_option maxHeartbeats 1000000
/-! Mo: functions that may raise. -/
namespace Mo
open PySem PySem.Spec PyProof.Rows L2
/-- what a function ends in -/
inductive RX where
  | rt (d : D)
  | ex (c : Str) (fs : List (Str × D))
abbrev MFX := List D → Store → R RX
def mDefX (n : Nat) (b : MX) : MFX := fun ds S => (b (ds.map (fun d => some (.val d)) ++ List.replicate (n - ds.length) none) S).bind fun r S1 => match r with
  | .fl (.rt d) => .ok (.rt d) S1
  | .fl (.nx _) => .ok (.rt .non) S1
  | .ex c fs _ => .ok (.ex c fs) S1
  | _ => .bad
def spX (K : PySem.W.Frag) (mg : Str → Option Value) (n : Nat) (m : MFX) : Sp := fun vs H Q E => vs.length = n ∧ ∃ g f ds S r S', (∀ a ∈ f, H a ≠ none) ∧ RelS K g f H S ∧ RelDs K g f H ds vs ∧ m ds S = .ok r S' ∧ (match r with
  | .rt d => FinE K g f H d S' Q
  | .ex c fs => ∀ g' H', Ext g H g' H' → RelS K g' f H' S' → ∀ (C dd : Addr) (vs' : List (Str × V)), mg c = some (.ref C) → H' dd = some (.xd vs') → RelFs K g' f H' fs vs' → E (.ref C) (some dd) H')
section
variable {P : Program} {w : World} {K : PySem.W.Frag} {mg : Str → Option Value} {base : Heap}
theorem def_startX {N ps : List Str} {b : MX} {X : Cx} {body : List Stmt} {Q : VK} {E : XK} {vs : List V} {H : Hp} (hX : X.K = K) (hg : X.mg = mg) (hb : XsM X (fun cls d _ H => E cls d H) body b) (h : spX K mg ps.length (mDefX N.length b) vs H Q E) :
    ∃ t, PSs X body t ∧ t { nx := fun _ H' => Q .non H', rt := Q } (start N vs) H := by
  subst hX; subst hg
  obtain ⟨hl, g, f, ds, S, d, S', hf, s, r, hm, q⟩ := h
  obtain ⟨fl, S1, h1, hm⟩ := R.bind_ok hm
  refine ⟨_, hb, g, f, [], _, S, fl, S1, Sta.start hf s r, h1, ?_⟩
  cases fl with
  | ex c fs ρ =>
    cases hm
    exact fun g1 o1 H1 x1 σ' C dd vs' hc st hd rf => q g1 H1 x1.ext (st.sto.less fun b hb => List.mem_append_left _ hb) C dd vs' hc hd ⟨rf.1, rf.2.less fun b hb => List.mem_append_left _ hb⟩
  | fl fl =>
    refine fun g1 o1 H1 x1 => ?_
    cases fl with
    | rt v => cases hm; exact fun v t rr => q v g1 H1 x1.ext t rr
    | nx ρ => cases hm; exact fun σ st => q .non g1 H1 x1.ext (st.sto.less fun b hb => List.mem_append_left _ hb) rfl
    | bk ρ => cases hm
    | ct ρ => cases hm
/-- the rule for a def that may raise -/
theorem def_okX {x qual : Str} {st : Stmt} {a : Addr} {fd : FuncData} {N ps : List Str} {k : Nat} {b : MX} (F : Fun K x qual st a fd) (S : FnScope N ps (defScope st))
    (hb : ∀ (cdv : Value) (A : Around) (out : List Env) (s : Shared) (H : Hp) (E : XK), (A.deeper (envOfC qual (defScope st) s.heap.objs.size a cdv)).guards = some [] → Room k (A.deeper (envOfC qual (defScope st) s.heap.objs.size a cdv)) →
      Takes (cxOf (L2.CX P w) P w K mg base N qual (defScope st) a cdv A out s H E) (fun cls d _ H => E cls d H) → XsM (cxOf (L2.CX P w) P w K mg base N qual (defScope st) a cdv A out s H E) (fun cls d _ H => E cls d H) (defBody st) b) : FnG P w K mg base (L2.CX P w) (k + 1) a fd ps (spX K mg ps.length (mDefX N.length b)) := by
  refine ⟨fun vs H Q E h => h.1, ?_⟩
  intro A out s H ar us vs Q E hgd hr e0 hbi rv hsp
  obtain ⟨oc, od, kV, doc, pm, an, cdv, ct, osl, rfl, lk, hcd⟩ := F.ex
  have hl : vs.length = ps.length := hsp.1
  have hK : K.In s.heap := e0.mod.kin.keeps fun b o e => (e0.bs b o e).1
  have hlim : s.heap.NoLimit := e0.mod.nolimit.keeps fun b o e => (e0.bs b o e).1
  refine codeAny_call_function hr.depth (hK _ _ lk) rfl S.co S.gen rfl (PySem.W.codeRec_of hK hcd) (hbi _ _ _ _ ?_)
  have kinds : ∀ y ∈ ps.zip us, (defScope st).names.lookup y.1 = some .local ∨ ((defScope st).names.lookup y.1 = some .cell ∧ ((cellsFrom (s.heap.objs.size + 1) (defScope st).names []).lookup y.1).isSome = true) := by
    rintro ⟨nm, v⟩ hy
    exact (S.par nm (List.of_mem_zip hy).1).imp id fun q => ⟨q, PySem.W.cellsFrom_some _ _ _ (.inl q)⟩
  refine wpAny_newFunctionEnv_cells S.kind kinds fun en hen s1 ic => ?_
  subst hen
  refine ⟨hlim.keeps ic.toInCall.keep, codeAny_func ?_⟩
  have tk : Takes (cxOf (L2.CX P w) P w K mg base N qual (defScope st) a cdv A out s H E) (fun cls d _ H => E cls d H) := takes_of rfl rfl rfl rfl
  obtain ⟨t, ht, hq⟩ := def_startX (N := N) (ps := ps) (K := K) (mg := mg) rfl rfl (hb cdv A out s H E hgd (hr.deeper _) tk) hsp
  have I := inv_start (CX := L2.CX P w) (mg := mg) (E := E) S hr.hd e0 hl rv ic
  refine wpAny_mono (ht.run [] s1 (start N vs) H _ I hq) (fun fl s' hs => ?_) fun _ _ q => q
  match fl, hs with
  | .ret u, ⟨v, σ', H', J, rr, q⟩ => exact ⟨v, H', J.os, J.bare, J.base, J.hok, rr, q⟩
  | .next, ⟨σ', H', J, q⟩ => exact ⟨V.non, H', J.os, J.bare, J.base, J.hok, rfl, q⟩
  | .brk, ⟨_, _, _, q⟩ => exact q.elim
  | .cont, ⟨_, _, _, q⟩ => exact q.elim
/-- where it raises nothing -/
def mNo (m : MFX) : MF := fun ds S => (m ds S).bind fun r S1 => match r with
  | .rt d => .ok d S1
  | .ex _ _ => .bad
theorem FnG.no {k n : Nat} {a : Addr} {fd : FuncData} {ps : List Str} {m : MFX} (F : FnG P w K mg base (L2.CX P w) k a fd ps (spX K mg n m)) (hn : n = ps.length) : FnG P w K mg base CX0 k a fd ps (spM K n (mNo m)) := by
  refine ⟨fun vs H Q E h => h.1.trans hn, fun A out s H ar us vs Q E hgd hr e0 hb rv h => ?_⟩
  obtain ⟨hl, g, f, ds, S, d, S', hf, hs, hr2, hm, q⟩ := h
  obtain ⟨r, S1, h1, hm⟩ := R.bind_ok hm
  cases r with
  | ex c fs => cases hm
  | rt d =>
    cases hm
    refine codeAny_mono (F.go A out s H ar us vs Q (fun _ _ _ => False) hgd hr e0 hb rv ⟨hl, g, f, ds, S, .rt d, _, hf, hs, hr2, h1, q⟩) fun r s' hq => ?_
    match r, hq with
    | .error e, hq =>
      obtain ⟨_, _, _, _, _, _, _, _, _, _, _, _, z⟩ := hq
      exact z.elim
    | .ok (.ret u), hq => exact hq
    | .ok .next, hq => exact hq
    | .ok .brk, hq => exact hq
    | .ok .cont, hq => exact hq
end
end Mo
set_option maxRecDepth 100000
set_option maxHeartbeats 1000000
/-! Mo: calls of functions that may raise. -/
namespace Mo
open PySem PySem.Spec PyProof.Rows L2
abbrev MEX := MEnv → Store → R RX
def tEX (K : PySem.W.Frag) (mg : Str → Option Value) (W : WX) (m : MEX) : TE := fun σ H Q => ∃ g w o ρ S r S', Sta K g w o ρ S σ H ∧ m ρ S = .ok r S' ∧ (match r with
  | .rt d => ∀ v g' H', Ext g H g' H' → RelS K g' (w ++ o) H' S' → RelD K g' (w ++ o) H' d v → Q v H'
  | .ex c fs => ∀ g' H', Ext g H g' H' → RelS K g' (w ++ o) H' S' → ∀ (C dd : Addr) (vs : List (Str × V)), mg c = some (.ref C) → H' dd = some (.xd vs) → RelFs K g' (w ++ o) H' fs vs → W (.ref C) (some dd) σ H')
def EX (X : Cx) (W : WX) (e : Expr) (m : MEX) : Prop := PE X e (tEX X.K X.mg W m)
def mCallX (m : MFX) (n : Nat) (dv : List D) (l : MA) : MEX := fun ρ S => (l ρ S).bind fun ds S1 => if (ds ++ dv).length = n then m (ds ++ dv) S1 else .bad
section
variable {X : Cx} {W : WX} {k n : Nat} {a : Addr} {fd : FuncData} {ps : List Str} {x : Str} {p pos : Pos} {e : Expr} {es : List Expr} {l : MA} {m : MFX} {dv : List D} {dvs : List V} {dws : List Value} {mx : MEX}
theorem FnG.runS {CX : CXT} {sp : Sp} {E : XK} {pins : List (Addr × Obj)} {σ : L2.St} {H : Hp} {s : Shared} {Q : VK} {us : List Value} {vs : List V} {all : List Value} (F : FnG X.prog X.w X.K X.mg X.base CX k a fd ps sp)
    (hg : X.A.guards = some []) (hr : Room k X.A) (hb : all.length = ps.length → BindsTo s fd ⟨us, []⟩ (ps.zip all)) (hx : PassesAt CX X σ E) (I : Inv X pins σ H s) (r : Vals vs all) (h : sp vs H Q E) :
    wpAny (model X.prog X.w) X.A (call (.ref a) us []) (EP X pins σ Q) X.xe s := by
  have hl : all.length = ps.length := r.length ▸ F.many _ _ _ _ h
  refine wpAny_call (codeAny_mono (F.go X.A X.stack s H _ all vs Q E hg hr I.env0 (hb hl) r h) ?_)
  intro q s' hq
  match q, hq with
  | .error e, hq => exact hx pins H s e s' I hq
  | .ok (.ret u), hq => exact I.after hq
  | .ok .next, hq => exact hq.elim
  | .ok .brk, hq => exact hq.elim
  | .ok .cont, hq => exact hq.elim
theorem ex_call (tk : Takes X W) (F : FnG X.prog X.w X.K X.mg X.base (L2.CX X.prog X.w) k a fd ps (spX X.K X.mg n m)) (hgd : X.A.guards = some []) (hr : Room k X.A) (hg : Gl X x) (hm : X.mg x = some (.ref a)) (hk : PySem.W.keepIn X.K (.ref a) = true) (hb : Binds X.K fd ps dws) (hd : Vals dvs dws)
    (hdd : ∀ K g f H, RelDs K g f H dv dvs) (ha : AM X (e :: es) l) (hdb : (x == ("__debug__" : Str)) = false := by decide) (he : starEach (e :: es) X.env = (false, eval e X.env) :: starEach es X.env := by rfl)
    (hpl : (backTo pos (starEach es X.env)).any (·.1) = false := by rfl) : EX X W (.Call (.Name x p) (e :: es) [] pos) (mCallX m n dv l) := by
  refine ⟨fun pins s σ H Q I h => ?_⟩
  obtain ⟨g, w, o, ρ, S, r, S', st, hq, q⟩ := h
  obtain ⟨ds, S1, h1, hq⟩ := R.bind_ok hq
  split at hq
  · rename_i hl
    refine wpAny_Call_Name_kw (ld_glob I hg hm (PySem.W.callWith_K (h₀ := X.base) I.ok.mod.kin hk ?_ he hpl) hdb)
    refine thn (PA.run ha pos pins s σ H _ I ⟨g, w, o, ρ, S, ds, S1, st, h1, fun vs g1 H1 x1 s1 r1 => (⟨g1, H1, rfl, x1, s1, r1⟩ : ∃ g1 H2, H1 = H2 ∧ Ext g H g1 H2 ∧ RelS X.K g1 (w ++ o) H2 S1 ∧ RelDs X.K g1 (w ++ o) H2 ds vs)⟩) fun us s1 ⟨vs, H1, I1, rv, g1, H1', e1, x1, t1, r1⟩ => ⟨I1.kIn, ?_⟩
    subst e1
    have r2 := RelDs.append r1 (hdd X.K g1 (w ++ o) H1)
    refine FnG.runS (E := WE W σ) F hgd hr (hb s1 us I1.kIn) (passAt tk σ) I1 (rv.append hd) ⟨by rw [← r2.length]; exact hl, g1, w ++ o, ds ++ dv, S1, r, S', fun b hb => x1.live b (st.liv b hb), t1, r2, hq, ?_⟩
    cases r with
    | rt d => exact fun v g2 H2 x2 s2 r3 => q v g2 H2 (x1.trans x2) s2 r3
    | ex c fs => exact fun g2 H2 x2 s2 C dd vs' hc hdx rf => q g2 H2 (x1.trans x2) s2 C dd vs' hc hdx rf
  · cases hq
/-- e, a statement -/
def mDropX (m : MEX) : MX := fun ρ S => (m ρ S).bind fun r S1 => match r with
  | .rt _ => .ok (.fl (.nx ρ)) S1
  | .ex c fs => .ok (.ex c fs ρ) S1
theorem xm_drop (he : EX X W e mx) (hs : swapsWith e none pos.line X.env = pure false := by rfl) : XM X W (.Expr e pos) (mDropX mx) := PS.of (ps_expr he hs) fun E σ H ⟨g, w, o, ρ, S, r, S', s, hm, q⟩ => by
  obtain ⟨r1, S1, e1, hm⟩ := R.bind_ok hm
  cases r1 with
  | rt d =>
    cases hm
    exact ⟨g, w, o, ρ, S, .rt d, _, s, e1, fun v g1 H1 x1 s1 r1 => q g1 o H1 x1.s _ (s.ext x1 s1)⟩
  | ex c fs =>
    cases hm
    exact ⟨g, w, o, ρ, S, .ex c fs, _, s, e1, fun g1 H1 x1 s1 C dd vs hc hd rf => q g1 o H1 x1.s σ C dd vs hc (s.ext x1 s1) hd rf⟩
/-- name = e -/
def mSetX (j : Nat) (m : MEX) : MX := fun ρ S => (m ρ S).bind fun r S1 => match r with
  | .rt d => .ok (.fl (.nx (ρ.set j (some (.val d))))) S1
  | .ex c fs => .ok (.ex c fs ρ) S1
theorem xm_set {st : Stmt} {j : Nat} (h : PS X st (tAsg (tEX X.K X.mg W mx) (gName j))) : XM X W st (mSetX j mx) := PS.of h fun E σ H ⟨g, w, o, ρ, S, r, S', s, hm, q⟩ => by
  obtain ⟨r1, S1, e1, hm⟩ := R.bind_ok hm
  cases r1 with
  | rt d =>
    cases hm
    exact ⟨g, w, o, ρ, S, .rt d, _, s, e1, fun v g1 H1 x1 s1 r1 => q g1 o H1 x1.s _ ((s.ext x1 s1).set r1)⟩
  | ex c fs =>
    cases hm
    exact ⟨g, w, o, ρ, S, .ex c fs, _, s, e1, fun g1 H1 x1 s1 C dd vs hc hd rf => q g1 o H1 x1.s σ C dd vs hc (s.ext x1 s1) hd rf⟩
/-- return e -/
def mRetX (m : MEX) : MX := fun ρ S => (m ρ S).bind fun r S1 => match r with
  | .rt d => .ok (.fl (.rt d)) S1
  | .ex c fs => .ok (.ex c fs ρ) S1
theorem xm_ret (he : EX X W e mx) : XM X W (.Return (some e) pos) (mRetX mx) := PS.of (ps_ret he) fun E σ H ⟨g, w, o, ρ, S, r, S', s, hm, q⟩ => by
  obtain ⟨r1, S1, e1, hm⟩ := R.bind_ok hm
  cases r1 with
  | rt d =>
    cases hm
    exact ⟨g, w, o, ρ, S, .rt d, _, s, e1, fun v g1 H1 x1 s1 r1 => q g1 o H1 x1.s v (s1.less fun b hb => List.mem_append_left _ hb) (RelD.less (fun b hb => List.mem_append_left _ hb) _ _ r1)⟩
  | ex c fs =>
    cases hm
    exact ⟨g, w, o, ρ, S, .ex c fs, _, s, e1, fun g1 H1 x1 s1 C dd vs hc hd rf => q g1 o H1 x1.s σ C dd vs hc (s.ext x1 s1) hd rf⟩
end
end Mo
set_option maxRecDepth 100000
set_option maxHeartbeats 1000000
/-! Mo: try: .. except C as e: name = e.field. -/
namespace Mo
open PySem PySem.Spec PyProof.Rows L2
theorem relfs_at {K : PySem.W.Frag} {g f : List Addr} {H : Hp} {k : Str} {d : D} : ∀ {fs : List (Str × D)} {vs : List (Str × V)}, RelFs K g f H fs vs → fs.lookup k = some d → ∃ v, vs.lookup k = some v ∧ RelD K g f H d v
  | [], _, _, h => by cases h
  | (a, b) :: fs, [], ⟨h1, _⟩, _ => by cases h1
  | (a, b) :: fs, (a', b') :: vs, ⟨h1, h2⟩, h => by
    rw [List.map_cons, List.map_cons] at h1
    injection h1 with h1 h3
    obtain ⟨v, r, e, rv, rr⟩ := h2
    injection e with e1 e2
    dsimp only at h1 e1
    subst h1; subst e1
    rw [List.lookup_cons] at h ⊢
    cases q : k == a with
    | true =>
      rw [q] at h
      cases h
      exact ⟨_, rfl, rv⟩
    | false =>
      rw [q] at h
      subst e2
      exact relfs_at ⟨h3, rr⟩ h
def mTryF (mb : MX) (c : Str) (i j : Nat) (f : Str) : MS := fun ρ S => (mb ρ S).bind fun r S1 => match r with
  | .fl fl => .ok fl S1
  | .ex c' fs ρ1 => if c' = c ∧ i < ρ1.length then match fs.lookup f with
    | some d => .ok (.nx ((ρ1.set j (some (.val d))).set i none)) S1
    | none => .bad
    else .bad
section
variable {X : Cx} {C : Addr} {body : List Stmt} {mb : MX} {x n y f : Str} {i j : Nat} {np p1 p2 p3 p4 pos pos' : Pos}
theorem sm_try_field (hs : X.stack = X.env :: X.outer) (hf : X.env.frame = some X.env.locals) (hN : X.N.Nodup) (hi : X.N[i]? = some n) (hln : X.env.kindOf n = some .local) (hij : i ≠ j) (hj : X.N[j]? = some y) (hy : Loc X.env.scope y) (hyl : X.env.scope.names.lookup y = some .local) (hv : Vis X.env.scope n)
    (cm : X.mg x = some (.ref C)) (hc : Names X x (.ref C)) (T : XfC X.K C) (tyC : PySem.W.typeIn X.K (.ref C) = some (.type "type")) (self : PySem.W.subIn X.K (.ref C) (.ref C) = some true) (hno : PySem.W.findIn X.K (.ref C) f = some none)
    (hb : ∀ (W : WX) (pn : List (Addr × Obj)) (xe : Value → Shared → Prop), Takes (X.tr pn xe) W → XsM (X.tr pn xe) W body mb)
    (hd : (n == ("__debug__" : Str)) = false := by decide) (hcd : (n == ("__classdict__" : Str)) = false := by decide) :
    SM X (.Try body [.ExceptHandler (some (.Name x np)) (some n) [.Assign [.Name y p1] (.Attribute (.Name n p2) f p3) p4] pos'] [] [] pos) (mTryF mb x i j f) :=
  PS.of (ps_try_as (Wout := fun _ _ _ _ => False) (tb := fun W => tX X.K X.mg W mb) (ts := fun a cls d => tAsg (tXf a cls d C f (tVar i)) (gName j)) hs hf hN hi hln hc (fun u s' h => by
      obtain ⟨_, _, _, _, _, _, _, _, _, _, _, _, _, _, _, _, z⟩ := h
      exact z.elim)
    (fun W pn xe tk _ => hb W pn xe tk) (fun a oe cls d pn hz hf' => pss_one (ps_set (i := j) hN hj hy (pe_xf T hno hz hf' (pe_var (i := i) hi hv hd hcd)) (hf := .inr hyl)))) fun E σ H ⟨g, w, o, ρ, S, fl, S', s, hm, q⟩ => by
    obtain ⟨r1, S1, e1, hm⟩ := R.bind_ok hm
    cases r1 with
    | fl f1 =>
      cases hm
      exact ⟨g, w, o, ρ, S, _, _, s, e1, q⟩
    | ex c' fs ρ1 =>
      dsimp only at hm
      split at hm
      · rename_i hcc
        obtain ⟨hcx, hlen⟩ := hcc
        cases hl : fs.lookup f with
        | none => rw [hl] at hm; cases hm
        | some d =>
          rw [hl] at hm
          cases hm
          refine ⟨g, w, o, ρ, S, _, _, s, e1, fun g1 o1 H1 x1 σ1 C' dd vs hc' st hdd rf => ?_⟩
          rw [hcx, cm] at hc'
          cases hc'
          refine ⟨true, PySem.W.exm_ref T.exC T.hdC tyC self, fun _ a ha => ?_, fun z => nomatch z⟩
          obtain ⟨v, hv1, rv⟩ := relfs_at rf hl
          have hli : i < σ1.length := by rw [← st.len]; exact hlen
          refine ⟨.ref a, List.getElem?_set_self hli, rfl, rfl, dd, vs, v, rfl, hdd, hv1, ?_⟩
          have e2 : ((σ1.set i (some (.ref a))).set j (some v)).set i none = (σ1.set j (some v)).set i none := by
            rw [List.set_comm _ _ hij, List.set_set]
          show E.nx (((σ1.set i (some (.ref a))).set j (some v)).set i none) H1
          rw [e2]
          exact q g1 o1 H1 x1 _ (Sta.unset (st.set rv))
      · cases hm
end
end Mo
set_option maxRecDepth 100000
set_option maxHeartbeats 1000000
/-! Mo: the meanings of what may raise, as equations. -/
namespace Mo
open PySem PySem.Spec PyProof.Rows L2
@[simp] theorem mUp_eq (m : MS) (ρ : MEnv) (S : Store) : mUp m ρ S = (m ρ S).bind fun fl S1 => .ok (.fl fl) S1 := rfl
@[simp] theorem mSeqX_eq (m1 m2 : MX) (ρ : MEnv) (S : Store) : mSeqX m1 m2 ρ S = (m1 ρ S).bind fun r S1 => (match r with
  | .fl (.nx ρ1) => m2 ρ1 S1
  | r => .ok r S1) := rfl
@[simp] theorem mIfX_eq (mt : MT) (a b : MX) (ρ : MEnv) (S : Store) : mIfX mt a b ρ S = (mt ρ S).bind fun k S1 => if k = true then a ρ S1 else b ρ S1 := rfl
@[simp] theorem mRaise1_eq (c f : Str) (me : ME) (ρ : MEnv) (S : Store) : mRaise1 c f me ρ S = (me ρ S).bind fun d S1 => .ok (.ex c [(f, d)] ρ) S1 := rfl
theorem mDefX_eq (n : Nat) (b : MX) (ds : List D) (S : Store) : mDefX n b ds S = (b (ds.map (fun d => some (.val d)) ++ List.replicate (n - ds.length) none) S).bind fun r S1 => (match r with
  | .fl (.rt d) => .ok (.rt d) S1
  | .fl (.nx _) => .ok (.rt .non) S1
  | .ex c fs _ => .ok (.ex c fs) S1
  | _ => .bad) := rfl
theorem mNo_eq (m : MFX) (ds : List D) (S : Store) : mNo m ds S = (m ds S).bind fun r S1 => (match r with
  | .rt d => .ok d S1
  | .ex _ _ => .bad) := rfl
@[simp] theorem mCallX_eq (m : MFX) (n : Nat) (dv : List D) (l : MA) (ρ : MEnv) (S : Store) : mCallX m n dv l ρ S = (l ρ S).bind fun ds S1 => if (ds ++ dv).length = n then m (ds ++ dv) S1 else .bad := rfl
@[simp] theorem mDropX_eq (m : MEX) (ρ : MEnv) (S : Store) : mDropX m ρ S = (m ρ S).bind fun r S1 => (match r with
  | .rt _ => .ok (.fl (.nx ρ)) S1
  | .ex c fs => .ok (.ex c fs ρ) S1) := rfl
@[simp] theorem mSetX_eq (j : Nat) (m : MEX) (ρ : MEnv) (S : Store) : mSetX j m ρ S = (m ρ S).bind fun r S1 => (match r with
  | .rt d => .ok (.fl (.nx (ρ.set j (some (.val d))))) S1
  | .ex c fs => .ok (.ex c fs ρ) S1) := rfl
@[simp] theorem mRetX_eq (m : MEX) (ρ : MEnv) (S : Store) : mRetX m ρ S = (m ρ S).bind fun r S1 => (match r with
  | .rt d => .ok (.fl (.rt d)) S1
  | .ex c fs => .ok (.ex c fs ρ) S1) := rfl
@[simp] theorem mTryF_eq (mb : MX) (c : Str) (i j : Nat) (f : Str) (ρ : MEnv) (S : Store) : mTryF mb c i j f ρ S = (mb ρ S).bind fun r S1 => (match r with
  | .fl fl => .ok fl S1
  | .ex c' fs ρ1 => if c' = c ∧ i < ρ1.length then match fs.lookup f with
    | some d => .ok (.nx ((ρ1.set j (some (.val d))).set i none)) S1
    | none => .bad
    else .bad) := rfl
end Mo
set_option maxRecDepth 100000
set_option maxHeartbeats 1000000
/-! Mo: comprehensions of two fors. -/
namespace Mo
open PySem PySem.Spec PyProof.Rows L2
def mLcL2 (p : Pat) (mt : MT) (ml1 : ML) (p1 : Pat) (vs1 : List Nat) (mt1 : MT) (me : ME) : List D → MEnv → Store → R (List D)
  | [], _, S => .ok [] S
  | d :: ds, ρ, S => match p.bind d with
    | none => .bad
    | some l => (mt (setD ρ l) S).bind fun k S1 => if k = true then (ml1 (setD ρ l) S1).bind fun l1 S2 => (mLcL p1 mt1 me l1 (wipeM (setD ρ l) vs1) S2).bind fun r1 S3 => (mLcL2 p mt ml1 p1 vs1 mt1 me ds ρ S3).bind fun r S4 => .ok (r1 ++ r) S4
      else mLcL2 p mt ml1 p1 vs1 mt1 me ds ρ S1
/-- [e for p in it if t for p1 in it1 if t1] -/
def mLc2 (it : ML) (p : Pat) (vs : List Nat) (mt : MT) (it1 : ML) (p1 : Pat) (vs1 : List Nat) (mt1 : MT) (me : ME) : ML := fun ρ S => (it ρ S).bind fun l S1 => (mLcL2 p mt it1 p1 vs1 mt1 me l (wipeM ρ vs) S1).bind fun r S2 => if r.length ≤ sizeLine then .ok r S2 else .bad
theorem ext_appD {g1 g5 : List Addr} {H1 H5 : Hp} {D : Addr} {u : HO} (hD : H1 D = none) (xx : Ext g1 H1 g5 H5) (mD : Mut (H5 D)) : Ext g1 H1 g5 (upd H5 D u) := by
  refine ⟨xx.more, fun a u e hn => ?_, fun a h => ?_, fun a vs h => ?_, fun a o u h => ?_⟩
  · have : a ≠ D := fun z => by subst z; rw [hD] at e; cases e
    rw [upd_ne this]; exact xx.keep a u e hn
  · by_cases z : a = D
    · subst z; rw [upd_same]; simp
    · rw [upd_ne z]; exact xx.live a h
  · have h' := xx.tups a vs h
    exact Rd.upd (Rd.mut (v := .tup vs) mD (fun z => z) h') h'
  · have h' := xx.frz a o u h
    have : a ≠ D := fun z => by subst z; rw [h'] at mD; exact mD
    rw [upd_ne this]; exact h'
theorem wipeM_own {ρ : MEnv} {i : Nat} {c : Cell} : ∀ {vs : List Nat}, (wipeM ρ vs)[i]? = some (some (Slot.own c)) → ρ[i]? = some (some (Slot.own c)) ∧ i ∉ vs
  | [], h => ⟨h, by simp⟩
  | v :: vs, h => by
    unfold wipeM at h
    by_cases hv : v = i
    · subst hv
      have hl : v < (wipeM ρ vs).length := by have := lt_of_get h; simpa using this
      rw [List.getElem?_set_self hl] at h; cases h
    · rw [List.getElem?_set_ne hv] at h
      obtain ⟨h1, h2⟩ := wipeM_own h
      exact ⟨h1, by simp only [List.mem_cons, not_or]; exact ⟨fun e => hv e.symm, h2⟩⟩
theorem setD_own {i : Nat} {c : Cell} : ∀ {l : List (Nat × D)} {ρ : MEnv}, (setD ρ l)[i]? = some (some (Slot.own c)) → ρ[i]? = some (some (Slot.own c)) ∧ i ∉ l.map (·.1)
  | [], ρ, h => ⟨h, by simp⟩
  | (j, x) :: l, ρ, h => by
    obtain ⟨h1, h2⟩ := setD_own (l := l) (ρ := ρ.set j (some (.val x))) h
    by_cases hv : j = i
    · subst hv
      have hl : j < ρ.length := by have := lt_of_get h1; simpa using this
      rw [List.getElem?_set_self hl] at h1; cases h1
    · rw [List.getElem?_set_ne hv] at h1
      exact ⟨h1, by simp only [List.map_cons, List.mem_cons, not_or]; exact ⟨fun e => hv e.symm, h2⟩⟩
section
variable {X : Cx} {tg iter tg1 iter1 elt : Expr} {ifs ifs1 : List Expr} {p p1 : Pat} {pos : Pos} {ml ml1 : ML} {mt mt1 : MT} {me : ME}
theorem lc2_of {vs vs1 : List Nat} {σ : L2.St} {H : Hp} {Q : VK} (hv : ∀ i ∈ p.ixs, i ∈ vs) (hv1 : ∀ i ∈ p1.ixs, i ∈ vs1) (q : tN X.K (mLc2 ml p vs mt ml1 p1 vs1 mt1 me) σ H Q) :
    tLc2 (tI X.K ml) (tG X.K p) (tM X.K mt) (tI X.K ml1) (tG X.K p1) (tM X.K mt1) (tE X.K me) vs vs1 σ H Q := by
  obtain ⟨g, w, o, ρ, S, res, S', s, hm, q⟩ := q
  obtain ⟨l, S1, h1, hm⟩ := R.bind_ok hm
  obtain ⟨r, S2, h2, hm⟩ := R.bind_ok hm
  have hz : r.length ≤ sizeLine := by
    split at hm
    · assumption
    · cases hm
  rw [if_pos hz] at hm
  cases hm
  refine ⟨g, w, o, ρ, S, l, S1, s, h1, fun g1 H1 J x1 s1 wk D hD => ?_⟩
  have st1 : Sta X.K g1 w o ρ S1 σ H1 := s.ext x1 s1
  have hHD : H D = none := by
    cases e : H D with
    | none => rfl
    | some u => exact absurd hD (x1.live D (by rw [e]; simp))
  have ea : w ++ (o ++ [D]) = (w ++ o) ++ [D] := (List.append_assoc w o [D]).symm
  have fD : D ∈ w ++ (o ++ [D]) := by simp
  have noOwn : ∀ (i : Nat) (c : Cell), (wipeM ρ vs)[i]? = some (some (Slot.own c)) → (wipe σ vs)[i]? ≠ some (some (V.ref D)) := fun i c h e => by
    obtain ⟨a, e1, m, _⟩ := (st1.wipe vs).own i c h
    rw [e] at e1; cases e1
    exact st1.liv D (List.mem_append_right _ m) hD
  have st2 : Sta X.K g1 w (o ++ [D]) (wipeM ρ vs) S1 (wipe σ vs) (upd H1 D (.lst [])) := by
    have a := st1.wipe vs
    refine ⟨a.len, fun i d h => ?_, fun i c h => ?_, a.inj, fun b m => ?_, fun b m => ?_, ?_⟩
    · obtain ⟨v, e1, r1⟩ := a.val i d h
      exact ⟨v, e1, by rw [ea]; exact RelD.ext (.new hD) d v (RelD.fresh hD d v r1)⟩
    · obtain ⟨b, e1, m, r1⟩ := a.own i c h
      exact ⟨b, e1, List.mem_append_left _ m, by rw [ea]; exact (r1.fresh hD).new hD⟩
    · rcases List.mem_append.mp m with m | m
      · exact a.out b m
      · rw [List.mem_singleton.mp m]
        exact ⟨s1.noG hD, fun z => st1.noF hD (List.mem_append_left _ z)⟩
    · rw [ea] at m
      by_cases e : b = D
      · subst e; rw [upd_same]; simp
      · rw [upd_ne e]
        rcases List.mem_append.mp m with m | m
        · exact a.liv b m
        · exact absurd (List.mem_singleton.mp m) e
    · rw [ea]; exact (s1.fresh hD).new hD
  refine ⟨fun i m H2 => m = l.length - i ∧ i ≤ l.length ∧ ∃ g2 S2 acc accD rest, Ext g1 H1 g2 H2 ∧ Sta X.K g2 w (o ++ [D]) (wipeM ρ vs) S2 (wipe σ vs) H2 ∧ H2 D = some (.lst acc) ∧ RelDs X.K g2 (w ++ (o ++ [D])) H2 accD acc ∧
      mLcL2 p mt ml1 p1 vs1 mt1 me (l.drop i) (wipeM ρ vs) S2 = .ok rest S' ∧ res = accD ++ rest,
    ⟨l.length, by simp, Nat.zero_le _, g1, S1, [], [], res, .new hD, st2, upd_same, rfl, by simpa using h2, rfl⟩, ?_⟩
  rintro i m H2 ⟨rfl, hi, g2, S2, acc, accD, rest, x2, s2, hacc, racc, hm, he⟩
  have xs : ExtS g1 o H1 g2 (o ++ [D]) H2 := .own x2 hD
  by_cases hlt : i < l.length
  · have hdr : l.drop i = l[i] :: l.drop (i + 1) := List.drop_eq_getElem_cons hlt
    obtain ⟨go, yl⟩ := wk.item i l[i] g2 (o ++ [D]) H2 (List.getElem?_eq_getElem hlt) xs
    rw [hdr] at hm
    unfold mLcL2 at hm
    split at hm
    · cases hm
    rename_i bl hbl
    obtain ⟨k, S3, h3, hm⟩ := R.bind_ok hm
    refine .inr ⟨go, fun H3 => ∃ g3 S3 acc accD rest, Ext g1 H1 g3 H3 ∧ Sta X.K g3 w (o ++ [D]) (wipeM ρ vs) S3 (wipe σ vs) H3 ∧ H3 D = some (.lst acc) ∧ RelDs X.K g3 (w ++ (o ++ [D])) H3 accD acc ∧
      mLcL2 p mt ml1 p1 vs1 mt1 me (l.drop (i + 1)) (wipeM ρ vs) S3 = .ok rest S' ∧ res = accD ++ rest, fun H' n => ⟨l.length - (i + 1), by omega, rfl, hlt, n⟩, fun x H3 hy => ?_⟩
    obtain ⟨⟨x3, t3⟩, rx⟩ := yl x H3 hy
    have s3 := s2.ext x3 (t3 _ _ s2.sto)
    have racc3 := RelDs.ext x3 _ _ racc
    have nD : D ∉ g2 := (s2.out D (by simp)).1
    have hacc3 : H3 D = some (.lst acc) := x3.keep D _ hacc nD
    refine ⟨g2, w ++ (o ++ [D]), l[i], bl, rx, hbl, fun us ru => ⟨wipe_setV fun j hj => ?_, ?_⟩⟩
    · rw [ru.fst, p.bind_ixs _ _ hbl] at hj
      exact hv j hj
    have sA := s3.setA ru
    refine ⟨g2, w, o ++ [D], _, S2, k, S3, sA, h3, fun g4 H4 x4 s4 => ?_⟩
    have st4 := s3.ext x4 s4
    have racc4 := RelDs.ext x4 _ _ racc3
    have hacc4 : H4 D = some (.lst acc) := x4.keep D _ hacc3 nD
    have nD4 : D ∉ g4 := (st4.out D (by simp)).1
    have x14 := (x2.trans x3).trans x4
    cases k with
    | false =>
      rw [if_neg Bool.false_ne_true] at hm
      exact iteF ⟨g4, S3, acc, accD, rest, x14, st4, hacc4, racc4, hm, he⟩
    | true =>
      rw [if_pos rfl] at hm
      obtain ⟨l1, S4, h4, hm⟩ := R.bind_ok hm
      obtain ⟨r1, S5, h5, hm⟩ := R.bind_ok hm
      obtain ⟨rest6, S6, h6, hm⟩ := R.bind_ok hm
      cases hm
      have sA4 := sA.ext x4 s4
      refine iteT ⟨g4, w, o ++ [D], _, S3, l1, S4, sA4, h4, fun g5 H5 J1 x5 s5 wk1 => ?_⟩
      have st5 := st4.ext x5 s5
      have sA5 := sA4.ext x5 s5
      have nD5 : D ∉ g5 := (st5.out D (by simp)).1
      have hacc5 : H5 D = some (.lst acc) := x5.keep D _ hacc4 nD4
      have racc5 := RelDs.ext x5 _ _ racc4
      have x15 := x14.trans x5
      have sW5 := sA5.wipe vs1
      have noOwn1 : ∀ (i : Nat) (c : Cell), (wipeM (setD (wipeM ρ vs) bl) vs1)[i]? = some (some (Slot.own c)) → (wipe (setV (wipe σ vs) us) vs1)[i]? ≠ some (some (V.ref D)) := fun i c h => by
        obtain ⟨q1, q2⟩ := wipeM_own h
        obtain ⟨q3, q4⟩ := setD_own q1
        rw [wipe_get, if_neg q2, setV_get _ _ _ (by rw [ru.fst]; exact q4)]
        exact noOwn i c q3
      refine ⟨fun j k H6 => k = l1.length - j ∧ j ≤ l1.length ∧ ∃ g6 S6 acc accD rest1, Ext g1 H1 g6 H6 ∧ ExtS g5 (o ++ [D]) H5 g6 (o ++ [D]) H6 ∧ Sta X.K g6 w (o ++ [D]) (wipeM ρ vs) S6 (wipe σ vs) H6 ∧ Sta X.K g6 w (o ++ [D]) (wipeM (setD (wipeM ρ vs) bl) vs1) S6 (wipe (setV (wipe σ vs) us) vs1) H6 ∧
        H6 D = some (.lst acc) ∧ RelDs X.K g6 (w ++ (o ++ [D])) H6 accD acc ∧ mLcL p1 mt1 me (l1.drop j) (wipeM (setD (wipeM ρ vs) bl) vs1) S6 = .ok rest1 S5 ∧ res = accD ++ (rest1 ++ rest6),
        ⟨l1.length, by simp, Nat.zero_le _, g5, S4, acc, accD, r1, x15, .refl, st5, sW5, hacc5, racc5, by simpa using h5, he⟩, ?_⟩
      rintro j k1 H6 ⟨rfl, hj, g6, S6', acc6, accD6, rest1, x6, y6, s6, t6, hacc6, racc6, hm6, he6⟩
      by_cases hl1 : j < l1.length
      · have hdr1 : l1.drop j = l1[j] :: l1.drop (j + 1) := List.drop_eq_getElem_cons hl1
        obtain ⟨go1, yl1⟩ := wk1.item j l1[j] g6 (o ++ [D]) H6 (List.getElem?_eq_getElem hl1) y6
        rw [hdr1] at hm6
        unfold mLcL at hm6
        split at hm6
        · cases hm6
        rename_i bl1 hbl1
        obtain ⟨k7, S7, h7, hm6⟩ := R.bind_ok hm6
        refine .inr ⟨go1, fun H7 => ∃ g7 S7 acc accD rest1, Ext g1 H1 g7 H7 ∧ ExtS g5 (o ++ [D]) H5 g7 (o ++ [D]) H7 ∧ Sta X.K g7 w (o ++ [D]) (wipeM ρ vs) S7 (wipe σ vs) H7 ∧ Sta X.K g7 w (o ++ [D]) (wipeM (setD (wipeM ρ vs) bl) vs1) S7 (wipe (setV (wipe σ vs) us) vs1) H7 ∧
          H7 D = some (.lst acc) ∧ RelDs X.K g7 (w ++ (o ++ [D])) H7 accD acc ∧ mLcL p1 mt1 me (l1.drop (j + 1)) (wipeM (setD (wipeM ρ vs) bl) vs1) S7 = .ok rest1 S5 ∧ res = accD ++ (rest1 ++ rest6), fun H' n => ⟨l1.length - (j + 1), by omega, rfl, hl1, n⟩, fun x H7 hy7 => ?_⟩
        obtain ⟨⟨x7, t7⟩, rx7⟩ := yl1 x H7 hy7
        have s7 := s6.ext x7 (t7 _ _ s6.sto)
        have u7 := t6.ext x7 (t7 _ _ s6.sto)
        have racc7 := RelDs.ext x7 _ _ racc6
        have nD6 : D ∉ g6 := (s6.out D (by simp)).1
        have hacc7 : H7 D = some (.lst acc6) := x7.keep D _ hacc6 nD6
        refine ⟨g6, w ++ (o ++ [D]), l1[j], bl1, rx7, hbl1, fun us1 ru1 => ⟨wipe_setV fun j hj => ?_, ?_⟩⟩
        · rw [ru1.fst, p1.bind_ixs _ _ hbl1] at hj
          exact hv1 j hj
        refine ⟨g6, w, o ++ [D], _, S6', k7, S7, u7.setA ru1, h7, fun g8 H8 x8 s8 => ?_⟩
        have st8 := s7.ext x8 s8
        have ut8 := u7.ext x8 s8
        have racc8 := RelDs.ext x8 _ _ racc7
        have hacc8 : H8 D = some (.lst acc6) := x8.keep D _ hacc7 nD6
        have nD8 : D ∉ g8 := (st8.out D (by simp)).1
        have x18 := (x6.trans x7).trans x8
        have y18 := (y6.trans x7.s).trans x8.s
        cases k7 with
        | false =>
          rw [if_neg Bool.false_ne_true] at hm6
          exact iteF ⟨g8, S7, acc6, accD6, rest1, x18, y18, st8, ut8, hacc8, racc8, hm6, he6⟩
        | true =>
          rw [if_pos rfl] at hm6
          obtain ⟨y, S9, h9, hm6⟩ := R.bind_ok hm6
          obtain ⟨rest9, S10, h10, hm6⟩ := R.bind_ok hm6
          cases hm6
          refine iteT ⟨g8, w, o ++ [D], _, S7, y, S9, (u7.setA ru1).ext x8 s8, h9, fun v g9 H9 x9 s9 r9 => ?_⟩
          have st9 := st8.ext x9 s9
          have ut9 := ut8.ext x9 s9
          have hacc9 : H9 D = some (.lst acc6) := x9.keep D _ hacc8 nD8
          have nD9 : D ∉ g9 := (st9.out D (by simp)).1
          have racc9 := RelDs.ext x9 _ _ racc8
          have mD : Mut (H9 D) := by rw [hacc9]; trivial
          refine ⟨acc6, hacc9, ?_, g9, S9, acc6 ++ [v], accD6 ++ [y], rest9, ext_appD hD (x18.trans x9) mD, (y18.trans x9.s).trans (.updO mD (by simp)), st9.updF mD fD nD9 noOwn, ut9.updF mD fD nD9 noOwn1, upd_same,
            RelDs.upd mD (.inl fD) _ _ (RelDs.append racc9 ⟨v, [], rfl, r9, rfl⟩), h10, by rw [he6, List.append_assoc]; rfl⟩
          have : accD6.length = acc6.length := racc6.length
          rw [he6, List.length_append, List.length_append, List.length_cons] at hz
          omega
      · have e : j = l1.length := by omega
        subst e
        rw [List.drop_length] at hm6
        cases hm6
        exact .inl ⟨wk1.stop _ g6 (o ++ [D]) H6 (Nat.le_refl _) y6, g6, S5, acc6, accD6, rest6, x6, s6, hacc6, racc6, h6, by rw [he6, List.nil_append]⟩
  · have e : i = l.length := by omega
    subst e
    rw [List.drop_length] at hm
    cases hm
    rw [List.append_nil] at he
    subst he
    refine .inl ⟨wk.stop _ g2 (o ++ [D]) H2 (Nat.le_refl _) xs, ?_⟩
    refine q D acc g2 H2 (x1.trans x2) hHD (s2.out D (by simp)).1 hacc ?_ ?_
    · rw [← ea]; exact s2.sto
    · rw [← ea]; exact racc
theorem nm_lc2 {scope : Scope} {own : List (Str × Nat)} {vs1 : List Nat} (hc : X.calm = true) (hN : X.N.Nodup) (hi : IM X tg iter ml) (ok : BlkOk X.N X.env.scope scope own) (hv : ∀ i ∈ p.ixs, i ∈ own.map (·.2)) (hv1 : ∀ i ∈ p1.ixs, i ∈ vs1) (hvv : ∀ i ∈ vs1, i ∈ own.map (·.2))
    (hg : ∀ (s : Shared) (H : Hp) (C : Addr) (cl : List (Str × Addr)) (fp : List Addr), GM (X.blk s H scope (compEnvC scope cl C X.env) fp) tg p)
    (ht : ∀ (s : Shared) (H : Hp) (C : Addr) (cl : List (Str × Addr)) (fp : List Addr), TsM (X.blk s H scope (compEnvC scope cl C X.env) fp) ifs mt)
    (hi1 : ∀ (s : Shared) (H : Hp) (C : Addr) (cl : List (Str × Addr)) (fp : List Addr), IM (X.blk s H scope (compEnvC scope cl C X.env) fp) tg1 iter1 ml1)
    (hg1 : ∀ (s : Shared) (H : Hp) (C : Addr) (cl : List (Str × Addr)) (fp : List Addr), GM (X.blk s H scope (compEnvC scope cl C X.env) fp) tg1 p1)
    (ht1 : ∀ (s : Shared) (H : Hp) (C : Addr) (cl : List (Str × Addr)) (fp : List Addr), TsM (X.blk s H scope (compEnvC scope cl C X.env) fp) ifs1 mt1)
    (he : ∀ (s : Shared) (H : Hp) (C : Addr) (cl : List (Str × Addr)) (fp : List Addr), EM (X.blk s H scope (compEnvC scope cl C X.env) fp) elt me) (hs : ∀ x, foldedSetIterable iter X.env x = pure x := by intro _; rfl) (hs1 : ∀ env x, foldedSetIterable iter1 env x = pure x := by intro _ _; rfl) :
    NM X (.ListComp elt [⟨tg, iter, ifs, 0⟩, ⟨tg1, iter1, ifs1, 0⟩] scope pos) (mLc2 ml p (own.map (·.2)) mt ml1 p1 vs1 mt1 me) :=
  PE.of (pe_lc2 (wi1 := tI X.K ml1) (g := tG X.K p) (tt := tM X.K mt) (g1 := tG X.K p1) (tt1 := tM X.K mt1) (te := tE X.K me) hc hN hi ok hvv hg ht hi1 hg1 ht1 he hs hs1) fun σ H Q q => lc2_of hv hv1 q
end
@[simp] theorem mLc2_eq (it : ML) (p : Pat) (vs : List Nat) (mt : MT) (it1 : ML) (p1 : Pat) (vs1 : List Nat) (mt1 : MT) (me : ME) (ρ : MEnv) (S : Store) : mLc2 it p vs mt it1 p1 vs1 mt1 me ρ S = (it ρ S).bind fun l S1 => (mLcL2 p mt it1 p1 vs1 mt1 me l (wipeM ρ vs) S1).bind fun r S2 => if r.length ≤ sizeLine then .ok r S2 else .bad := rfl
end Mo
set_option maxRecDepth 100000
set_option maxHeartbeats 1000000
/-! Mo: an own class of exceptions with one field, as one fact; calls with a default lacking of what may raise. -/
namespace Mo
open PySem PySem.Spec PyProof.Rows L2
/-- class x, an exception whose __init__ keeps its one part as field f -/
structure ExC1 (P : Program) (w : World) (K : PySem.W.Frag) (mg : Str → Option Value) (base : Heap) (k : Nat) (x f : Str) (C : Addr) : Prop where
  at_ : mg x = some (.ref C)
  ox : OexC K C
  xf : XfC K C
  ini : ∃ fI fd ps, PySem.W.findIn K (.ref C) "__init__" = some (some (.ref fI)) ∧ PySem.W.typeIn K (.ref fI) = some (.type "function") ∧ FnOk P w K mg base CX0 k fI fd ps (spInit1 C f) ∧ Binds K fd ps []
  self : PySem.W.subIn K (.ref C) (.ref C) = some true
  no : PySem.W.findIn K (.ref C) f = some none
section
variable {X : Cx} {W : WX} {e : Expr} {es : List Expr} {me : ME} {p pos pos2 : Pos} {x f : Str} {C : Addr} {k n : Nat}
theorem xm_raiseC (R : ExC1 X.prog X.w X.K X.mg X.base k x f C) (tk : Takes X W) (hc : X.calm = true) (hr : Room (k + 1) X.A) (hg : Gl X x) (he : EM X e me)
    (hdb : (x == ("__debug__" : Str)) = false := by decide) (hs : starEach [e] X.env = (false, eval e X.env) :: starEach [] X.env := by rfl) (hpl : (backTo pos (starEach [] X.env)).any (·.1) = false := by rfl) :
    XM X W (.Raise (some (.Call (.Name x p) [e] [] pos)) none pos2) (mRaise1 x f me) := by
  obtain ⟨fI, fd, ps, h1, h2, h3, h4⟩ := R.ini
  exact xm_raise1 hc tk R.ox h1 h2 h3 hr h4 pass0 hg R.at_ he hdb hs hpl
/-- x(e, ..), the last parameter by its default -/
theorem ex_callP {m : MFX} {a : Addr} {fd : FuncData} {ps : List Str} {np : Nat} {ix : List Nat} {dv : List D} {l : MA} (at_ : X.mg x = some (.ref a)) (kp : PySem.W.keepIn X.K (.ref a) = true) (F : FnG X.prog X.w X.K X.mg X.base (L2.CX X.prog X.w) k a fd ps (spX X.K X.mg n m)) (B : MixD X.K fd ps [] np ix dv)
    (hix : ∀ us : List Value, us.length = np → pickIx ix us [] = us) (hn : np + dv.length = ps.length) (tk : Takes X W) (hgd : X.A.guards = some []) (hr : Room k X.A) (hg : Gl X x) (ha : AM X (e :: es) l) (hdb : (x == ("__debug__" : Str)) = false := by decide)
    (he : starEach (e :: es) X.env = (false, eval e X.env) :: starEach es X.env := by rfl) (hpl : (backTo pos (starEach es X.env)).any (·.1) = false := by rfl) : EX X W (.Call (.Name x p) (e :: es) [] pos) (mCallX m n dv l) := by
  obtain ⟨dvs, dws, hv, hdd, hb⟩ := B.ex
  have hlen : dv.length = dws.length := by
    have := (hdd X.K [] [] (fun _ => none)).length
    rw [this, hv.length]
  refine ex_call tk F hgd hr hg at_ kp (dvs := dvs) (dws := dws) (fun s us I hl => ?_) hv hdd ha hdb he hpl
  have hu : us.length = np := by
    rw [List.length_append] at hl
    omega
  have := hb s us [] I hu rfl
  have e1 := hix us hu
  rw [e1] at this
  exact this
end
section
variable {X : Cx} {C : Addr} {k : Nat} {body : List Stmt} {mb : MX} {x n y f : Str} {i j : Nat} {np p1 p2 p3 p4 pos pos' : Pos}
theorem sm_tryC (R : ExC1 X.prog X.w X.K X.mg X.base k x f C) (hN : X.N.Nodup) (hs : X.stack = X.env :: X.outer) (hf : X.env.frame = some X.env.locals) (hi : X.N[i]? = some n) (hln : X.env.kindOf n = some .local) (hij : i ≠ j) (hj : X.N[j]? = some y) (hy : Loc X.env.scope y) (hyl : X.env.scope.names.lookup y = some .local) (hv : Vis X.env.scope n)
    (hg : Gl X x) (hdx : (x == ("__debug__" : Str)) = false)
    (hb : ∀ (W : WX) (pn : List (Addr × Obj)) (xe : Value → Shared → Prop), Takes (X.tr pn xe) W → XsM (X.tr pn xe) W body mb)
    (hd : (n == ("__debug__" : Str)) = false := by decide) (hcd : (n == ("__classdict__" : Str)) = false := by decide) :
    SM X (.Try body [.ExceptHandler (some (.Name x np)) (some n) [.Assign [.Name y p1] (.Attribute (.Name n p2) f p3) p4] pos'] [] [] pos) (mTryF mb x i j f) :=
  sm_try_field hs hf hN hi hln hij hj hy hyl hv R.at_ ⟨hg, hdx, .inl R.at_⟩ R.xf R.ox.tyC R.self R.no hb hd hcd
end
end Mo
namespace Mo
open PySem PySem.Spec PyProof.Rows L2
/-- a def of the module that may raise -/
structure OwnX (P : Program) (w : World) (K : PySem.W.Frag) (mg : Str → Option Value) (base : Heap) (k n : Nat) (x : Str) (ps : List Str) (a : Addr) (fd : FuncData) (m : MFX) : Prop where
  at_ : mg x = some (.ref a)
  kp : PySem.W.keepIn K (.ref a) = true
  ok : FnG P w K mg base (L2.CX P w) k a fd ps (spX K mg n m)
theorem OwnX.no {P : Program} {w : World} {K : PySem.W.Frag} {mg : Str → Option Value} {base : Heap} {k n : Nat} {x : Str} {ps : List Str} {a : Addr} {fd : FuncData} {m : MFX} (C : OwnX P w K mg base k n x ps a fd m) (hn : n = ps.length) : Own P w K mg base k n x ps a fd (mNo m) := ⟨C.at_, C.kp, C.ok.no hn⟩
end Mo
namespace Mo
open PySem PySem.Spec PyProof.Rows L2
def clsBody : Stmt → List Stmt
  | .ClassDef _ _ _ b _ _ _ _ _ _ _ => b
  | _ => []
end Mo
set_option maxRecDepth 100000
set_option maxHeartbeats 4000000
namespace Pm
open PySem PySem.Spec PyProof.Rows L2 Mo
def b_p_is_run : MS :=
    (mRet (mAnd (mCall m_p_is_pair 1 [] (aCons (mVar 0) aNil)) (m2 gLe (m2 gIx (mVar 0) (mC (.int 0))) (m2 gIx (mVar 0) (mC (.int 1))))))
def m_p_is_run : MF := mDef 1 b_p_is_run

def e_p_is_lot_1 : ME :=
    (mCall m_p_is_run 1 [] (aCons (mVar 1) aNil))
def e_p_is_lot_2 : ME :=
    (m2 gLt (m2 gAddI (m2 gIx (mVar 2) (mC (.int 1))) (mC (.int 1))) (m2 gIx (mVar 3) (mC (.int 0))))
def b_p_is_lot : MS :=
    (mSeq (mIf (mOrT (mNotT (mB (mA hIsi (aCons (mVar 0) (aCons (mC (.raw (.ty "tuple"))) aNil))))) (mNotT (mB (mQ hAll (mLc (iSeq (mVar 0)) (.nm 1) [1] mYes e_p_is_lot_1))))) (mRet (mC (.bl false))) mNil)
    (mRet (mQ hAll (mLc (iZip (aCons (mVar 0) (aCons (mSlT (mVar 0) (oSome (mC (.int 1))) oNone) aNil))) (.tp [(.nm 2), (.nm 3)]) [2, 3] mYes e_p_is_lot_2))))
def m_p_is_lot : MF := mDef 4 b_p_is_lot

def e_p_size_1 : ME :=
    (m2 gAddI (m2 gSubI (mVar 2) (mVar 1)) (mC (.int 1)))
def b_p_size : MS :=
    (mRet (mQ hSum (mLc (iSeq (mVar 0)) (.tp [(.nm 1), (.nm 2)]) [1, 2] mYes e_p_size_1)))
def m_p_size : MF := mDef 3 b_p_size

def b_p_joined : MS :=
    (mSeq (mIf (mOrT (mB (m2 gEqA (mVar 0) (mTup aNil))) (mB (m2 gEqA (mVar 1) (mTup aNil)))) (mRet (m2 gCatT (mVar 0) (mVar 1))) mNil)
    (mRet (mCall m_p_knitted 1 [] (aCons (mLst (mVL (hSortedB false) (m2 gCatT (mVar 0) (mCall m_p_without 2 [] (aCons (mVar 1) (aCons (mVar 0) aNil)))))) aNil))))
def m_p_joined : MF := mDef 2 b_p_joined

def b_p_is_within : MS :=
    (mRet (m2 gEqA (mCall m_p_without 2 [] (aCons (mVar 0) (aCons (mVar 1) aNil))) (mTup aNil)))
def m_p_is_within : MF := mDef 2 b_p_is_within

def b_p_picked_1 : MS :=
    (mSeq (mSet 6 (mA hMin2 (aCons (m2 gAddI (mVar 4) (mVar 2)) (aCons (m2 gAddI (mVar 5) (mC (.int 1))) aNil))))
    (mSeq (mSet 7 (mA hMin2 (aCons (mVar 5) (aCons (m2 gSubI (m2 gAddI (mVar 6) (mVar 1)) (mC (.int 1))) aNil))))
    (mSeq (mAug 2 (fun i j => i - j) (m2 gSubI (mVar 6) (mVar 4)))
    (mSeq (mAug 1 (fun i j => i - j) (m2 gAddI (m2 gSubI (mVar 7) (mVar 6)) (mC (.int 1))))
    (mIf (mB (m2 gLe (mVar 6) (mVar 7))) (mApp 3 (mTup (aCons (mVar 6) (aCons (mVar 7) aNil)))) mNil)))))
def b_p_picked : MS :=
    (mSeq (mOwnL 3 (mDisp aNil))
    (mSeq (mFor (.tp [(.nm 4), (.nm 5)]) (iSeq (mVar 0))
    b_p_picked_1)
    (mRet (mQ hTup (qOwn 3)))))
def m_p_picked : MF := mDef 8 b_p_picked

def i_p_points_in_1 : ML :=
    (iRg2 (aCons (mVar 3) (aCons (m2 gAddI (mVar 4) (mC (.int 1))) aNil)))
def e_p_points_in_2 : ME :=
    (mVar 5)
def b_p_points_in : MX :=
    (mSeqX (mUp (mSet 2 (mCall m_p_size 1 [] (aCons (mVar 0) aNil))))
    (mSeqX (mIfX (mB (m2 gGt (mVar 2) (mVar 1))) (mRaise1 "TooMany" "many" (mVar 2)) (mUp mNil))
    (mUp (mRet (mQ hTup (mLc2 (iSeq (mVar 0)) (.tp [(.nm 3), (.nm 4)]) [3, 4, 5] mYes i_p_points_in_1 (.nm 5) [5] mYes e_p_points_in_2))))))
def m_p_points_in : MFX := mDefX 6 b_p_points_in

end Pm
set_option maxRecDepth 100000
set_option maxHeartbeats 1000000
/-! Mo: sorted(set(tuple of numbers)); sorted(dict of numbers), of any size. -/
namespace PySem.W
open PySem PySem.Spec PySem.Calls PyProof.Rows PyProof.V
section
variable {prog : Program} {w : World} {A : Around} {E : Value → Shared → Prop} {s : Shared}
theorem mo_each_ints : ∀ {vs : List Value} {ns : List Int}, IntsAre vs ns → EachIs (fun v (k : Int) => ∃ t, v = .int k t) vs ns
  | _, _, .nil => .nil
  | _, _, .cons n t hr => .cons ⟨t, rfl⟩ (mo_each_ints hr)
theorem mo_ints_each : ∀ {vs : List Value} {ns : List Int}, EachIs (fun v (k : Int) => ∃ t, v = .int k t) vs ns → IntsAre vs ns
  | _, _, .nil => .nil
  | _, _, .cons ⟨t, e⟩ hr => by subst e; exact .cons _ t (mo_ints_each hr)
theorem mo_sorted_ints {l : Value} {Q : Value → Shared → Prop} (C : List Int → Shared → Prop) (hu : A.units + 8 < cLine)
    (hcol : ∀ (E' : Value → Shared → Prop) (Q' : List Value → Shared → Prop), (∀ vs ns s1, IntsAre vs ns → vs.length ≤ sizeLine → C ns s1 → Q' vs s1) → wpAny (model prog w) A.in1 (collect l) Q' E' s)
    (hQ : ∀ ns s1 vs out, C ns s1 → IntsAre vs ns → IntsAre out (ns.mergeSort (dataLe false PyData.int)) → Q (.ref s1.heap.objs.size) { s1 with heap := sortedHeap (s1.heap.push (seqObj "list" vs.toArray 0)) s1.heap.objs.size vs (List.toArray out) }) :
    wpAny (model prog w) A (call (.builtin "sorted") [l]) Q E s := by
  refine call_function_entry kind_sorted plain_sorted entry_sorted (args_sorted1 _) ?_
  unfold Builtin.«sorted»
  refine wpAny_bind (m := checkCount "sorted" 1 1 _) (wpAny_pure ?_)
  refine wpAny_bind (hcol _ _ fun vs ns s1 hi hL c => ?_)
  refine wpAny_bind (wpAny_newList ?_ hL)
  have at0 : (s1.heap.push (seqObj "list" vs.toArray 0)).get? s1.heap.objs.size = some (seqObj "list" vs.toArray 0) := Heap.get?_push_size _ rfl
  have er : ∀ h : Heap, EachIs (fun v (b : Int) => ∃ as, Reads h v (PyData.int b) as) vs ns := fun h => (mo_each_ints hi).mono fun v b ⟨t, e⟩ => by subst e; exact ⟨_, .int b t⟩
  have hal : AllAlike (ns.map PyData.int) := fun d hd d' hd' => by
    obtain ⟨a, _, rfl⟩ := List.mem_map.mp hd
    obtain ⟨b, _, rfl⟩ := List.mem_map.mp hd'
    rfl
  have hk : Sortable (ns.map PyData.int) := .inr fun d hd => by
    obtain ⟨a, _, rfl⟩ := List.mem_map.mp hd
    exact ⟨fun e => (nomatch e), fun xs e => (nomatch e)⟩
  have S : SortsAt prog w A.in1.in1 { s1 with heap := sortingHeap (s1.heap.push (seqObj "list" vs.toArray 0)) s1.heap.objs.size vs } (dataKind (sortingHeap (s1.heap.push (seqObj "list" vs.toArray 0)) s1.heap.objs.size vs) (ns.map PyData.int)) vs :=
    SortsAt.data (s := { s1 with heap := sortingHeap (s1.heap.push (seqObj "list" vs.toArray 0)) s1.heap.objs.size vs }) (each_map PyData.int (R := fun v d => ∃ as, Reads _ v d as) (er _)) hal hk fun d hd => by
      obtain ⟨a, _, rfl⟩ := List.mem_map.mp hd
      have : (PyData.int a).depth = 0 := by simp [PyData.depth]
      have h1 : A.in1.in1.units ≤ A.units + 2 := by simp [Around.in1]
      omega
  have out := mo_ints_each (sortVals_data (R := fun v (k : Int) => ∃ t, v = .int k t) (enc := PyData.int) false (mo_each_ints hi) (er (sortingHeap (s1.heap.push (seqObj "list" vs.toArray 0)) s1.heap.objs.size vs)) hal)
  exact wpAny_bind (wpAny_holding (wpAny_call_entry slot_list_sort ⟨_, at0, rfl⟩ entry_list_sort (list_sort_vals (s := { s1 with heap := s1.heap.push (seqObj "list" vs.toArray 0) }) at0 S hL ⟨_, rfl, wpAny_pure ⟨_, rfl, hQ ns s1 vs _ c hi out⟩⟩) (args_list_sort _)))
end
end PySem.W
namespace Mo
open PySem PySem.Spec PyProof.Rows L2
section
variable {X : Cx} {e : Expr} {me : ME} {p p2 pos pos2 : Pos}
theorem le_int : PySem.W.dataLe false PyData.int = fun a b : Int => decide (a ≤ b) := by
  funext i j
  show (!PySem.W.dataLt (.int j) (.int i)) = _
  rw [PySem.W.dataLt_int]
  simp [← decide_not]
/-- each number once -/
def nubI : List Int → List Int
  | [] => []
  | x :: r => if x ∈ r then nubI r else x :: nubI r
theorem nub_mem {x : Int} : ∀ {l : List Int}, x ∈ nubI l ↔ x ∈ l
  | [] => Iff.rfl
  | y :: r => by
    unfold nubI
    split
    · rename_i h
      rw [nub_mem, List.mem_cons]
      exact ⟨.inr, fun z => z.elim (fun e => e ▸ h) id⟩
    · rw [List.mem_cons, List.mem_cons, nub_mem]
theorem nub_nodup : ∀ l : List Int, (nubI l).Nodup
  | [] => List.nodup_nil
  | y :: r => by
    unfold nubI
    split
    · exact nub_nodup r
    · rename_i h
      exact List.nodup_cons.mpr ⟨fun z => h (nub_mem.mp z), nub_nodup r⟩
theorem nub_self : ∀ {l : List Int}, l.Nodup → nubI l = l
  | [], _ => rfl
  | y :: r, h => by
    obtain ⟨h1, h2⟩ := List.nodup_cons.mp h
    unfold nubI
    rw [if_neg h1, nub_self h2]
theorem sortI_sorted (l : List Int) : (sortI l).Pairwise (· ≤ ·) :=
  (List.pairwise_mergeSort (le := fun a b : Int => decide (a ≤ b)) (fun a b c h1 h2 => by simp at *; omega) (fun a b => by simp; omega) l).imp fun h => by simpa using h
theorem sortI_perm (l : List Int) : (sortI l).Perm l := List.mergeSort_perm _ _
/-- sorted, whose items ns come in any order -/
theorem sort_inv {pins : List (Addr × Obj)} {σ : L2.St} {H : Hp} {s s1 : Shared} {Q : VK} {ns : List Int} {vs out : List Value} (I : Inv X pins σ H s) (ho : s1.os = s.os) (hg : s1.gens = s.gens) (k : ∀ b o, s.heap.get? b = some o → s1.heap.get? b = some o) (hz : s.heap.objs.size ≤ s1.heap.objs.size) (hi : IntsAre vs ns)
    (io : IntsAre out (ns.mergeSort (PySem.W.dataLe false PyData.int))) (hl : ns.length ≤ 100000) (q : ∀ p, H p = none → Q (.ref p) (upd H p (.lst ((sortI ns).map V.int)))) :
    EP X pins σ Q (.ref s1.heap.objs.size) { s1 with heap := sortedHeap (s1.heap.push (seqObj "list" vs.toArray 0)) s1.heap.objs.size vs (List.toArray out) } := by
  have hoL : (s1.heap.push (seqObj "list" vs.toArray 0)).get? s1.heap.objs.size = some (seqObj "list" vs.toArray 0) := Heap.get?_push_size _ rfl
  obtain ⟨c, hc⟩ := sortedHeap_at (vs := vs) (out := List.toArray out) hoL
  rw [le_int] at io
  have hlen : ((sortI ns).map V.int).length ≤ sizeLine := by
    rw [List.length_map, (sortI_perm ns).length_eq]
    exact small_le (by omega)
  have keep : ∀ b u, s.heap.get? b = some u → (sortedHeap (s1.heap.push (seqObj "list" vs.toArray 0)) s1.heap.objs.size vs (List.toArray out)).get? b = some u := fun b u e => by
    have q := k b u e
    have hlt := Heap.lt_size q
    rw [sortedHeap_old (Nat.ne_of_lt hlt) (by rw [size_push']; exact Nat.lt_succ_of_lt hlt)]
    exact Heap.get?_push_of_some _ q
  have hn : H s1.heap.objs.size = none := I.hok.fresh hz
  have J : Inv X pins σ (upd H s1.heap.objs.size (.lst ((sortI ns).map V.int))) { s with heap := sortedHeap (s1.heap.push (seqObj "list" vs.toArray 0)) s1.heap.objs.size vs (List.toArray out), gens := s1.gens, drawn := s1.drawn, toks := s1.toks } :=
    I.call (ch := []) (Un.laid keep hz hn) (I.hok.laid keep hz ⟨hlen, out, c, vals_of_ints io, hc⟩) (by rw [hg]; exact I.bare) (fun _ z => nomatch z)
  have e : ({ s1 with heap := sortedHeap (s1.heap.push (seqObj "list" vs.toArray 0)) s1.heap.objs.size vs (List.toArray out) } : Shared) = { s with heap := sortedHeap (s1.heap.push (seqObj "list" vs.toArray 0)) s1.heap.objs.size vs (List.toArray out), gens := s1.gens, drawn := s1.drawn, toks := s1.toks } := by
    cases s1
    cases s
    cases ho
    rfl
  rw [e]
  exact ⟨.ref _, _, J, rfl, q _ hn⟩
/-- sorted(d) of a dict whose keys are numbers -/
theorem call_sortedDB (hc : X.calm = true) (hu : X.A.units + 64 < cLine) : CallR X (.builtin "sorted") (fun xs H Q => ∃ (a : Addr) (kvs : List (Key × V)) (ks : List Int), xs = [.ref a] ∧ Rd H a (.dK kvs) ∧ kvs.map (·.1) = ks.map Sum.inl ∧ ks.length ≤ 100000 ∧
    ∀ p : Addr, H p = none → Q (.ref p) (upd H p (.lst ((sortI ks).map V.int)))) := by
  intro pins s σ H xs us Q I r q
  obtain ⟨a, kvs, ks, rfl, hd, hks, hl, q⟩ := q
  rw [Vals.ref1 r]
  obtain ⟨z, lo, vs, rel, dd⟩ := dk_rd I.hok hd
  obtain ⟨ep, hat⟩ := dd.dictAt
  have hkeys : vs.map (·.1) = ks.map Sum.inl := rel.keys.symm.trans hks
  have hlen : vs.length = ks.length := by
    have e := congrArg List.length hkeys
    rwa [List.length_map, List.length_map] at e
  have hz : vs.length ≤ sizeLine := small_le (by omega)
  refine PySem.W.mo_sorted_ints (l := .ref a) (fun ns s1 => ns = ks ∧ Inv X pins σ H s1) (by omega) (fun E' Q' f => ?_) fun ns s1 us out c hi io => ?_
  · refine PySem.W.kdu_collect (A := X.A.in1) (PySem.W.kdl_dict (knd := mixKind X.prog X.w) (kvs := vs) (ep := ep) lo) (I.ok.hd hc) hat hz fun h' tk acc hk hacc => ?_
    have hal : acc.toList.length = ks.length := by rw [Array.length_toList, hacc.1, hlen]
    have hS : IntsAre acc.toList ks := ints_each hal fun j v e => by
      obtain ⟨k, x, e1, e2⟩ := hacc.2 j v (by rw [← Array.getElem?_toList]; exact e)
      have e3 : (vs.map (·.1))[j]? = some k := by rw [List.getElem?_map, e1]; rfl
      rw [hkeys, List.getElem?_map] at e3
      cases e4 : ks[j]? with
      | none => rw [e4] at e3; cases e3
      | some y =>
        rw [e4] at e3
        cases Option.some.inj e3
        rcases keyIs_shape (show keyIs (Sum.inl y) v = true from e2) with ⟨i, t, ek, ev⟩ | ⟨z, t, ek, ev⟩
        · cases ek
          exact ⟨y, t, rfl, ev⟩
        · cases ek
    exact f _ ks _ hS (by rw [hal, ← hlen]; exact hz) ⟨rfl, I.kept hk⟩
  · obtain ⟨rfl, I1⟩ := c
    exact sort_inv I1 rfl rfl (fun _ _ e => e) (Nat.le_refl _) hi io hl q
/-- sorted(d), numbers, of any size -/
def hSortedDB (d : D) (S : Store) : R (List D) := match dictR S d with
  | some l => match intKeys l with
    | some ks => if ks.length ≤ 100000 then .ok ((sortI ks).map .int) S else .bad
    | none => .bad
  | none => .bad
theorem nm_sortedDB (hc : X.calm = true) (hu : X.A.units + 64 < cLine) (h : EM X e me) (hg : Gl X "sorted") (hm : X.mg "sorted" = none) (hb : bootBuiltins "sorted" = some (.builtin "sorted") := by decide +kernel) (hs : starEach [e] X.env = (false, eval e X.env) :: starEach [] X.env := by rfl) (hpl : (backTo pos (starEach [] X.env)).any (·.1) = false := by rfl) :
    NM X (.Call (.Name "sorted" p) [e] [] pos) (fun ρ S => (me ρ S).bind hSortedDB) :=
  PE.of (pe_callB (call_sortedDB hc hu) hg hm hb (b1 h hs) (by decide) (by decide) hs hpl) fun σ H Q ⟨g, w, o, ρ, S, d, S', s, hm, q⟩ => by
    obtain ⟨c, S1, h1, h2⟩ := R.bind_ok hm
    refine ⟨g, w, o, ρ, S, c, S1, s, h1, fun v g1 H1 x1 s1 r1 => ?_⟩
    unfold hSortedDB at h2
    split at h2
    · rename_i l hl
      split at h2
      · rename_i ks hk
        split at h2
        · rename_i hz
          cases h2
          obtain ⟨n, rfl, hn⟩ := dictR_of hl
          obtain ⟨a, ev, hgn⟩ := r1
          obtain ⟨kvs, hH, r⟩ := s1.rd hn hgn
          subst ev
          refine ⟨a, kvs, ks, rfl, hH, by rw [r.keys, intKeys_of hk], hz, fun t ht => ?_⟩
          have q' : FinN X.K g1 (w ++ o) H1 ((sortI ks).map .int) _ Q := fun p vs g2 H2 x2 hp n2 e2 s2 r2 => q p vs g2 H2 (x1.trans x2) (back_none x1 hp) n2 e2 s2 r2
          exact q'.put s1 (rel_ints _) t ht
        · cases h2
      · cases h2
    · cases h2
@[simp] theorem hSortedDB_eq (d : D) (S : Store) : hSortedDB d S = (match dictR S d with
  | some l => match intKeys l with
    | some ks => if ks.length ≤ 100000 then .ok ((sortI ks).map .int) S else .bad
    | none => .bad
  | none => .bad) := rfl
/-- set(t) of a tuple of numbers -/
theorem cr_setT (hc : X.calm = true) : CallR X (.type "set") (fun xs H Q => ∃ (p : Addr) (ns : List Int), xs = [.ref p] ∧ SqT X.K H p (ns.map V.int) ∧ ns.length ≤ 1000 ∧ ∀ (q : Addr) (n : Nat), n ≤ ns.length → H q = none → Q (.ref q) (upd H q (SetO X.w q (fun j => decide (j ∈ ns)) n))) := by
  intro pins s σ H xs us Q I r q
  obtain ⟨p, ns, rfl, ht, hl, q⟩ := q
  rw [Vals.ref1 r]
  obtain ⟨its, rv, pl, hz⟩ := I.tuple ht
  have hi : IntsAre its.toArray.toList ns := ints_of_vals rv
  refine call_set_tupI ns (I.ok.hd hc) (show s.heap.IsTuple p its.toArray from pl) hi (by unfold scanBound; omega) fun h' tk c R1 hcn k => ?_
  have hn := I.hok.fresh (Nat.le_refl s.heap.objs.size)
  exact ⟨.ref _, upd H s.heap.objs.size (SetO X.w s.heap.objs.size (fun j => decide (j ∈ ns)) c), I.laid (t' := tk) k (Nat.le_refl _) (setO_new R1), rfl, q _ c hcn hn⟩
/-- sorted(set), of any size -/
theorem cr_sortedSetB (hc : X.calm = true) (hu : X.A.units + 64 < cLine) : CallR X (.builtin "sorted") (fun xs H Q => ∃ (a : Addr) (S : Int → Bool) (n : Nat), xs = [.ref a] ∧ H a = some (SetO X.w a S n) ∧ n ≤ 1000 ∧
    ∀ (ns : List Int) (p : Addr), ns.Nodup → (∀ k, k ∈ ns ↔ S k = true) → H p = none → Q (.ref p) (upd H p (.lst ((sortI ns).map V.int)))) := by
  intro pins s σ H xs us Q I r q
  obtain ⟨a, S, n, rfl, ha, hn, q⟩ := q
  rw [Vals.ref1 r]
  obtain ⟨o, es, ep, t, ho, hex, hd, g, nd, hm, hb, hf, hn2, hr, hl⟩ := setO_get I ha
  refine PySem.W.mo_sorted_ints (l := .ref a) (fun ns s1 => (ns.Nodup ∧ (∀ k, k ∈ ns ↔ S k = true) ∧ ns.length = n) ∧ s1.os = s.os ∧ s1.gens = s.gens ∧ (∀ b o, s.heap.get? b = some o → s1.heap.get? b = some o) ∧ s.heap.objs.size ≤ s1.heap.objs.size) (by omega) (fun E' Q' f => ?_) fun ns s1 vs out c hi io => ?_
  · refine collect_set (A := X.A.in1) (I.ok.hd hc) ⟨o, ho, hex.1, hd⟩ hf hb hr hl fun s1 vs k1 hz g1 o1 pm => ?_
    have hv : vs.length = n := by rw [pm.length_eq, List.length_map, Array.length_toList]; exact hn2
    have hI : IntsAre vs (vs.map Builtin.Re.reRawOf) := ints_of vs fun v hv => by
      obtain ⟨e, he, q⟩ := List.mem_map.mp (pm.mem_iff.mp hv)
      obtain ⟨k, tk, h1, _⟩ := g e he
      exact ⟨k, tk, by rw [← q]; exact h1⟩
    have pk : (vs.map Builtin.Re.reRawOf).Perm (es.toList.map keyOf) := by
      have z := pm.map Builtin.Re.reRawOf
      rw [List.map_map] at z
      exact z
    exact f vs _ s1 hI (small_le (by omega)) ⟨⟨pk.nodup_iff.mpr nd, fun k => by rw [pk.mem_iff, ← hm k], by rw [List.length_map]; exact hv⟩, o1, g1, k1, hz⟩
  · obtain ⟨⟨c1, c2, c3⟩, c4, c5, c6, c7⟩ := c
    exact sort_inv I c4 c5 c6 c7 hi io (by omega) fun p hp => q ns p c1 c2 hp
/-- sorted(set(t)) -/
def mSortSet (me : ME) : ML := fun ρ S => (me ρ S).bind fun d S1 => match d with
  | .tup l => match intsD l with
    | some ns => if ns.length ≤ 1000 then .ok ((sortI (nubI ns)).map .int) S1 else .bad
    | none => .bad
  | _ => .bad
theorem nm_sortedSet (hc : X.calm = true) (hu : X.A.units + 64 < cLine) (h : EM X e me) (hg : Gl X "sorted") (hm : X.mg "sorted" = none) (hg2 : Gl X "set") (hm2 : X.mg "set" = none) (hb : bootBuiltins "sorted" = some (.builtin "sorted") := by decide +kernel) (hb2 : bootBuiltins "set" = some (.type "set") := by decide +kernel)
    (hs2 : starEach [e] X.env = (false, eval e X.env) :: starEach [] X.env := by rfl) (hpl2 : (backTo pos2 (starEach [] X.env)).any (·.1) = false := by rfl)
    (hs : starEach [.Call (.Name "set" p2) [e] [] pos2] X.env = (false, eval (.Call (.Name "set" p2) [e] [] pos2) X.env) :: starEach [] X.env := by rfl) (hpl : (backTo pos (starEach [] X.env)).any (·.1) = false := by rfl) :
    NM X (.Call (.Name "sorted" p) [.Call (.Name "set" p2) [e] [] pos2] [] pos) (mSortSet me) :=
  PE.of (pe_callB (cr_sortedSetB hc hu) hg hm hb (b1 (pe_callTy (cr_setT hc) hg2 hm2 hb2 (b1 h hs2) (by decide) (by decide) hs2 hpl2) hs) (by decide) (by decide) hs hpl) fun σ H Q ⟨g, w, o, ρ, S, d, S', s, hm, q⟩ => by
    obtain ⟨c, S1, h1, h2⟩ := R.bind_ok hm
    refine ⟨g, w, o, ρ, S, c, S1, s, h1, fun v g1 H1 x1 s1 r1 => ?_⟩
    cases c with
    | tup l =>
      dsimp only at h2
      split at h2
      · rename_i ns hns
        split at h2
        · rename_i hz
          cases h2
          obtain ⟨a, vs, rfl, ht, rr⟩ := r1
          have hv := intsD_rel rr hns
          subst hv
          refine ⟨a, ns, rfl, ht, hz, fun y n hn hy => ?_⟩
          refine ⟨y, _, n, rfl, upd_same, by omega, fun ms p n1 n2 hp => ?_⟩
          have pm : ms.Perm (nubI ns) := (List.perm_ext_iff_of_nodup n1 (nub_nodup ns)).mpr fun k => by rw [n2, nub_mem, decide_eq_true_eq]
          have e1 : sortI ms = sortI (nubI ns) := sorted_one (((sortI_perm ms).trans pm).trans (sortI_perm _).symm) (sortI_sorted _) (sortI_sorted _)
          rw [e1]
          have x2 : Ext g1 H1 g1 (upd H1 y (SetO X.w y (fun j => decide (j ∈ ns)) n)) := .new hy
          have s2 := s1.new hy (u := SetO X.w y (fun j => decide (j ∈ ns)) n)
          have q' : FinN X.K g1 (w ++ o) (upd H1 y (SetO X.w y (fun j => decide (j ∈ ns)) n)) ((sortI (nubI ns)).map .int) S' Q := fun p vs g2 H2 x3 hp n2 e2 s3 r3 => q p vs g2 H2 ((x1.trans x2).trans x3) (back_none (x1.trans x2) hp) n2 e2 s3 r3
          exact q'.put s2 (rel_ints _) p hp
        · cases h2
      · cases h2
    | _ => cases h2
@[simp] theorem mSortSet_eq (me : ME) (ρ : MEnv) (S : Store) : mSortSet me ρ S = (me ρ S).bind fun d S1 => (match d with
  | .tup l => match intsD l with
    | some ns => if ns.length ≤ 1000 then .ok ((sortI (nubI ns)).map .int) S1 else .bad
    | none => .bad
  | _ => .bad) := rfl
end
end Mo
set_option maxRecDepth 100000
set_option maxHeartbeats 4000000
namespace K02
open PySem PySem.Spec PyProof.Rows L2 Mo Pm

def topS (i : Nat) : Stmt := PySem.Challenge.pw_ridingvotes_k02_great_lots.main.body.getD i (.Pass ⟨0, 0, 0, 0⟩)
abbrev si_TooMany : Stmt := (clsBody (topS 9)).getD 0 (.Pass ⟨0, 0, 0, 0⟩)
theorem sci_TooMany : FnScope ["self", "many"] ["self", "many"] (defScope si_TooMany) := ⟨rfl, rfl, rfl, by decide +kernel, rfl, by decide +kernel, by decide +kernel⟩
/-! law_pot -/
abbrev s_l_pot : Stmt := topS 21
abbrev n_l_pot : List Str := ["_law_script", "_law_k", "_law_cell", "_law_seed"]
theorem sc_l_pot : FnScope n_l_pot ["_law_script", "_law_k"] (defScope s_l_pot) := ⟨rfl, rfl, rfl, by decide +kernel, rfl, by decide +kernel, by decide +kernel⟩
def b_l_pot : MS :=
    (mSeq (mSet 2 (mIfE (mB (m2 gGt (mB1 gLen (mVar 0)) (mC (.int 0)))) (m2 gIx (mVar 0) (m2 gModI (mVar 1) (mB1 gLen (mVar 0)))) (mC (.int 0))))
    (mSeq (mSet 3 (m2 gModI (m2 gMulI (m2 gAddI (m2 gAddI (m2 gModI (mVar 2) (m2 gPowW (mC (.int 10)) (mC (.int 30)))) (m2 gMulI (m2 gMulI (mC (.int 7919)) (mVar 1)) (mVar 1))) (mC (.int 11))) (mC (.int 1181783497276652981))) (mC (.int 2305843009213693951))))
    (mRet (mLoc (mDisp (aCons (m2 gMulI (m2 gModI (mVar 2) (m2 gPowW (m2 gPowW (mC (.int 10)) (mC (.int 60))) (mC (.int 12)))) (mA hInt (aCons (m2 gGe (mVar 2) (m2 gPowW (mC (.int 10)) (mC (.int 18)))) aNil))) (aCons (mVar 3) (aCons (mC (.int 0)) aNil))))))))
def m_l_pot : MF := mDef 4 b_l_pot
theorem ok_l_pot {P : Program} {w : World} {K : PySem.W.Frag} {mg : Str → Option Value} {base : Heap} {a : Addr} {fd : FuncData} (F : Fun K "_law_pot" "_law_pot" s_l_pot a fd) (z_int : mg "int" = none) (z_len : mg "len" = none) :
    FnG P w K mg base CX0 1 a fd ["_law_script", "_law_k"] (spM K 2 m_l_pot) := by
  refine def_ok F sc_l_pot ?_
  intro cdv A out s H E hgd hr
  exact ((ssm_cons (sm_set (ps_set (i := 2) sc_l_pot.nd rfl (Or.inl rfl) (em_ifE (tm_cmp op_gt od_gt (em_lenV (em_var (pv 0)) (by rfl) z_len) em_int (nomark _)) (em_ix ix_seq od_ix (em_var (pv 0)) (em_op op_mod od_mod (em_var (pv 1)) (em_lenV (em_var (pv 0)) (by rfl) z_len)) (fun _ _ => rfl)) em_int)))
    (ssm_cons (sm_set (ps_set (i := 3) sc_l_pot.nd rfl (Or.inl rfl) (em_op op_mod od_mod (em_op op_mulW od_mul (em_op op_add od_add (em_op op_add od_add (em_op op_mod od_mod (em_var (pv 2)) (em_op op_powW od_powW em_int em_int)) (em_op op_mulW od_mul (em_op op_mulW od_mul em_int (em_var (pv 1))) (em_var (pv 1)))) em_int) em_int) em_int)))
    (ssm_one (sm_ret (em_loc (nm_lst (am_cons (em_op op_mulW od_mul (em_op op_mod od_mod (em_var (pv 2)) (em_op op_powW od_powW (em_op op_powW od_powW em_int em_int) em_int)) (em_int1 (am_cons (em_cmp op_ge od_ge (em_var (pv 2)) (em_op op_powW od_powW em_int em_int) (nomark _)) am_nil) (by rfl) z_int)) (am_cons (em_var (pv 3)) (am_cons em_int am_nil))))))))))

/-! law_pick -/
abbrev s_l_pick : Stmt := topS 22
abbrev n_l_pick : List Str := ["_law_pot_here", "_law_upto", "_law_digit", "_law_stride", "_law_twice"]
theorem sc_l_pick : FnScope n_l_pick ["_law_pot_here", "_law_upto"] (defScope s_l_pick) := ⟨rfl, rfl, rfl, by decide +kernel, rfl, by decide +kernel, by decide +kernel⟩
def b_l_pick : MS :=
    (mSeq (mIf (mB (m2 gGt (m2 gIx (mVar 0) (mC (.int 0))) (mC (.int 0)))) (mSeq (mSet 2 (m2 gModI (m2 gIx (mVar 0) (mC (.int 0))) (mVar 1)))
    (mSeq (mSetC (mVar 0) (mC (.int 0)) (m2 gDivI (m2 gIx (mVar 0) (mC (.int 0))) (mVar 1)))
    (mRet (mVar 2)))) mNil)
    (mSeq (mSetC (mVar 0) (mC (.int 2)) (m2 gAddI (m2 gIx (mVar 0) (mC (.int 2))) (mC (.int 1))))
    (mSeq (mSet 3 (m2 gAddI (m2 gMulI (mC (.int 1442695040888963407)) (m2 gIx (mVar 0) (mC (.int 2)))) (mC (.int 11))))
    (mSeq (mSetC (mVar 0) (mC (.int 1)) (m2 gModI (m2 gAddI (m2 gMulI (m2 gIx (mVar 0) (mC (.int 1))) (mC (.int 6364136223846793005))) (mVar 3)) (mC (.int 2305843009213693951))))
    (mSeq (mSet 4 (m2 gModI (m2 gMulI (m2 gIx (mVar 0) (mC (.int 1))) (m2 gAddI (m2 gModI (m2 gIx (mVar 0) (mC (.int 1))) (mC (.int 1000003))) (m2 gMulI (mC (.int 7919)) (m2 gIx (mVar 0) (mC (.int 2)))))) (mC (.int 2305843009213693921))))
    (mRet (m2 gModI (m2 gDivI (mVar 4) (mC (.int 131071))) (mVar 1))))))))
def m_l_pick : MF := mDef 5 b_l_pick
theorem ok_l_pick {P : Program} {w : World} {K : PySem.W.Frag} {mg : Str → Option Value} {base : Heap} {a : Addr} {fd : FuncData} (F : Fun K "_law_pick" "_law_pick" s_l_pick a fd) :
    FnG P w K mg base CX0 1 a fd ["_law_pot_here", "_law_upto"] (spM K 2 m_l_pick) := by
  refine def_ok F sc_l_pick ?_
  intro cdv A out s H E hgd hr
  exact ((ssm_cons (sm_if (tm_cmp op_gt od_gt (em_ix ix_seq od_ix (em_var (pv 0)) em_int (fun _ _ => rfl)) em_int (nomark _)) (ssm_cons (sm_set (ps_set (i := 2) sc_l_pick.nd rfl (Or.inl rfl) (em_op op_mod od_mod (em_ix ix_seq od_ix (em_var (pv 0)) em_int (fun _ _ => rfl)) (em_var (pv 1)))))
    (ssm_cons (sm_setC (ps_asg (em_op op_fdivW od_div (em_ix ix_seq od_ix (em_var (pv 0)) em_int (fun _ _ => rfl)) (em_var (pv 1))) (pg_sub (em_var (pv 0)) em_int set_list)))
    (ssm_one (sm_ret (em_var (pv 2)))))) ssm_nil)
    (ssm_cons (sm_setC (ps_asg (em_op op_add od_add (em_ix ix_seq od_ix (em_var (pv 0)) em_int (fun _ _ => rfl)) em_int) (pg_sub (em_var (pv 0)) em_int set_list)))
    (ssm_cons (sm_set (ps_set (i := 3) sc_l_pick.nd rfl (Or.inl rfl) (em_op op_add od_add (em_op op_mulW od_mul em_int (em_ix ix_seq od_ix (em_var (pv 0)) em_int (fun _ _ => rfl))) em_int)))
    (ssm_cons (sm_setC (ps_asg (em_op op_mod od_mod (em_op op_add od_add (em_op op_mulW od_mul (em_ix ix_seq od_ix (em_var (pv 0)) em_int (fun _ _ => rfl)) em_int) (em_var (pv 3))) em_int) (pg_sub (em_var (pv 0)) em_int set_list)))
    (ssm_cons (sm_set (ps_set (i := 4) sc_l_pick.nd rfl (Or.inl rfl) (em_op op_mod od_mod (em_op op_mulW od_mul (em_ix ix_seq od_ix (em_var (pv 0)) em_int (fun _ _ => rfl)) (em_op op_add od_add (em_op op_mod od_mod (em_ix ix_seq od_ix (em_var (pv 0)) em_int (fun _ _ => rfl)) em_int) (em_op op_mulW od_mul em_int (em_ix ix_seq od_ix (em_var (pv 0)) em_int (fun _ _ => rfl))))) em_int)))
    (ssm_one (sm_ret (em_op op_mod od_mod (em_op op_fdivW od_div (em_var (pv 4)) em_int) (em_var (pv 1)))))))))))

/-! law_far_lot -/
abbrev s_l_far_lot : Stmt := topS 24
abbrev n_l_far_lot : List Str := ["_law_pot_here", "_law_found", "_law_at", "_law_turn", "_law_last"]
theorem sc_l_far_lot : FnScope n_l_far_lot ["_law_pot_here"] (defScope s_l_far_lot) := ⟨rfl, rfl, rfl, by decide +kernel, rfl, by decide +kernel, by decide +kernel⟩
def i_l_far_lot_1 : ML :=
    (iRg1 (aCons (mCall m_l_pick 2 [] (aCons (mVar 0) (aCons (mC (.int 101)) aNil))) aNil))
def b_l_far_lot_2 : MS :=
    (mSeq (mSet 4 (m2 gAddI (mVar 2) (m2 gMulI (mCall m_l_pick 2 [] (aCons (mVar 0) (aCons (mC (.int 2)) aNil))) (mCall m_l_pick 2 [] (aCons (mVar 0) (aCons (m2 gMulI (mC (.int 4)) (m2 gPowW (mC (.int 10)) (mC (.int 9)))) aNil))))))
    (mSeq (mApp 1 (mTup (aCons (mVar 2) (aCons (mVar 4) aNil))))
    (mSet 2 (m2 gAddI (m2 gAddI (mVar 4) (mC (.int 2))) (m2 gMulI (mCall m_l_pick 2 [] (aCons (mVar 0) (aCons (mC (.int 2)) aNil))) (mCall m_l_pick 2 [] (aCons (mVar 0) (aCons (m2 gMulI (mC (.int 4)) (m2 gPowW (mC (.int 10)) (mC (.int 9)))) aNil))))))))
def b_l_far_lot : MS :=
    (mSeq (mPar [1, 2] (sOwnL (mDisp aNil) (sVal (m2 gMulI (mCall m_l_pick 2 [] (aCons (mVar 0) (aCons (mC (.int 3)) aNil))) (mCall m_l_pick 2 [] (aCons (mVar 0) (aCons (m2 gPowW (mC (.int 10)) (mC (.int 9))) aNil)))) sNil)))
    (mSeq (mFor (.nm 3) i_l_far_lot_1
    b_l_far_lot_2)
    (mRet (mQ hTup (qOwn 1)))))
def m_l_far_lot : MF := mDef 5 b_l_far_lot
theorem ok_l_far_lot {P : Program} {w : World} {K : PySem.W.Frag} {mg : Str → Option Value} {base : Heap} {a : Addr} {fd : FuncData} (F : Fun K "_law_far_lot" "_law_far_lot" s_l_far_lot a fd) {a_l_pick : Addr} {fd_l_pick : FuncData} (C_l_pick : Own P w K mg base 1 2 "_law_pick" ["_law_pot_here", "_law_upto"] a_l_pick fd_l_pick m_l_pick) (B_l_pick : Binds K fd_l_pick ["_law_pot_here", "_law_upto"] []) (z_range : mg "range" = none) (z_tuple : mg "tuple" = none) :
    FnG P w K mg base CX0 2 a fd ["_law_pot_here"] (spM K 1 m_l_far_lot) := by
  refine def_ok F sc_l_far_lot ?_
  intro cdv A out s H E hgd hr
  exact ((ssm_cons (sm_par2 (ps_par (i := 1) (j := 2) rfl sc_l_far_lot.nd rfl rfl (by decide) rfl rfl (slm_ownL (nm_lst am_nil) (slm_val (em_op op_mulW od_mul (em_own C_l_pick B_l_pick hgd (hr.mono (by decide)) (by rfl) (am_cons (em_var (pv 0)) (am_cons em_int am_nil))) (em_own C_l_pick B_l_pick hgd (hr.mono (by decide)) (by rfl) (am_cons (em_var (pv 0)) (am_cons (em_op op_powW od_powW em_int em_int) am_nil)))) slm_nil)) (by rfl)))
    (ssm_cons (sm_for PassesOwn.never rfl (im_rg1 (by rfl) z_range (am_cons (em_own C_l_pick B_l_pick hgd (hr.mono (by decide)) (by rfl) (am_cons (em_var (pv 0)) (am_cons em_int am_nil))) am_nil)) (gm_name (pg_name (i := 3) sc_l_far_lot.nd rfl (Or.inl rfl)))
    (ssm_cons (sm_set (ps_set (i := 4) sc_l_far_lot.nd rfl (Or.inl rfl) (em_op op_add od_add (em_var (pv 2)) (em_op op_mulW od_mul (em_own C_l_pick B_l_pick hgd (hr.mono (by decide)) (by rfl) (am_cons (em_var (pv 0)) (am_cons em_int am_nil))) (em_own C_l_pick B_l_pick hgd (hr.mono (by decide)) (by rfl) (am_cons (em_var (pv 0)) (am_cons (em_op op_mulW od_mul em_int (em_op op_powW od_powW em_int em_int)) am_nil)))))))
    (ssm_cons (sm_append (pv 1) (em_tup (am_cons (em_var (pv 2)) (am_cons (em_var (pv 4)) am_nil))))
    (ssm_one (sm_set (ps_set (i := 2) sc_l_far_lot.nd rfl (Or.inl rfl) (em_op op_add od_add (em_op op_add od_add (em_var (pv 4)) em_int) (em_op op_mulW od_mul (em_own C_l_pick B_l_pick hgd (hr.mono (by decide)) (by rfl) (am_cons (em_var (pv 0)) (am_cons em_int am_nil))) (em_own C_l_pick B_l_pick hgd (hr.mono (by decide)) (by rfl) (am_cons (em_var (pv 0)) (am_cons (em_op op_mulW od_mul em_int (em_op op_powW od_powW em_int em_int)) am_nil)))))))))))
    (ssm_one (sm_ret (em_tupleQ (qm_own (pv 1)) (by rfl) z_tuple))))))

/-! law_beside -/
abbrev s_l_beside : Stmt := topS 25
abbrev n_l_beside : List Str := ["_law_pot_here", "_law_runs", "_law_found", "_law_first", "_law_last", "_law_begin", "_law_end", "_law_free"]
theorem sc_l_beside : FnScope n_l_beside ["_law_pot_here", "_law_runs"] (defScope s_l_beside) := ⟨rfl, rfl, rfl, by decide +kernel, rfl, by decide +kernel, by decide +kernel⟩
def b_l_beside_1 : MS :=
    (mSeq (mPar [5, 6] (sVal (m2 gSubI (m2 gAddI (mVar 3) (mCall m_l_pick 2 [] (aCons (mVar 0) (aCons (mC (.int 3)) aNil)))) (mC (.int 1))) (sVal (m2 gSubI (m2 gAddI (mVar 4) (mCall m_l_pick 2 [] (aCons (mVar 0) (aCons (mC (.int 3)) aNil)))) (mC (.int 1))) sNil)))
    (mSeq (mSet 7 (mIfE (mB (mEqO false 2 (mLst (mDisp aNil)))) (mC (.int 0)) (m2 gAddI (m2 gIx (mIxO 2 (mB1 gNeg (mC (.int 1)))) (mC (.int 1))) (mC (.int 2)))))
    (mIf (mAndT (mB (m2 gLe (mA hMax2 (aCons (mVar 5) (aCons (mVar 7) aNil))) (mVar 6))) (mB (m2 gGt (mCall m_l_pick 2 [] (aCons (mVar 0) (aCons (mC (.int 6)) aNil))) (mC (.int 0))))) (mApp 2 (mTup (aCons (mA hMax2 (aCons (mVar 5) (aCons (mVar 7) aNil))) (aCons (mVar 6) aNil)))) mNil)))
def b_l_beside : MS :=
    (mSeq (mOwnL 2 (mDisp aNil))
    (mSeq (mFor (.tp [(.nm 3), (.nm 4)]) (iSeq (mVar 1))
    b_l_beside_1)
    (mRet (mQ hTup (qOwn 2)))))
def m_l_beside : MF := mDef 8 b_l_beside
theorem ok_l_beside {P : Program} {w : World} {K : PySem.W.Frag} {mg : Str → Option Value} {base : Heap} {a : Addr} {fd : FuncData} (F : Fun K "_law_beside" "_law_beside" s_l_beside a fd) {a_l_pick : Addr} {fd_l_pick : FuncData} (C_l_pick : Own P w K mg base 1 2 "_law_pick" ["_law_pot_here", "_law_upto"] a_l_pick fd_l_pick m_l_pick) (B_l_pick : Binds K fd_l_pick ["_law_pot_here", "_law_upto"] []) (z_max : mg "max" = none) (z_tuple : mg "tuple" = none) :
    FnG P w K mg base CX0 2 a fd ["_law_pot_here", "_law_runs"] (spM K 2 m_l_beside) := by
  refine def_ok F sc_l_beside ?_
  intro cdv A out s H E hgd hr
  exact ((ssm_cons (sm_own (ps_set (i := 2) sc_l_beside.nd rfl (Or.inl rfl) (nm_lst am_nil)))
    (ssm_cons (sm_for PassesOwn.never rfl (im_seq (em_var (pv 1))) (gm_tup rfl (gsm_cons (gm_name (pg_name (i := 3) sc_l_beside.nd rfl (Or.inl rfl))) (gsm_cons (gm_name (pg_name (i := 4) sc_l_beside.nd rfl (Or.inl rfl))) gsm_nil)))
    (ssm_cons (sm_par2 (ps_par (i := 5) (j := 6) rfl sc_l_beside.nd rfl rfl (by decide) rfl rfl (slm_val (em_op op_sub od_sub (em_op op_add od_add (em_var (pv 3)) (em_own C_l_pick B_l_pick hgd (hr.mono (by decide)) (by rfl) (am_cons (em_var (pv 0)) (am_cons em_int am_nil)))) em_int) (slm_val (em_op op_sub od_sub (em_op op_add od_add (em_var (pv 4)) (em_own C_l_pick B_l_pick hgd (hr.mono (by decide)) (by rfl) (am_cons (em_var (pv 0)) (am_cons em_int am_nil)))) em_int) slm_nil)) (by rfl)))
    (ssm_cons (sm_set (ps_set (i := 7) sc_l_beside.nd rfl (Or.inl rfl) (em_ifE (tm_eqO hr.units (pv 2) (em_new (nm_lst am_nil)) (nomark _)) em_int (em_op op_add od_add (em_ix ix_seq od_ix (em_ixO (pv 2) (em_neg em_int) (fun _ _ => rfl)) em_int (fun _ _ => rfl)) em_int))))
    (ssm_one (sm_if (WM.tm (wm_and (tm_cmp op_le od_le (em_max2 rfl (am_cons (em_var (pv 5)) (am_cons (em_var (pv 7)) am_nil)) (by rfl) z_max) (em_var (pv 6)) (nomark _)) (wm_and1 (tm_cmp op_gt od_gt (em_own C_l_pick B_l_pick hgd (hr.mono (by decide)) (by rfl) (am_cons (em_var (pv 0)) (am_cons em_int am_nil))) em_int (nomark _))))) (ssm_one (sm_append (pv 2) (em_tup (am_cons (em_max2 rfl (am_cons (em_var (pv 5)) (am_cons (em_var (pv 7)) am_nil)) (by rfl) z_max) (am_cons (em_var (pv 6)) am_nil))))) ssm_nil)))))
    (ssm_one (sm_ret (em_tupleQ (qm_own (pv 2)) (by rfl) z_tuple))))))

/-! law_pieces -/
abbrev s_l_pieces : Stmt := topS 26
abbrev n_l_pieces : List Str := ["_law_left", "_law_right", "_law_ends", "_law_first", "_law_last", "_law_rows", "_law_found", "_law_at", "_law_its", "_law_begin", "_law_behind", "_law_mine"]
theorem sc_l_pieces : FnScope n_l_pieces ["_law_left", "_law_right"] (defScope s_l_pieces) := ⟨rfl, rfl, rfl, by decide +kernel, rfl, by decide +kernel, by decide +kernel⟩
def b_l_pieces_1 : MS :=
    (mSeq (mDPut (mVar 2) (mVar 3) (mC (.bl true)))
    (mDPut (mVar 2) (m2 gAddI (mVar 4) (mC (.int 1))) (mC (.bl true))))
def t_l_pieces_2 : MT :=
    (mAndT (mB (m2 gLt (mVar 7) (mB1 gLen (mVar 0)))) (mB (m2 gLt (m2 gIx (m2 gIx (mVar 0) (mVar 7)) (mC (.int 1))) (mVar 9))))
def b_l_pieces_3 : MS :=
    (mSet 7 (m2 gAddI (mVar 7) (mC (.int 1))))
def t_l_pieces_4 : MT :=
    (mAndT (mB (m2 gLt (mVar 8) (mB1 gLen (mVar 1)))) (mB (m2 gLt (m2 gIx (m2 gIx (mVar 1) (mVar 8)) (mC (.int 1))) (mVar 9))))
def b_l_pieces_5 : MS :=
    (mSet 8 (m2 gAddI (mVar 8) (mC (.int 1))))
def b_l_pieces_6 : MS :=
    (mSeq (mWhile t_l_pieces_2
    b_l_pieces_3)
    (mSeq (mWhile t_l_pieces_4
    b_l_pieces_5)
    (mSeq (mSet 11 (mAnd (m2 gLt (mVar 7) (mB1 gLen (mVar 0))) (m2 gLe (m2 gIx (m2 gIx (mVar 0) (mVar 7)) (mC (.int 0))) (mVar 9))))
    (mApp 6 (mTup (aCons (mVar 9) (aCons (m2 gSubI (mVar 10) (mC (.int 1))) (aCons (mVar 11) (aCons (mAnd (m2 gLt (mVar 8) (mB1 gLen (mVar 1))) (m2 gLe (m2 gIx (m2 gIx (mVar 1) (mVar 8)) (mC (.int 0))) (mVar 9))) aNil)))))))))
def b_l_pieces : MS :=
    (mSeq (mSet 2 mDNewK)
    (mSeq (mFor (.tp [(.nm 3), (.nm 4)]) (iSeq (m2 gCatT (mVar 0) (mVar 1)))
    b_l_pieces_1)
    (mSeq (mPar [5, 6] (sVal (mLst (fun ρ S => ((mVar 2) ρ S).bind hSortedDB)) (sOwnL (mDisp aNil) sNil)))
    (mSeq (mPar [7, 8] (sVal (mC (.int 0)) (sVal (mC (.int 0)) sNil)))
    (mSeq (mFor (.tp [(.nm 9), (.nm 10)]) (iZip (aCons (mVar 5) (aCons (mLst (mSlQ (iLst (mVar 5)) (oSome (mC (.int 1))) oNone)) aNil)))
    b_l_pieces_6)
    (mRetO 6))))))
def m_l_pieces : MF := mDef 12 b_l_pieces
theorem ok_l_pieces {P : Program} {w : World} {K : PySem.W.Frag} {mg : Str → Option Value} {base : Heap} {a : Addr} {fd : FuncData} (F : Fun K "_law_pieces" "_law_pieces" s_l_pieces a fd) (z_len : mg "len" = none) (z_sorted : mg "sorted" = none) (z_zip : mg "zip" = none) :
    FnG P w K mg base CX0 1 a fd ["_law_left", "_law_right"] (spM K 2 m_l_pieces) := by
  refine def_ok F sc_l_pieces ?_
  intro cdv A out s H E hgd hr
  exact ((ssm_cons (sm_set (ps_set (i := 2) sc_l_pieces.nd rfl (Or.inl rfl) em_dnewK))
    (ssm_cons (sm_for PassesOwn.never rfl (im_seq (em_op op_catA od_catT (em_var (pv 0)) (em_var (pv 1)))) (gm_tup rfl (gsm_cons (gm_name (pg_name (i := 3) sc_l_pieces.nd rfl (Or.inl rfl))) (gsm_cons (gm_name (pg_name (i := 4) sc_l_pieces.nd rfl (Or.inl rfl))) gsm_nil)))
    (ssm_cons (sm_dput hr.units (em_var (pv 2)) (em_var (pv 3)) em_bl)
    (ssm_one (sm_dput hr.units (em_var (pv 2)) (em_op op_add od_add (em_var (pv 4)) em_int) em_bl))))
    (ssm_cons (sm_par2 (ps_par (i := 5) (j := 6) rfl sc_l_pieces.nd rfl rfl (by decide) rfl rfl (slm_val (em_new (nm_sortedDB rfl hr.units (em_var (pv 2)) (by rfl) z_sorted)) (slm_ownL (nm_lst am_nil) slm_nil)) (by rfl)))
    (ssm_cons (sm_parG (is := [7, 8]) (ps_asg (pe_tup (slm_val em_int (slm_val em_int slm_nil))) (pg_tup rfl (pgs_cons (pg_name (i := 7) sc_l_pieces.nd rfl (Or.inl rfl)) (pgs_cons (pg_name (i := 8) sc_l_pieces.nd rfl (Or.inl rfl)) pgs_nil)))))
    (ssm_cons (sm_for PassesOwn.never rfl (im_zip (am_cons (em_var (pv 5)) (am_cons (em_new (nm_slL (em_var (pv 5)) (om_some em_int) om_none)) am_nil)) (by rfl) z_zip) (gm_tup rfl (gsm_cons (gm_name (pg_name (i := 9) sc_l_pieces.nd rfl (Or.inl rfl))) (gsm_cons (gm_name (pg_name (i := 10) sc_l_pieces.nd rfl (Or.inl rfl))) gsm_nil)))
    (ssm_cons (sm_while PassesOwn.never (WM.tm (wm_and (tm_cmp op_lt od_lt (em_var (pv 7)) (em_lenV (em_var (pv 0)) (by rfl) z_len) (nomark _)) (wm_and1 (tm_cmp op_lt od_lt (em_ix ix_seq od_ix (em_ix ix_seq od_ix (em_var (pv 0)) (em_var (pv 7)) (fun _ _ => rfl)) em_int (fun _ _ => rfl)) (em_var (pv 9)) (nomark _)))))
    (ssm_one (sm_set (ps_set (i := 7) sc_l_pieces.nd rfl (Or.inl rfl) (em_op op_add od_add (em_var (pv 7)) em_int)))))
    (ssm_cons (sm_while PassesOwn.never (WM.tm (wm_and (tm_cmp op_lt od_lt (em_var (pv 8)) (em_lenV (em_var (pv 1)) (by rfl) z_len) (nomark _)) (wm_and1 (tm_cmp op_lt od_lt (em_ix ix_seq od_ix (em_ix ix_seq od_ix (em_var (pv 1)) (em_var (pv 8)) (fun _ _ => rfl)) em_int (fun _ _ => rfl)) (em_var (pv 9)) (nomark _)))))
    (ssm_one (sm_set (ps_set (i := 8) sc_l_pieces.nd rfl (Or.inl rfl) (em_op op_add od_add (em_var (pv 8)) em_int)))))
    (ssm_cons (sm_set (ps_set (i := 11) sc_l_pieces.nd rfl (Or.inl rfl) (em_and (em_cmp op_lt od_lt (em_var (pv 7)) (em_lenV (em_var (pv 0)) (by rfl) z_len) (nomark _)) (em_one (em_cmp op_le od_le (em_ix ix_seq od_ix (em_ix ix_seq od_ix (em_var (pv 0)) (em_var (pv 7)) (fun _ _ => rfl)) em_int (fun _ _ => rfl)) (em_var (pv 9)) (nomark _))))))
    (ssm_one (sm_append (pv 6) (em_tup (am_cons (em_var (pv 9)) (am_cons (em_op op_sub od_sub (em_var (pv 10)) em_int) (am_cons (em_var (pv 11)) (am_cons (em_and (em_cmp op_lt od_lt (em_var (pv 8)) (em_lenV (em_var (pv 1)) (by rfl) z_len) (nomark _)) (em_one (em_cmp op_le od_le (em_ix ix_seq od_ix (em_ix ix_seq od_ix (em_var (pv 1)) (em_var (pv 8)) (fun _ _ => rfl)) em_int (fun _ _ => rfl)) (em_var (pv 9)) (nomark _)))) am_nil)))))))))))
    (ssm_one (sm_retO (pv 6)))))))))

/-! law_closed -/
abbrev s_l_closed : Stmt := topS 27
abbrev n_l_closed : List Str := ["_law_pieces_here", "_law_found", "_law_first", "_law_last"]
theorem sc_l_closed : FnScope n_l_closed ["_law_pieces_here"] (defScope s_l_closed) := ⟨rfl, rfl, rfl, by decide +kernel, rfl, by decide +kernel, by decide +kernel⟩
def b_l_closed_1 : MS :=
    (mIf (mAndT (mB (mEqO true 1 (mLst (mDisp aNil)))) (mB (m2 gEqA (m2 gAddI (m2 gIx (mIxO 1 (mB1 gNeg (mC (.int 1)))) (mC (.int 1))) (mC (.int 1))) (mVar 2)))) (mSetO 1 (mB1 gNeg (mC (.int 1))) (mTup (aCons (m2 gIx (mIxO 1 (mB1 gNeg (mC (.int 1)))) (mC (.int 0))) (aCons (mVar 3) aNil)))) (mApp 1 (mTup (aCons (mVar 2) (aCons (mVar 3) aNil)))))
def b_l_closed : MS :=
    (mSeq (mOwnL 1 (mDisp aNil))
    (mSeq (mFor (.tp [(.nm 2), (.nm 3)]) (iSeq (mVar 0))
    b_l_closed_1)
    (mRet (mQ hTup (qOwn 1)))))
def m_l_closed : MF := mDef 4 b_l_closed
theorem ok_l_closed {P : Program} {w : World} {K : PySem.W.Frag} {mg : Str → Option Value} {base : Heap} {a : Addr} {fd : FuncData} (F : Fun K "_law_closed" "_law_closed" s_l_closed a fd) (z_tuple : mg "tuple" = none) :
    FnG P w K mg base CX0 1 a fd ["_law_pieces_here"] (spM K 1 m_l_closed) := by
  refine def_ok F sc_l_closed ?_
  intro cdv A out s H E hgd hr
  exact ((ssm_cons (sm_own (ps_set (i := 1) sc_l_closed.nd rfl (Or.inl rfl) (nm_lst am_nil)))
    (ssm_cons (sm_for PassesOwn.never rfl (im_seq (em_var (pv 0))) (gm_tup rfl (gsm_cons (gm_name (pg_name (i := 2) sc_l_closed.nd rfl (Or.inl rfl))) (gsm_cons (gm_name (pg_name (i := 3) sc_l_closed.nd rfl (Or.inl rfl))) gsm_nil)))
    (ssm_one (sm_if (WM.tm (wm_and (tm_neO hr.units (pv 1) (em_new (nm_lst am_nil)) (nomark _)) (wm_and1 (tm_cmp (op_eqA hr.units) od_eqA (em_op op_add od_add (em_ix ix_seq od_ix (em_ixO (pv 1) (em_neg em_int) (fun _ _ => rfl)) em_int (fun _ _ => rfl)) em_int) (em_var (pv 2)) (nomark _))))) (ssm_one (sm_setO (ps_asg (em_tup (am_cons (em_ix ix_seq od_ix (em_ixO (pv 1) (em_neg em_int) (fun _ _ => rfl)) em_int (fun _ _ => rfl)) (am_cons (em_var (pv 3)) am_nil))) (pg_sub (pv 1) (em_neg em_int) set_list)))) (ssm_one (sm_append (pv 1) (em_tup (am_cons (em_var (pv 2)) (am_cons (em_var (pv 3)) am_nil))))))))
    (ssm_one (sm_ret (em_tupleQ (qm_own (pv 1)) (by rfl) z_tuple))))))

/-! size -/
abbrev s_p_size : Stmt := topS 12
abbrev n_p_size : List Str := ["lot", "first", "last"]
theorem sc_p_size : FnScope n_p_size ["lot"] (defScope s_p_size) := ⟨rfl, rfl, rfl, by decide +kernel, rfl, by decide +kernel, by decide +kernel⟩
theorem ok_p_size {P : Program} {w : World} {K : PySem.W.Frag} {mg : Str → Option Value} {base : Heap} {a : Addr} {fd : FuncData} (F : Fun K "size" "size" s_p_size a fd) (z_sum : mg "sum" = none) :
    FnG P w K mg base CX0 1 a fd ["lot"] (spM K 1 m_p_size) := by
  refine def_ok F sc_p_size ?_
  intro cdv A out s H E hgd hr
  exact ((ssm_one (sm_ret (em_sum rfl (qm_new (nm_lc (own := [("first", 1), ("last", 2)]) rfl sc_p_size.nd (im_seq (em_var (pv 0))) (blkOk_by (N := n_p_size) (sc := defScope s_p_size) (by decide +kernel)) (by decide) (fun _ _ _ _ _ => (gm_tup rfl (gsm_cons (gm_name (pg_name (i := 1) sc_p_size.nd rfl (Or.inl rfl))) (gsm_cons (gm_name (pg_name (i := 2) sc_p_size.nd rfl (Or.inl rfl))) gsm_nil)))) (fun _ _ _ _ _ => tsm_nil) (fun _ _ _ _ _ => (em_op op_add od_add (em_op op_sub od_sub (em_var (pv 2)) (em_var (pv 1))) em_int)))) (by rfl) z_sum))))

/-! overlaps -/
abbrev s_p_overlaps : Stmt := topS 5
abbrev n_p_overlaps : List Str := ["one", "other", "found", "at", "place", "first", "last"]
theorem sc_p_overlaps : FnScope n_p_overlaps ["one", "other"] (defScope s_p_overlaps) := ⟨rfl, rfl, rfl, by decide +kernel, rfl, by decide +kernel, by decide +kernel⟩
theorem ok_p_overlaps {P : Program} {w : World} {K : PySem.W.Frag} {mg : Str → Option Value} {base : Heap} {a : Addr} {fd : FuncData} (F : Fun K "overlaps" "overlaps" s_p_overlaps a fd) (z_len : mg "len" = none) (z_max : mg "max" = none) (z_min : mg "min" = none) :
    FnG P w K mg base CX0 1 a fd ["one", "other"] (spM K 2 m_p_overlaps) := by
  refine def_ok F sc_p_overlaps ?_
  intro cdv A out s H E hgd hr
  exact ((ssm_cons (sm_own (ps_set (i := 2) sc_p_overlaps.nd rfl (Or.inl rfl) (nm_lst am_nil)))
    (ssm_cons (sm_asg2 (ps_asg2 em_int (pg_name (i := 3) sc_p_overlaps.nd rfl (Or.inl rfl)) (pg_name (i := 4) sc_p_overlaps.nd rfl (Or.inl rfl))))
    (ssm_cons (sm_while PassesOwn.never (WM.tm (wm_and (tm_cmp op_lt od_lt (em_var (pv 3)) (em_lenV (em_var (pv 0)) (by rfl) z_len) (nomark _)) (wm_and1 (tm_cmp op_lt od_lt (em_var (pv 4)) (em_lenV (em_var (pv 1)) (by rfl) z_len) (nomark _)))))
    (ssm_cons (sm_set (ps_set (i := 5) sc_p_overlaps.nd rfl (Or.inl rfl) (em_max2 rfl (am_cons (em_ix ix_seq od_ix (em_ix ix_seq od_ix (em_var (pv 0)) (em_var (pv 3)) (fun _ _ => rfl)) em_int (fun _ _ => rfl)) (am_cons (em_ix ix_seq od_ix (em_ix ix_seq od_ix (em_var (pv 1)) (em_var (pv 4)) (fun _ _ => rfl)) em_int (fun _ _ => rfl)) am_nil)) (by rfl) z_max)))
    (ssm_cons (sm_set (ps_set (i := 6) sc_p_overlaps.nd rfl (Or.inl rfl) (em_min2 rfl (am_cons (em_ix ix_seq od_ix (em_ix ix_seq od_ix (em_var (pv 0)) (em_var (pv 3)) (fun _ _ => rfl)) em_int (fun _ _ => rfl)) (am_cons (em_ix ix_seq od_ix (em_ix ix_seq od_ix (em_var (pv 1)) (em_var (pv 4)) (fun _ _ => rfl)) em_int (fun _ _ => rfl)) am_nil)) (by rfl) z_min)))
    (ssm_cons (sm_if (tm_cmp op_le od_le (em_var (pv 5)) (em_var (pv 6)) (nomark _)) (ssm_one (sm_append (pv 2) (em_tup (am_cons (em_var (pv 5)) (am_cons (em_var (pv 6)) (am_cons (em_var (pv 3)) (am_cons (em_var (pv 4)) am_nil))))))) ssm_nil)
    (ssm_one (sm_if (tm_cmp op_lt od_lt (em_ix ix_seq od_ix (em_ix ix_seq od_ix (em_var (pv 0)) (em_var (pv 3)) (fun _ _ => rfl)) em_int (fun _ _ => rfl)) (em_ix ix_seq od_ix (em_ix ix_seq od_ix (em_var (pv 1)) (em_var (pv 4)) (fun _ _ => rfl)) em_int (fun _ _ => rfl)) (nomark _)) (ssm_one (sm_aug (h := (fun i j => i + j)) (ps_aug (i := 3) sc_p_overlaps.nd rfl (Or.inl rfl) em_int ip_add))) (ssm_one (sm_aug (h := (fun i j => i + j)) (ps_aug (i := 4) sc_p_overlaps.nd rfl (Or.inl rfl) em_int ip_add)))))))))
    (ssm_one (sm_retO (pv 2)))))))

/-! common -/
abbrev s_p_common : Stmt := topS 14
abbrev n_p_common : List Str := ["one", "other", "row"]
theorem sc_p_common : FnScope n_p_common ["one", "other"] (defScope s_p_common) := ⟨rfl, rfl, rfl, by decide +kernel, rfl, by decide +kernel, by decide +kernel⟩
theorem ok_p_common {P : Program} {w : World} {K : PySem.W.Frag} {mg : Str → Option Value} {base : Heap} {a : Addr} {fd : FuncData} (F : Fun K "common" "common" s_p_common a fd) {a_p_overlaps : Addr} {fd_p_overlaps : FuncData} (C_p_overlaps : Own P w K mg base 1 2 "overlaps" ["one", "other"] a_p_overlaps fd_p_overlaps m_p_overlaps) (B_p_overlaps : Binds K fd_p_overlaps ["one", "other"] []) (z_tuple : mg "tuple" = none) :
    FnG P w K mg base CX0 2 a fd ["one", "other"] (spM K 2 m_p_common) := by
  refine def_ok F sc_p_common ?_
  intro cdv A out s H E hgd hr
  exact ((ssm_one (sm_ret (em_tupleQ (qm_new (nm_lc (own := [("row", 2)]) rfl sc_p_common.nd (im_seq (em_own C_p_overlaps B_p_overlaps hgd (hr.mono (by decide)) (by rfl) (am_cons (em_var (pv 0)) (am_cons (em_var (pv 1)) am_nil)))) (blkOk_by (N := n_p_common) (sc := defScope s_p_common) (by decide +kernel)) (by decide) (fun _ _ _ _ _ => (gm_name (pg_name (i := 2) sc_p_common.nd rfl (Or.inl rfl)))) (fun _ _ _ _ _ => tsm_nil) (fun _ _ _ _ _ => (em_slT (em_var (pv 2)) om_none (om_some em_int))))) (by rfl) z_tuple))))

/-! gaps -/
abbrev s_p_gaps : Stmt := topS 16
abbrev n_p_gaps : List Str := ["lot", "end", "found", "begin", "first", "last"]
theorem sc_p_gaps : FnScope n_p_gaps ["lot", "end"] (defScope s_p_gaps) := ⟨rfl, rfl, rfl, by decide +kernel, rfl, by decide +kernel, by decide +kernel⟩
theorem ok_p_gaps {P : Program} {w : World} {K : PySem.W.Frag} {mg : Str → Option Value} {base : Heap} {a : Addr} {fd : FuncData} (F : Fun K "gaps" "gaps" s_p_gaps a fd) (z_tuple : mg "tuple" = none) :
    FnG P w K mg base CX0 1 a fd ["lot", "end"] (spM K 2 m_p_gaps) := by
  refine def_ok F sc_p_gaps ?_
  intro cdv A out s H E hgd hr
  exact ((ssm_cons (sm_own (ps_set (i := 2) sc_p_gaps.nd rfl (Or.inl rfl) (nm_lst am_nil)))
    (ssm_cons (sm_set (ps_set (i := 3) sc_p_gaps.nd rfl (Or.inl rfl) em_int))
    (ssm_cons (sm_for PassesOwn.never rfl (im_seq (em_var (pv 0))) (gm_tup rfl (gsm_cons (gm_name (pg_name (i := 4) sc_p_gaps.nd rfl (Or.inl rfl))) (gsm_cons (gm_name (pg_name (i := 5) sc_p_gaps.nd rfl (Or.inl rfl))) gsm_nil)))
    (ssm_cons (sm_if (tm_cmp op_lt od_lt (em_var (pv 3)) (em_var (pv 4)) (nomark _)) (ssm_one (sm_append (pv 2) (em_tup (am_cons (em_var (pv 3)) (am_cons (em_op op_sub od_sub (em_var (pv 4)) em_int) am_nil))))) ssm_nil)
    (ssm_one (sm_set (ps_set (i := 3) sc_p_gaps.nd rfl (Or.inl rfl) (em_op op_add od_add (em_var (pv 5)) em_int))))))
    (ssm_cons (sm_if (tm_cmp op_le od_le (em_var (pv 3)) (em_var (pv 1)) (nomark _)) (ssm_one (sm_append (pv 2) (em_tup (am_cons (em_var (pv 3)) (am_cons (em_var (pv 1)) am_nil))))) ssm_nil)
    (ssm_one (sm_ret (em_tupleQ (qm_own (pv 2)) (by rfl) z_tuple))))))))

/-! without -/
abbrev s_p_without : Stmt := topS 15
abbrev n_p_without : List Str := ["one", "other"]
theorem sc_p_without : FnScope n_p_without ["one", "other"] (defScope s_p_without) := ⟨rfl, rfl, rfl, by decide +kernel, rfl, by decide +kernel, by decide +kernel⟩
theorem ok_p_without {P : Program} {w : World} {K : PySem.W.Frag} {mg : Str → Option Value} {base : Heap} {a : Addr} {fd : FuncData} (F : Fun K "without" "without" s_p_without a fd) {a_p_common : Addr} {fd_p_common : FuncData} (C_p_common : Own P w K mg base 2 2 "common" ["one", "other"] a_p_common fd_p_common m_p_common) (B_p_common : Binds K fd_p_common ["one", "other"] []) {a_p_gaps : Addr} {fd_p_gaps : FuncData} (C_p_gaps : Own P w K mg base 1 2 "gaps" ["lot", "end"] a_p_gaps fd_p_gaps m_p_gaps) (B_p_gaps : Binds K fd_p_gaps ["lot", "end"] []) :
    FnG P w K mg base CX0 3 a fd ["one", "other"] (spM K 2 m_p_without) := by
  refine def_ok F sc_p_without ?_
  intro cdv A out s H E hgd hr
  exact ((ssm_cons (sm_if (tm_cmp (op_eqA hr.units) od_eqA (em_var (pv 0)) (em_tup am_nil) (nomark _)) (ssm_one (sm_ret (em_tup am_nil))) ssm_nil)
    (ssm_one (sm_ret (em_own C_p_common B_p_common hgd (hr.mono (by decide)) (by rfl) (am_cons (em_var (pv 0)) (am_cons (em_own C_p_gaps B_p_gaps hgd (hr.mono (by decide)) (by rfl) (am_cons (em_var (pv 1)) (am_cons (em_ix ix_seq od_ix (em_ix ix_seq od_ix (em_var (pv 0)) (em_neg em_int) (fun _ _ => rfl)) em_int (fun _ _ => rfl)) am_nil))) am_nil)))))))

/-! is_within -/
abbrev s_p_is_within : Stmt := topS 17
abbrev n_p_is_within : List Str := ["one", "other"]
theorem sc_p_is_within : FnScope n_p_is_within ["one", "other"] (defScope s_p_is_within) := ⟨rfl, rfl, rfl, by decide +kernel, rfl, by decide +kernel, by decide +kernel⟩
theorem ok_p_is_within {P : Program} {w : World} {K : PySem.W.Frag} {mg : Str → Option Value} {base : Heap} {a : Addr} {fd : FuncData} (F : Fun K "is_within" "is_within" s_p_is_within a fd) {a_p_without : Addr} {fd_p_without : FuncData} (C_p_without : Own P w K mg base 3 2 "without" ["one", "other"] a_p_without fd_p_without m_p_without) (B_p_without : Binds K fd_p_without ["one", "other"] []) :
    FnG P w K mg base CX0 4 a fd ["one", "other"] (spM K 2 m_p_is_within) := by
  refine def_ok F sc_p_is_within ?_
  intro cdv A out s H E hgd hr
  exact ((ssm_one (sm_ret (em_cmp (op_eqA hr.units) od_eqA (em_own C_p_without B_p_without hgd (hr.mono (by decide)) (by rfl) (am_cons (em_var (pv 0)) (am_cons (em_var (pv 1)) am_nil))) (em_tup am_nil) (nomark _)))))

/-! has_parts -/
abbrev s_p_has_parts : Stmt := topS 2
abbrev n_p_has_parts : List Str := ["thing", "many"]
theorem sc_p_has_parts : FnScope n_p_has_parts ["thing", "many"] (defScope s_p_has_parts) := ⟨rfl, rfl, rfl, by decide +kernel, rfl, by decide +kernel, by decide +kernel⟩
theorem ok_p_has_parts {P : Program} {w : World} {K : PySem.W.Frag} {mg : Str → Option Value} {base : Heap} {a : Addr} {fd : FuncData} (F : Fun K "has_parts" "has_parts" s_p_has_parts a fd) (z_isinstance : mg "isinstance" = none) (z_len : mg "len" = none) (z_tuple : mg "tuple" = none) :
    FnG P w K mg base CX0 1 a fd ["thing", "many"] (spM K 2 m_p_has_parts) := by
  refine def_ok F sc_p_has_parts ?_
  intro cdv A out s H E hgd hr
  exact ((ssm_one (sm_ret (em_and (em_isi (am_cons (em_var (pv 0)) (am_cons (em_ty (by rfl) z_tuple (by decide +kernel)) am_nil)) (by rfl) z_isinstance) (em_one (em_cmp (op_eqA hr.units) od_eqA (em_lenV (em_var (pv 0)) (by rfl) z_len) (em_var (pv 1)) (nomark _)))))))

/-! is_from -/
abbrev s_p_is_from : Stmt := topS 1
abbrev n_p_is_from : List Str := ["thing", "least"]
theorem sc_p_is_from : FnScope n_p_is_from ["thing", "least"] (defScope s_p_is_from) := ⟨rfl, rfl, rfl, by decide +kernel, rfl, by decide +kernel, by decide +kernel⟩
theorem ok_p_is_from {P : Program} {w : World} {K : PySem.W.Frag} {mg : Str → Option Value} {base : Heap} {a : Addr} {fd : FuncData} (F : Fun K "is_from" "is_from" s_p_is_from a fd) (z_bool : mg "bool" = none) (z_int : mg "int" = none) (z_isinstance : mg "isinstance" = none) :
    FnG P w K mg base CX0 1 a fd ["thing", "least"] (spM K 2 m_p_is_from) := by
  refine def_ok F sc_p_is_from ?_
  intro cdv A out s H E hgd hr
  exact ((ssm_one (sm_ret (em_and (em_isi (am_cons (em_var (pv 0)) (am_cons (em_ty (by rfl) z_int (by decide +kernel)) am_nil)) (by rfl) z_isinstance) (em_and (em_not (em_isi (am_cons (em_var (pv 0)) (am_cons (em_ty (by rfl) z_bool (by decide +kernel)) am_nil)) (by rfl) z_isinstance)) (em_one (em_cmp op_ge od_ge (em_var (pv 0)) (em_var (pv 1)) (nomark _))))))))

/-! is_pair -/
abbrev s_p_is_pair : Stmt := topS 3
abbrev n_p_is_pair : List Str := ["thing"]
theorem sc_p_is_pair : FnScope n_p_is_pair ["thing"] (defScope s_p_is_pair) := ⟨rfl, rfl, rfl, by decide +kernel, rfl, by decide +kernel, by decide +kernel⟩
theorem ok_p_is_pair {P : Program} {w : World} {K : PySem.W.Frag} {mg : Str → Option Value} {base : Heap} {a : Addr} {fd : FuncData} (F : Fun K "is_pair" "is_pair" s_p_is_pair a fd) {a_p_has_parts : Addr} {fd_p_has_parts : FuncData} (C_p_has_parts : Own P w K mg base 1 2 "has_parts" ["thing", "many"] a_p_has_parts fd_p_has_parts m_p_has_parts) (B_p_has_parts : Binds K fd_p_has_parts ["thing", "many"] []) {a_p_is_from : Addr} {fd_p_is_from : FuncData} (C_p_is_from : Own P w K mg base 1 2 "is_from" ["thing", "least"] a_p_is_from fd_p_is_from m_p_is_from) (B_p_is_from : Binds K fd_p_is_from ["thing", "least"] []) :
    FnG P w K mg base CX0 2 a fd ["thing"] (spM K 1 m_p_is_pair) := by
  refine def_ok F sc_p_is_pair ?_
  intro cdv A out s H E hgd hr
  exact ((ssm_one (sm_ret (em_and (em_own C_p_has_parts B_p_has_parts hgd (hr.mono (by decide)) (by rfl) (am_cons (em_var (pv 0)) (am_cons em_int am_nil))) (em_and (em_own C_p_is_from B_p_is_from hgd (hr.mono (by decide)) (by rfl) (am_cons (em_ix ix_seq od_ix (em_var (pv 0)) em_int (fun _ _ => rfl)) (am_cons em_int am_nil))) (em_one (em_own C_p_is_from B_p_is_from hgd (hr.mono (by decide)) (by rfl) (am_cons (em_ix ix_seq od_ix (em_var (pv 0)) em_int (fun _ _ => rfl)) (am_cons em_int am_nil)))))))))

/-! is_run -/
abbrev s_p_is_run : Stmt := topS 4
abbrev n_p_is_run : List Str := ["thing"]
theorem sc_p_is_run : FnScope n_p_is_run ["thing"] (defScope s_p_is_run) := ⟨rfl, rfl, rfl, by decide +kernel, rfl, by decide +kernel, by decide +kernel⟩
theorem ok_p_is_run {P : Program} {w : World} {K : PySem.W.Frag} {mg : Str → Option Value} {base : Heap} {a : Addr} {fd : FuncData} (F : Fun K "is_run" "is_run" s_p_is_run a fd) {a_p_is_pair : Addr} {fd_p_is_pair : FuncData} (C_p_is_pair : Own P w K mg base 2 1 "is_pair" ["thing"] a_p_is_pair fd_p_is_pair m_p_is_pair) (B_p_is_pair : Binds K fd_p_is_pair ["thing"] []) :
    FnG P w K mg base CX0 3 a fd ["thing"] (spM K 1 m_p_is_run) := by
  refine def_ok F sc_p_is_run ?_
  intro cdv A out s H E hgd hr
  exact ((ssm_one (sm_ret (em_and (em_own C_p_is_pair B_p_is_pair hgd (hr.mono (by decide)) (by rfl) (am_cons (em_var (pv 0)) am_nil)) (em_one (em_cmp op_le od_le (em_ix ix_seq od_ix (em_var (pv 0)) em_int (fun _ _ => rfl)) (em_ix ix_seq od_ix (em_var (pv 0)) em_int (fun _ _ => rfl)) (nomark _)))))))

/-! is_lot -/
abbrev s_p_is_lot : Stmt := topS 11
abbrev n_p_is_lot : List Str := ["thing", "run", "ahead", "behind"]
theorem sc_p_is_lot : FnScope n_p_is_lot ["thing"] (defScope s_p_is_lot) := ⟨rfl, rfl, rfl, by decide +kernel, rfl, by decide +kernel, by decide +kernel⟩
theorem ok_p_is_lot {P : Program} {w : World} {K : PySem.W.Frag} {mg : Str → Option Value} {base : Heap} {a : Addr} {fd : FuncData} (F : Fun K "is_lot" "is_lot" s_p_is_lot a fd) {a_p_is_run : Addr} {fd_p_is_run : FuncData} (C_p_is_run : Own P w K mg base 3 1 "is_run" ["thing"] a_p_is_run fd_p_is_run m_p_is_run) (B_p_is_run : Binds K fd_p_is_run ["thing"] []) (z_all : mg "all" = none) (z_isinstance : mg "isinstance" = none) (z_tuple : mg "tuple" = none) (z_zip : mg "zip" = none) :
    FnG P w K mg base CX0 4 a fd ["thing"] (spM K 1 m_p_is_lot) := by
  refine def_ok F sc_p_is_lot ?_
  intro cdv A out s H E hgd hr
  exact ((ssm_cons (sm_if (WM.tm (wm_or (tm_not (tm_val (em_isi (am_cons (em_var (pv 0)) (am_cons (em_ty (by rfl) z_tuple (by decide +kernel)) am_nil)) (by rfl) z_isinstance))) (wm_or1 (tm_not (tm_val (em_all rfl (qm_new (nm_lc (own := [("run", 1)]) rfl sc_p_is_lot.nd (im_seq (em_var (pv 0))) (blkOk_by (N := n_p_is_lot) (sc := defScope s_p_is_lot) (by decide +kernel)) (by decide) (fun _ _ _ _ _ => (gm_name (pg_name (i := 1) sc_p_is_lot.nd rfl (Or.inl rfl)))) (fun _ _ _ _ _ => tsm_nil) (fun _ _ _ _ _ => (em_own C_p_is_run B_p_is_run hgd (hr.mono (by decide)) (by rfl) (am_cons (em_var (pv 1)) am_nil))))) (by rfl) z_all)))))) (ssm_one (sm_ret em_bl)) ssm_nil)
    (ssm_one (sm_ret (em_all rfl (qm_new (nm_lc (own := [("ahead", 2), ("behind", 3)]) rfl sc_p_is_lot.nd (im_zip (am_cons (em_var (pv 0)) (am_cons (em_slT (em_var (pv 0)) (om_some em_int) om_none) am_nil)) (by rfl) z_zip) (blkOk_by (N := n_p_is_lot) (sc := defScope s_p_is_lot) (by decide +kernel)) (by decide) (fun _ _ _ _ _ => (gm_tup rfl (gsm_cons (gm_name (pg_name (i := 2) sc_p_is_lot.nd rfl (Or.inl rfl))) (gsm_cons (gm_name (pg_name (i := 3) sc_p_is_lot.nd rfl (Or.inl rfl))) gsm_nil)))) (fun _ _ _ _ _ => tsm_nil) (fun _ _ _ _ _ => (em_cmp op_lt od_lt (em_op op_add od_add (em_ix ix_seq od_ix (em_var (pv 2)) em_int (fun _ _ => rfl)) em_int) (em_ix ix_seq od_ix (em_var (pv 3)) em_int (fun _ _ => rfl)) (nomark _))))) (by rfl) z_all)))))

/-! knitted -/
abbrev s_p_knitted : Stmt := topS 6
abbrev n_p_knitted : List Str := ["rows", "found", "row"]
theorem sc_p_knitted : FnScope n_p_knitted ["rows"] (defScope s_p_knitted) := ⟨rfl, rfl, rfl, by decide +kernel, rfl, by decide +kernel, by decide +kernel⟩
theorem ok_p_knitted {P : Program} {w : World} {K : PySem.W.Frag} {mg : Str → Option Value} {base : Heap} {a : Addr} {fd : FuncData} (F : Fun K "knitted" "knitted" s_p_knitted a fd) (z_tuple : mg "tuple" = none) :
    FnG P w K mg base CX0 1 a fd ["rows"] (spM K 1 m_p_knitted) := by
  refine def_ok F sc_p_knitted ?_
  intro cdv A out s H E hgd hr
  exact ((ssm_cons (sm_own (ps_set (i := 1) sc_p_knitted.nd rfl (Or.inl rfl) (nm_lst am_nil)))
    (ssm_cons (sm_for PassesOwn.never rfl (im_seq (em_var (pv 0))) (gm_name (pg_name (i := 2) sc_p_knitted.nd rfl (Or.inl rfl)))
    (ssm_one (sm_if (WM.tm (wm_and (tm_truQ (qm_own (pv 1))) (wm_and (tm_cmp (op_eqA hr.units) od_eqA (em_op op_add od_add (em_ix ix_seq od_ix (em_ixO (pv 1) (em_neg em_int) (fun _ _ => rfl)) em_int (fun _ _ => rfl)) em_int) (em_ix ix_seq od_ix (em_var (pv 2)) em_int (fun _ _ => rfl)) (nomark _)) (wm_and1 (tm_cmp (op_eqA hr.units) od_eqA (em_slT (em_ixO (pv 1) (em_neg em_int) (fun _ _ => rfl)) (om_some em_int) om_none) (em_slT (em_var (pv 2)) (om_some em_int) om_none) (nomark _)))))) (ssm_one (sm_setO (ps_asg (em_op op_catA od_catT (em_slT (em_ixO (pv 1) (em_neg em_int) (fun _ _ => rfl)) om_none (om_some em_int)) (em_slT (em_var (pv 2)) (om_some em_int) om_none)) (pg_sub (pv 1) (em_neg em_int) set_list)))) (ssm_one (sm_append (pv 1) (em_var (pv 2)))))))
    (ssm_one (sm_ret (em_tupleQ (qm_own (pv 1)) (by rfl) z_tuple))))))

/-! joined -/
abbrev s_p_joined : Stmt := topS 13
abbrev n_p_joined : List Str := ["one", "other"]
theorem sc_p_joined : FnScope n_p_joined ["one", "other"] (defScope s_p_joined) := ⟨rfl, rfl, rfl, by decide +kernel, rfl, by decide +kernel, by decide +kernel⟩
theorem ok_p_joined {P : Program} {w : World} {K : PySem.W.Frag} {mg : Str → Option Value} {base : Heap} {a : Addr} {fd : FuncData} (F : Fun K "joined" "joined" s_p_joined a fd) {a_p_knitted : Addr} {fd_p_knitted : FuncData} (C_p_knitted : Own P w K mg base 1 1 "knitted" ["rows"] a_p_knitted fd_p_knitted m_p_knitted) (B_p_knitted : Binds K fd_p_knitted ["rows"] []) {a_p_without : Addr} {fd_p_without : FuncData} (C_p_without : Own P w K mg base 3 2 "without" ["one", "other"] a_p_without fd_p_without m_p_without) (B_p_without : Binds K fd_p_without ["one", "other"] []) (z_sorted : mg "sorted" = none) :
    FnG P w K mg base CX0 4 a fd ["one", "other"] (spM K 2 m_p_joined) := by
  refine def_ok F sc_p_joined ?_
  intro cdv A out s H E hgd hr
  exact ((ssm_cons (sm_if (WM.tm (wm_or (tm_cmp (op_eqA hr.units) od_eqA (em_var (pv 0)) (em_tup am_nil) (nomark _)) (wm_or1 (tm_cmp (op_eqA hr.units) od_eqA (em_var (pv 1)) (em_tup am_nil) (nomark _))))) (ssm_one (sm_ret (em_op op_catA od_catT (em_var (pv 0)) (em_var (pv 1))))) ssm_nil)
    (ssm_one (sm_ret (em_own C_p_knitted B_p_knitted hgd (hr.mono (by decide)) (by rfl) (am_cons (em_new (nm_sortV hr.units (em_op op_catA od_catT (em_var (pv 0)) (em_own C_p_without B_p_without hgd (hr.mono (by decide)) (by rfl) (am_cons (em_var (pv 1)) (am_cons (em_var (pv 0)) am_nil)))) (by rfl) z_sorted)) am_nil))))))

/-! law_two_right -/
abbrev s_l_two_right : Stmt := topS 28
abbrev n_l_two_right : List Str := ["_law_left", "_law_right", "_law_pieces_here", "_law_due", "_law_often", "_law_told", "_law_row", "_law_runs"]
theorem sc_l_two_right : FnScope n_l_two_right ["_law_left", "_law_right"] (defScope s_l_two_right) := ⟨rfl, rfl, rfl, by decide +kernel, rfl, by decide +kernel, by decide +kernel⟩
def e_l_two_right_1 : ME :=
    (mSlT (mVar 6) oNone (oSome (mC (.int 2))))
def t_l_two_right_2 : MT :=
    (mOrT (mB (m2 gIx (mVar 6) (mC (.int 2)))) (mB (m2 gIx (mVar 6) (mC (.int 3)))))
def e_l_two_right_3 : ME :=
    (mSlT (mVar 6) oNone (oSome (mC (.int 2))))
def t_l_two_right_4 : MT :=
    (mAndT (mB (m2 gIx (mVar 6) (mC (.int 2)))) (mB (m2 gIx (mVar 6) (mC (.int 3)))))
def e_l_two_right_5 : ME :=
    (mSlT (mVar 6) oNone (oSome (mC (.int 2))))
def t_l_two_right_6 : MT :=
    (mAndT (mB (m2 gIx (mVar 6) (mC (.int 2)))) (mNotT (mB (m2 gIx (mVar 6) (mC (.int 3))))))
def e_l_two_right_7 : ME :=
    (m2 gAddI (m2 gSubI (m2 gIx (mVar 6) (mC (.int 1))) (m2 gIx (mVar 6) (mC (.int 0)))) (mC (.int 1)))
def t_l_two_right_8 : MT :=
    (mB (m2 gIx (mVar 6) (mC (.int 2))))
def e_l_two_right_9 : ME :=
    (mCall m_p_is_lot 1 [] (aCons (mVar 7) aNil))
def b_l_two_right : MS :=
    (mSeq (mSet 2 (mCall m_l_pieces 2 [] (aCons (mVar 0) (aCons (mVar 1) aNil))))
    (mSeq (mOwnL 3 (mDisp (aCons (mCall m_l_closed 1 [] (aCons (mLst (mLc (iSeq (mVar 2)) (.nm 6) [6] t_l_two_right_2 e_l_two_right_1)) aNil)) aNil)))
    (mSeq (mApp 3 (mCall m_l_closed 1 [] (aCons (mLst (mLc (iSeq (mVar 2)) (.nm 6) [6] t_l_two_right_4 e_l_two_right_3)) aNil)))
    (mSeq (mApp 3 (mCall m_l_closed 1 [] (aCons (mLst (mLc (iSeq (mVar 2)) (.nm 6) [6] t_l_two_right_6 e_l_two_right_5)) aNil)))
    (mRest 3 (mSeq (mIf (mB (m2 gNeA (mB1 gReprV (mLst (mDisp (aCons (mCall m_p_joined 2 [] (aCons (mVar 0) (aCons (mVar 1) aNil))) (aCons (mCall m_p_common 2 [] (aCons (mVar 0) (aCons (mVar 1) aNil))) (aCons (mCall m_p_without 2 [] (aCons (mVar 0) (aCons (mVar 1) aNil))) aNil)))))) (mB1 gReprV (mVar 3)))) (mRet (mC (.bl false))) mNil)
    (mSeq (mSet 4 (mQ hSum (mLc (iSeq (mVar 2)) (.nm 6) [6] t_l_two_right_8 e_l_two_right_7)))
    (mSeq (mSet 5 (mLst (mDisp (aCons (mCall m_p_size 1 [] (aCons (mVar 0) aNil)) (aCons (mCall m_p_is_within 2 [] (aCons (mVar 0) (aCons (mVar 1) aNil))) (aCons (mLst (mLc (iSeq (mVar 3)) (.nm 7) [7] mYes e_l_two_right_9)) aNil))))))
    (mRet (m2 gEqA (mB1 gReprV (mVar 5)) (mB1 gReprV (mLst (mDisp (aCons (mVar 4) (aCons (m2 gEqA (m2 gIx (mVar 3) (mC (.int 2))) (mTup aNil)) (aCons (mLst (mDisp (aCons (mC (.bl true)) (aCons (mC (.bl true)) (aCons (mC (.bl true)) aNil))))) aNil))))))))))))))))
def m_l_two_right : MF := mDef 8 b_l_two_right
theorem ok_l_two_right {P : Program} {w : World} {K : PySem.W.Frag} {mg : Str → Option Value} {base : Heap} {a : Addr} {fd : FuncData} (F : Fun K "_law_two_right" "_law_two_right" s_l_two_right a fd) {a_l_closed : Addr} {fd_l_closed : FuncData} (C_l_closed : Own P w K mg base 1 1 "_law_closed" ["_law_pieces_here"] a_l_closed fd_l_closed m_l_closed) (B_l_closed : Binds K fd_l_closed ["_law_pieces_here"] []) {a_l_pieces : Addr} {fd_l_pieces : FuncData} (C_l_pieces : Own P w K mg base 1 2 "_law_pieces" ["_law_left", "_law_right"] a_l_pieces fd_l_pieces m_l_pieces) (B_l_pieces : Binds K fd_l_pieces ["_law_left", "_law_right"] []) {a_p_common : Addr} {fd_p_common : FuncData} (C_p_common : Own P w K mg base 2 2 "common" ["one", "other"] a_p_common fd_p_common m_p_common) (B_p_common : Binds K fd_p_common ["one", "other"] []) {a_p_is_lot : Addr} {fd_p_is_lot : FuncData} (C_p_is_lot : Own P w K mg base 4 1 "is_lot" ["thing"] a_p_is_lot fd_p_is_lot m_p_is_lot) (B_p_is_lot : Binds K fd_p_is_lot ["thing"] []) {a_p_is_within : Addr} {fd_p_is_within : FuncData} (C_p_is_within : Own P w K mg base 4 2 "is_within" ["one", "other"] a_p_is_within fd_p_is_within m_p_is_within) (B_p_is_within : Binds K fd_p_is_within ["one", "other"] []) {a_p_joined : Addr} {fd_p_joined : FuncData} (C_p_joined : Own P w K mg base 4 2 "joined" ["one", "other"] a_p_joined fd_p_joined m_p_joined) (B_p_joined : Binds K fd_p_joined ["one", "other"] []) {a_p_size : Addr} {fd_p_size : FuncData} (C_p_size : Own P w K mg base 1 1 "size" ["lot"] a_p_size fd_p_size m_p_size) (B_p_size : Binds K fd_p_size ["lot"] []) {a_p_without : Addr} {fd_p_without : FuncData} (C_p_without : Own P w K mg base 3 2 "without" ["one", "other"] a_p_without fd_p_without m_p_without) (B_p_without : Binds K fd_p_without ["one", "other"] []) (z_repr : mg "repr" = none) (z_sum : mg "sum" = none) :
    FnG P w K mg base CX0 5 a fd ["_law_left", "_law_right"] (spM K 2 m_l_two_right) := by
  refine def_ok F sc_l_two_right ?_
  intro cdv A out s H E hgd hr
  exact ((ssm_cons (sm_set (ps_set (i := 2) sc_l_two_right.nd rfl (Or.inl rfl) (em_own C_l_pieces B_l_pieces hgd (hr.mono (by decide)) (by rfl) (am_cons (em_var (pv 0)) (am_cons (em_var (pv 1)) am_nil)))))
    (ssm_cons (sm_own (ps_set (i := 3) sc_l_two_right.nd rfl (Or.inl rfl) (nm_lst (am_cons (em_own C_l_closed B_l_closed hgd (hr.mono (by decide)) (by rfl) (am_cons (em_new (nm_lc (own := [("_law_row", 6)]) rfl sc_l_two_right.nd (im_seq (em_var (pv 2))) (blkOk_by (N := n_l_two_right) (sc := defScope s_l_two_right) (by decide +kernel)) (by decide) (fun _ _ _ _ _ => (gm_name (pg_name (i := 6) sc_l_two_right.nd rfl (Or.inl rfl)))) (fun _ _ _ _ _ => (tsm_one (WM.tm (wm_or (tm_val (em_ix ix_seq od_ix (em_var (pv 6)) em_int (fun _ _ => rfl))) (wm_or1 (tm_val (em_ix ix_seq od_ix (em_var (pv 6)) em_int (fun _ _ => rfl)))))))) (fun _ _ _ _ _ => (em_slT (em_var (pv 6)) om_none (om_some em_int))))) am_nil)) am_nil))))
    (ssm_cons (sm_append (pv 3) (em_own C_l_closed B_l_closed hgd (hr.mono (by decide)) (by rfl) (am_cons (em_new (nm_lc (own := [("_law_row", 6)]) rfl sc_l_two_right.nd (im_seq (em_var (pv 2))) (blkOk_by (N := n_l_two_right) (sc := defScope s_l_two_right) (by decide +kernel)) (by decide) (fun _ _ _ _ _ => (gm_name (pg_name (i := 6) sc_l_two_right.nd rfl (Or.inl rfl)))) (fun _ _ _ _ _ => (tsm_one (WM.tm (wm_and (tm_val (em_ix ix_seq od_ix (em_var (pv 6)) em_int (fun _ _ => rfl))) (wm_and1 (tm_val (em_ix ix_seq od_ix (em_var (pv 6)) em_int (fun _ _ => rfl)))))))) (fun _ _ _ _ _ => (em_slT (em_var (pv 6)) om_none (om_some em_int))))) am_nil)))
    (ssm_cons (sm_append (pv 3) (em_own C_l_closed B_l_closed hgd (hr.mono (by decide)) (by rfl) (am_cons (em_new (nm_lc (own := [("_law_row", 6)]) rfl sc_l_two_right.nd (im_seq (em_var (pv 2))) (blkOk_by (N := n_l_two_right) (sc := defScope s_l_two_right) (by decide +kernel)) (by decide) (fun _ _ _ _ _ => (gm_name (pg_name (i := 6) sc_l_two_right.nd rfl (Or.inl rfl)))) (fun _ _ _ _ _ => (tsm_one (WM.tm (wm_and (tm_val (em_ix ix_seq od_ix (em_var (pv 6)) em_int (fun _ _ => rfl))) (wm_and1 (tm_not (tm_val (em_ix ix_seq od_ix (em_var (pv 6)) em_int (fun _ _ => rfl))))))))) (fun _ _ _ _ _ => (em_slT (em_var (pv 6)) om_none (om_some em_int))))) am_nil)))
    (ssm_rest 3 (ssm_cons (sm_if (tm_cmp (op_neA hr.units) od_neA (em_reprV hgd hr.units (em_new (nm_lst (am_cons (em_own C_p_joined B_p_joined hgd (hr.mono (by decide)) (by rfl) (am_cons (em_var (pv 0)) (am_cons (em_var (pv 1)) am_nil))) (am_cons (em_own C_p_common B_p_common hgd (hr.mono (by decide)) (by rfl) (am_cons (em_var (pv 0)) (am_cons (em_var (pv 1)) am_nil))) (am_cons (em_own C_p_without B_p_without hgd (hr.mono (by decide)) (by rfl) (am_cons (em_var (pv 0)) (am_cons (em_var (pv 1)) am_nil))) am_nil))))) (by rfl) z_repr) (em_reprV hgd hr.units (em_var (pv 3)) (by rfl) z_repr) (nomark _)) (ssm_one (sm_ret em_bl)) ssm_nil)
    (ssm_cons (sm_set (ps_set (i := 4) sc_l_two_right.nd rfl (Or.inl rfl) (em_sum rfl (qm_new (nm_lc (own := [("_law_row", 6)]) rfl sc_l_two_right.nd (im_seq (em_var (pv 2))) (blkOk_by (N := n_l_two_right) (sc := defScope s_l_two_right) (by decide +kernel)) (by decide) (fun _ _ _ _ _ => (gm_name (pg_name (i := 6) sc_l_two_right.nd rfl (Or.inl rfl)))) (fun _ _ _ _ _ => (tsm_one (tm_val (em_ix ix_seq od_ix (em_var (pv 6)) em_int (fun _ _ => rfl))))) (fun _ _ _ _ _ => (em_op op_add od_add (em_op op_sub od_sub (em_ix ix_seq od_ix (em_var (pv 6)) em_int (fun _ _ => rfl)) (em_ix ix_seq od_ix (em_var (pv 6)) em_int (fun _ _ => rfl))) em_int)))) (by rfl) z_sum)))
    (ssm_cons (sm_set (ps_set (i := 5) sc_l_two_right.nd rfl (Or.inl rfl) (em_new (nm_lst (am_cons (em_own C_p_size B_p_size hgd (hr.mono (by decide)) (by rfl) (am_cons (em_var (pv 0)) am_nil)) (am_cons (em_own C_p_is_within B_p_is_within hgd (hr.mono (by decide)) (by rfl) (am_cons (em_var (pv 0)) (am_cons (em_var (pv 1)) am_nil))) (am_cons (em_new (nm_lc (own := [("_law_runs", 7)]) rfl sc_l_two_right.nd (im_seq (em_var (pv 3))) (blkOk_by (N := n_l_two_right) (sc := defScope s_l_two_right) (by decide +kernel)) (by decide) (fun _ _ _ _ _ => (gm_name (pg_name (i := 7) sc_l_two_right.nd rfl (Or.inl rfl)))) (fun _ _ _ _ _ => tsm_nil) (fun _ _ _ _ _ => (em_own C_p_is_lot B_p_is_lot hgd (hr.mono (by decide)) (by rfl) (am_cons (em_var (pv 7)) am_nil))))) am_nil)))))))
    (ssm_one (sm_ret (em_cmp (op_eqA hr.units) od_eqA (em_reprV hgd hr.units (em_var (pv 5)) (by rfl) z_repr) (em_reprV hgd hr.units (em_new (nm_lst (am_cons (em_var (pv 4)) (am_cons (em_cmp (op_eqA hr.units) od_eqA (em_ix ix_seq od_ix (em_var (pv 3)) em_int (fun _ _ => rfl)) (em_tup am_nil) (nomark _)) (am_cons (em_new (nm_lst (am_cons em_bl (am_cons em_bl (am_cons em_bl am_nil))))) am_nil))))) (by rfl) z_repr) (nomark _)))))))))))))

/-! points_in -/
abbrev s_p_points_in : Stmt := topS 19
abbrev n_p_points_in : List Str := ["lot", "most", "many", "first", "last", "point"]
theorem sc_p_points_in : FnScope n_p_points_in ["lot", "most"] (defScope s_p_points_in) := ⟨rfl, rfl, rfl, by decide +kernel, rfl, by decide +kernel, by decide +kernel⟩
theorem ok_p_points_in {P : Program} {w : World} {K : PySem.W.Frag} {mg : Str → Option Value} {base : Heap} {a : Addr} {fd : FuncData} (F : Fun K "points_in" "points_in" s_p_points_in a fd) {a_p_size : Addr} {fd_p_size : FuncData} (C_p_size : Own P w K mg base 1 1 "size" ["lot"] a_p_size fd_p_size m_p_size) (B_p_size : Binds K fd_p_size ["lot"] []) {C_TooMany : Addr} (R_TooMany : ExC1 P w K mg base 1 "TooMany" "many" C_TooMany) (z_range : mg "range" = none) (z_tuple : mg "tuple" = none) :
    FnG P w K mg base (L2.CX P w) 3 a fd ["lot", "most"] (spX K mg 2 m_p_points_in) := by
  refine def_okX F sc_p_points_in ?_
  intro cdv A out s H E hgd hr tk
  exact ((xsm_cons (xm_up (sm_set (ps_set (i := 2) sc_p_points_in.nd rfl (Or.inl rfl) (em_own C_p_size B_p_size hgd (hr.mono (by decide)) (by rfl) (am_cons (em_var (pv 0)) am_nil)))))
    (xsm_cons (xm_if (tm_cmp op_gt od_gt (em_var (pv 2)) (em_var (pv 1)) (nomark _)) (xsm_one (xm_raiseC R_TooMany tk rfl (hr.mono (by decide)) (by rfl) (em_var (pv 2)))) (xsm_up ssm_nil))
    (xsm_one (xm_up (sm_ret (em_tupleQ (qm_new (nm_lc2 (own := [("first", 3), ("last", 4), ("point", 5)]) (vs1 := [5]) rfl sc_p_points_in.nd (im_seq (em_var (pv 0))) (blkOk_by (N := n_p_points_in) (sc := defScope s_p_points_in) (by decide +kernel)) (by decide) (by decide) (by decide) (fun _ _ _ _ _ => (gm_tup rfl (gsm_cons (gm_name (pg_name (i := 3) sc_p_points_in.nd rfl (Or.inl rfl))) (gsm_cons (gm_name (pg_name (i := 4) sc_p_points_in.nd rfl (Or.inl rfl))) gsm_nil)))) (fun _ _ _ _ _ => tsm_nil) (fun _ _ _ _ _ => (im_rg2 (by rfl) z_range (am_cons (em_var (pv 3)) (am_cons (em_op op_add od_add (em_var (pv 4)) em_int) am_nil)))) (fun _ _ _ _ _ => (gm_name (pg_name (i := 5) sc_p_points_in.nd rfl (Or.inl rfl)))) (fun _ _ _ _ _ => tsm_nil) (fun _ _ _ _ _ => (em_var (pv 5))))) (by rfl) z_tuple)))))))

/-! picked -/
abbrev s_p_picked : Stmt := topS 18
abbrev n_p_picked : List Str := ["lot", "many", "skip", "found", "first", "last", "begin", "end"]
theorem sc_p_picked : FnScope n_p_picked ["lot", "many", "skip"] (defScope s_p_picked) := ⟨rfl, rfl, rfl, by decide +kernel, rfl, by decide +kernel, by decide +kernel⟩
theorem ok_p_picked {P : Program} {w : World} {K : PySem.W.Frag} {mg : Str → Option Value} {base : Heap} {a : Addr} {fd : FuncData} (F : Fun K "picked" "picked" s_p_picked a fd) (z_min : mg "min" = none) (z_tuple : mg "tuple" = none) :
    FnG P w K mg base CX0 1 a fd ["lot", "many", "skip"] (spM K 3 m_p_picked) := by
  refine def_ok F sc_p_picked ?_
  intro cdv A out s H E hgd hr
  exact ((ssm_cons (sm_own (ps_set (i := 3) sc_p_picked.nd rfl (Or.inl rfl) (nm_lst am_nil)))
    (ssm_cons (sm_for PassesOwn.never rfl (im_seq (em_var (pv 0))) (gm_tup rfl (gsm_cons (gm_name (pg_name (i := 4) sc_p_picked.nd rfl (Or.inl rfl))) (gsm_cons (gm_name (pg_name (i := 5) sc_p_picked.nd rfl (Or.inl rfl))) gsm_nil)))
    (ssm_cons (sm_set (ps_set (i := 6) sc_p_picked.nd rfl (Or.inl rfl) (em_min2 rfl (am_cons (em_op op_add od_add (em_var (pv 4)) (em_var (pv 2))) (am_cons (em_op op_add od_add (em_var (pv 5)) em_int) am_nil)) (by rfl) z_min)))
    (ssm_cons (sm_set (ps_set (i := 7) sc_p_picked.nd rfl (Or.inl rfl) (em_min2 rfl (am_cons (em_var (pv 5)) (am_cons (em_op op_sub od_sub (em_op op_add od_add (em_var (pv 6)) (em_var (pv 1))) em_int) am_nil)) (by rfl) z_min)))
    (ssm_cons (sm_aug (h := (fun i j => i - j)) (ps_aug (i := 2) sc_p_picked.nd rfl (Or.inl rfl) (em_op op_sub od_sub (em_var (pv 6)) (em_var (pv 4))) ip_sub))
    (ssm_cons (sm_aug (h := (fun i j => i - j)) (ps_aug (i := 1) sc_p_picked.nd rfl (Or.inl rfl) (em_op op_add od_add (em_op op_sub od_sub (em_var (pv 7)) (em_var (pv 6))) em_int) ip_sub))
    (ssm_one (sm_if (tm_cmp op_le od_le (em_var (pv 6)) (em_var (pv 7)) (nomark _)) (ssm_one (sm_append (pv 3) (em_tup (am_cons (em_var (pv 6)) (am_cons (em_var (pv 7)) am_nil))))) ssm_nil)))))))
    (ssm_one (sm_ret (em_tupleQ (qm_own (pv 3)) (by rfl) z_tuple))))))

/-! law_too_many -/
abbrev s_l_too_many : Stmt := topS 30
abbrev n_l_too_many : List Str := ["_law_runs", "_law_often", "error"]
theorem sc_l_too_many : FnScope n_l_too_many ["_law_runs"] (defScope s_l_too_many) := ⟨rfl, rfl, rfl, by decide +kernel, rfl, by decide +kernel, by decide +kernel⟩
def b_l_too_many : MS :=
    (mSeq (mSet 1 (mC .non))
    (mSeq (mTryF (mDropX (mCallX m_p_points_in 2 [.int 200] (aCons (mVar 0) aNil))) "TooMany" 2 1 "many")
    (mRet (mVar 1))))
def m_l_too_many : MF := mDef 3 b_l_too_many
theorem ok_l_too_many {P : Program} {w : World} {K : PySem.W.Frag} {mg : Str → Option Value} {base : Heap} {a : Addr} {fd : FuncData} (F : Fun K "_law_too_many" "_law_too_many" s_l_too_many a fd) {a_p_points_in : Addr} {fd_p_points_in : FuncData} (C_p_points_in : Own P w K mg base 3 2 "points_in" ["lot", "most"] a_p_points_in fd_p_points_in (mNo m_p_points_in)) (X_p_points_in : OwnX P w K mg base 3 2 "points_in" ["lot", "most"] a_p_points_in fd_p_points_in m_p_points_in) (D_p_points_in_1_ : MixD K fd_p_points_in ["lot", "most"] [] 1 [0] [.int 200]) {C_TooMany : Addr} (R_TooMany : ExC1 P w K mg base 1 "TooMany" "many" C_TooMany) :
    FnG P w K mg base CX0 4 a fd ["_law_runs"] (spM K 1 m_l_too_many) := by
  refine def_ok F sc_l_too_many ?_
  intro cdv A out s H E hgd hr
  exact ((ssm_cons (sm_set (ps_set (i := 1) sc_l_too_many.nd rfl (Or.inl rfl) em_non))
    (ssm_cons (sm_tryC (i := 2) (j := 1) R_TooMany sc_l_too_many.nd rfl rfl rfl rfl (by decide) rfl (Or.inl rfl) rfl (by first | exact .inl rfl | exact .inr (.inl rfl) | exact .inr (.inr rfl)) (by rfl) (by decide) (fun W pn xe tk => (xsm_one (xm_drop (ex_callP X_p_points_in.at_ X_p_points_in.kp X_p_points_in.ok D_p_points_in_1_ (fun us h => match us, h with | [_], _ => rfl) rfl tk hgd (hr.mono (by decide)) (by rfl) (am_cons (em_var (pv 0)) am_nil))))))
    (ssm_one (sm_ret (em_var (pv 1)))))))

/-! law_points_right -/
abbrev s_l_points_right : Stmt := topS 31
abbrev n_l_points_right : List Str := ["_law_runs", "_law_whole", "_law_some", "_law_more", "_law_told", "_law_p"]
theorem sc_l_points_right : FnScope n_l_points_right ["_law_runs"] (defScope s_l_points_right) := ⟨rfl, rfl, rfl, by decide +kernel, rfl, by decide +kernel, by decide +kernel⟩
def e_l_points_right_1 : ME :=
    (mTup (aCons (mVar 5) (aCons (mVar 5) aNil)))
def b_l_points_right : MS :=
    (mSeq (mPar [1, 2, 3] (sVal (mCall m_p_size 1 [] (aCons (mVar 0) aNil)) (sVal (mCall m_p_picked 3 [.int 0] (aCons (mVar 0) (aCons (mC (.int 200)) aNil))) (sVal (mCall m_p_picked 3 [.int 0] (aCons (mVar 0) (aCons (mC (.int 201)) aNil))) sNil))))
    (mSeq (mSet 4 (mCall (mNo m_p_points_in) 2 [.int 200] (aCons (mVar 2) aNil)))
    (mSeq (mIf (mOrT (mB (m2 gNeA (mB1 gLen (mVar 4)) (mA hMin2 (aCons (mC (.int 200)) (aCons (mVar 1) aNil))))) (mOrT (mB (m2 gNeA (mLst (mVL hList (mVar 4))) (mLst (mSortSet (mVar 4))))) (mB (m2 gNeA (mCall m_l_closed 1 [] (aCons (mLst (mLc (iSeq (mVar 4)) (.nm 5) [5] mYes e_l_points_right_1)) aNil)) (mVar 2))))) (mRet (mC (.bl false))) mNil)
    (mSeq (mIf (mAndT (mB (m2 gGt (mVar 1) (mC (.int 200)))) (mOrT (mB (m2 gNeA (mCall m_l_too_many 1 [] (aCons (mVar 3) aNil)) (mC (.int 201)))) (mB (m2 gNeA (mB1 gLen (mCallK (mNo m_p_points_in) 2 1 1 (pickIx [0, 1]) (aCons (mVar 3) aNil) (aCons (mC (.int 201)) aNil))) (mC (.int 201)))))) (mRet (mC (.bl false))) mNil)
    (mRet (m2 gEqA (mCall m_l_too_many 1 [] (aCons (mVar 0) aNil)) (mIfE (mB (m2 gGt (mVar 1) (mC (.int 200)))) (mVar 1) (mC .non))))))))
def m_l_points_right : MF := mDef 6 b_l_points_right
theorem ok_l_points_right {P : Program} {w : World} {K : PySem.W.Frag} {mg : Str → Option Value} {base : Heap} {a : Addr} {fd : FuncData} (F : Fun K "_law_points_right" "_law_points_right" s_l_points_right a fd) {a_l_closed : Addr} {fd_l_closed : FuncData} (C_l_closed : Own P w K mg base 1 1 "_law_closed" ["_law_pieces_here"] a_l_closed fd_l_closed m_l_closed) (B_l_closed : Binds K fd_l_closed ["_law_pieces_here"] []) {a_l_too_many : Addr} {fd_l_too_many : FuncData} (C_l_too_many : Own P w K mg base 4 1 "_law_too_many" ["_law_runs"] a_l_too_many fd_l_too_many m_l_too_many) (B_l_too_many : Binds K fd_l_too_many ["_law_runs"] []) {a_p_picked : Addr} {fd_p_picked : FuncData} (C_p_picked : Own P w K mg base 1 3 "picked" ["lot", "many", "skip"] a_p_picked fd_p_picked m_p_picked) {a_p_points_in : Addr} {fd_p_points_in : FuncData} (C_p_points_in : Own P w K mg base 3 2 "points_in" ["lot", "most"] a_p_points_in fd_p_points_in (mNo m_p_points_in)) {a_p_size : Addr} {fd_p_size : FuncData} (C_p_size : Own P w K mg base 1 1 "size" ["lot"] a_p_size fd_p_size m_p_size) (B_p_size : Binds K fd_p_size ["lot"] []) (K_p_points_in_1_most : Mix fd_p_points_in ["lot", "most"] ["most"] 1 (pickIx [0, 1])) (D_p_picked_2_ : MixD K fd_p_picked ["lot", "many", "skip"] [] 2 [0, 1] [.int 0]) (D_p_points_in_1_ : MixD K fd_p_points_in ["lot", "most"] [] 1 [0] [.int 200]) (z_len : mg "len" = none) (z_list : mg "list" = none) (z_min : mg "min" = none) (z_set : mg "set" = none) (z_sorted : mg "sorted" = none) :
    FnG P w K mg base CX0 5 a fd ["_law_runs"] (spM K 1 m_l_points_right) := by
  refine def_ok F sc_l_points_right ?_
  intro cdv A out s H E hgd hr
  exact ((ssm_cons (sm_par3 (ps_par3 (i := 1) (j := 2) (l := 3) rfl sc_l_points_right.nd rfl rfl rfl (by decide) (by decide) (by decide) rfl rfl rfl (slm_val (em_own C_p_size B_p_size hgd (hr.mono (by decide)) (by rfl) (am_cons (em_var (pv 0)) am_nil)) (slm_val (em_ownP C_p_picked D_p_picked_2_ (fun us h => match us, h with | [_, _], _ => rfl) rfl hgd (hr.mono (by decide)) (by rfl) (am_cons (em_var (pv 0)) (am_cons em_int am_nil))) (slm_val (em_ownP C_p_picked D_p_picked_2_ (fun us h => match us, h with | [_, _], _ => rfl) rfl hgd (hr.mono (by decide)) (by rfl) (am_cons (em_var (pv 0)) (am_cons em_int am_nil))) slm_nil))) (by rfl)))
    (ssm_cons (sm_set (ps_set (i := 4) sc_l_points_right.nd rfl (Or.inl rfl) (em_ownP C_p_points_in D_p_points_in_1_ (fun us h => match us, h with | [_], _ => rfl) rfl hgd (hr.mono (by decide)) (by rfl) (am_cons (em_var (pv 2)) am_nil))))
    (ssm_cons (sm_if (WM.tm (wm_or (tm_cmp (op_neA hr.units) od_neA (em_lenV (em_var (pv 4)) (by rfl) z_len) (em_min2 rfl (am_cons em_int (am_cons (em_var (pv 1)) am_nil)) (by rfl) z_min) (nomark _)) (wm_or (tm_cmp (op_neA hr.units) od_neA (em_new (nm_listV (em_var (pv 4)) (by rfl) z_list)) (em_new (nm_sortedSet rfl hr.units (em_var (pv 4)) (by rfl) z_sorted (by rfl) z_set)) (nomark _)) (wm_or1 (tm_cmp (op_neA hr.units) od_neA (em_own C_l_closed B_l_closed hgd (hr.mono (by decide)) (by rfl) (am_cons (em_new (nm_lc (own := [("_law_p", 5)]) rfl sc_l_points_right.nd (im_seq (em_var (pv 4))) (blkOk_by (N := n_l_points_right) (sc := defScope s_l_points_right) (by decide +kernel)) (by decide) (fun _ _ _ _ _ => (gm_name (pg_name (i := 5) sc_l_points_right.nd rfl (Or.inl rfl)))) (fun _ _ _ _ _ => tsm_nil) (fun _ _ _ _ _ => (em_tup (am_cons (em_var (pv 5)) (am_cons (em_var (pv 5)) am_nil)))))) am_nil)) (em_var (pv 2)) (nomark _)))))) (ssm_one (sm_ret em_bl)) ssm_nil)
    (ssm_cons (sm_if (WM.tm (wm_and (tm_cmp op_gt od_gt (em_var (pv 1)) em_int (nomark _)) (wm_and1 (WM.tm (wm_or (tm_cmp (op_neA hr.units) od_neA (em_own C_l_too_many B_l_too_many hgd (hr.mono (by decide)) (by rfl) (am_cons (em_var (pv 3)) am_nil)) em_int (nomark _)) (wm_or1 (tm_cmp (op_neA hr.units) od_neA (em_lenV (em_ownK C_p_points_in K_p_points_in_1_most hgd (hr.mono (by decide)) (by rfl) (am_cons (em_var (pv 3)) am_nil) (km_cons em_int km_nil)) (by rfl) z_len) em_int (nomark _)))))))) (ssm_one (sm_ret em_bl)) ssm_nil)
    (ssm_one (sm_ret (em_cmp (op_eqA hr.units) od_eqA (em_own C_l_too_many B_l_too_many hgd (hr.mono (by decide)) (by rfl) (am_cons (em_var (pv 0)) am_nil)) (em_ifE (tm_cmp op_gt od_gt (em_var (pv 1)) em_int (nomark _)) (em_var (pv 1)) em_non) (nomark _)))))))))

/-! law_picked_right -/
abbrev s_l_picked_right : Stmt := topS 29
abbrev n_l_picked_right : List Str := ["_law_runs", "_law_often", "_law_ahead", "_law_whole", "_law_told", "_law_first", "_law_last"]
theorem sc_l_picked_right : FnScope n_l_picked_right ["_law_runs", "_law_often", "_law_ahead"] (defScope s_l_picked_right) := ⟨rfl, rfl, rfl, by decide +kernel, rfl, by decide +kernel, by decide +kernel⟩
def b_l_picked_right : MS :=
    (mSeq (mPar [3, 4] (sVal (mCall m_p_size 1 [] (aCons (mVar 0) aNil)) (sVal (mCallK m_p_picked 3 2 1 (pickIx [0, 1, 2]) (aCons (mVar 0) (aCons (mVar 1) aNil)) (aCons (mVar 2) aNil)) sNil)))
    (mSeq (mIf (mOrT (mB (m2 gNeA (mCall m_p_size 1 [] (aCons (mVar 4) aNil)) (mA hMin2 (aCons (mVar 1) (aCons (mA hMax2 (aCons (mC (.int 0)) (aCons (m2 gSubI (mVar 3) (mVar 2)) aNil))) aNil))))) (mB (m2 gNotB (mCall m_p_is_lot 1 [] (aCons (mVar 4) aNil)) (mC (.bl true))))) (mRet (mC (.bl false))) mNil)
    (mSeq (mIf (mB (m2 gEqA (mVar 4) (mTup aNil))) (mRet (mC (.bl true))) mNil)
    (mSeq (mPar [5, 6] (sVal (m2 gIx (m2 gIx (mVar 4) (mC (.int 0))) (mC (.int 0))) (sVal (m2 gIx (m2 gIx (mVar 4) (mB1 gNeg (mC (.int 1)))) (mC (.int 1))) sNil)))
    (mSeq (mIf (mB (m2 gNeA (mVar 4) (mCall m_p_common 2 [] (aCons (mVar 0) (aCons (mTup (aCons (mTup (aCons (mVar 5) (aCons (mVar 6) aNil))) aNil)) aNil))))) (mRet (mC (.bl false))) mNil)
    (mRet (mOr (mAnd (m2 gEqA (mVar 5) (mC (.int 0))) (m2 gEqA (mVar 2) (mC (.int 0)))) (m2 gEqA (mCall m_p_size 1 [] (aCons (mCall m_p_common 2 [] (aCons (mVar 0) (aCons (mTup (aCons (mTup (aCons (mC (.int 0)) (aCons (mA hMax2 (aCons (mC (.int 0)) (aCons (m2 gSubI (mVar 5) (mC (.int 1))) aNil))) aNil))) aNil)) aNil))) aNil)) (mVar 2)))))))))
def m_l_picked_right : MF := mDef 7 b_l_picked_right
theorem ok_l_picked_right {P : Program} {w : World} {K : PySem.W.Frag} {mg : Str → Option Value} {base : Heap} {a : Addr} {fd : FuncData} (F : Fun K "_law_picked_right" "_law_picked_right" s_l_picked_right a fd) {a_p_common : Addr} {fd_p_common : FuncData} (C_p_common : Own P w K mg base 2 2 "common" ["one", "other"] a_p_common fd_p_common m_p_common) (B_p_common : Binds K fd_p_common ["one", "other"] []) {a_p_is_lot : Addr} {fd_p_is_lot : FuncData} (C_p_is_lot : Own P w K mg base 4 1 "is_lot" ["thing"] a_p_is_lot fd_p_is_lot m_p_is_lot) (B_p_is_lot : Binds K fd_p_is_lot ["thing"] []) {a_p_picked : Addr} {fd_p_picked : FuncData} (C_p_picked : Own P w K mg base 1 3 "picked" ["lot", "many", "skip"] a_p_picked fd_p_picked m_p_picked) {a_p_size : Addr} {fd_p_size : FuncData} (C_p_size : Own P w K mg base 1 1 "size" ["lot"] a_p_size fd_p_size m_p_size) (B_p_size : Binds K fd_p_size ["lot"] []) (K_p_picked_2_skip : Mix fd_p_picked ["lot", "many", "skip"] ["skip"] 2 (pickIx [0, 1, 2])) (z_max : mg "max" = none) (z_min : mg "min" = none) :
    FnG P w K mg base CX0 5 a fd ["_law_runs", "_law_often", "_law_ahead"] (spM K 3 m_l_picked_right) := by
  refine def_ok F sc_l_picked_right ?_
  intro cdv A out s H E hgd hr
  exact ((ssm_cons (sm_par2 (ps_par (i := 3) (j := 4) rfl sc_l_picked_right.nd rfl rfl (by decide) rfl rfl (slm_val (em_own C_p_size B_p_size hgd (hr.mono (by decide)) (by rfl) (am_cons (em_var (pv 0)) am_nil)) (slm_val (em_ownK C_p_picked K_p_picked_2_skip hgd (hr.mono (by decide)) (by rfl) (am_cons (em_var (pv 0)) (am_cons (em_var (pv 1)) am_nil)) (km_cons (em_var (pv 2)) km_nil)) slm_nil)) (by rfl)))
    (ssm_cons (sm_if (WM.tm (wm_or (tm_cmp (op_neA hr.units) od_neA (em_own C_p_size B_p_size hgd (hr.mono (by decide)) (by rfl) (am_cons (em_var (pv 4)) am_nil)) (em_min2 rfl (am_cons (em_var (pv 1)) (am_cons (em_max2 rfl (am_cons em_int (am_cons (em_op op_sub od_sub (em_var (pv 3)) (em_var (pv 2))) am_nil)) (by rfl) z_max) am_nil)) (by rfl) z_min) (nomark _)) (wm_or1 (tm_cmp op_notBl od_notB (em_own C_p_is_lot B_p_is_lot hgd (hr.mono (by decide)) (by rfl) (am_cons (em_var (pv 4)) am_nil)) em_bl (nomark _))))) (ssm_one (sm_ret em_bl)) ssm_nil)
    (ssm_cons (sm_if (tm_cmp (op_eqA hr.units) od_eqA (em_var (pv 4)) (em_tup am_nil) (nomark _)) (ssm_one (sm_ret em_bl)) ssm_nil)
    (ssm_cons (sm_par2 (ps_par (i := 5) (j := 6) rfl sc_l_picked_right.nd rfl rfl (by decide) rfl rfl (slm_val (em_ix ix_seq od_ix (em_ix ix_seq od_ix (em_var (pv 4)) em_int (fun _ _ => rfl)) em_int (fun _ _ => rfl)) (slm_val (em_ix ix_seq od_ix (em_ix ix_seq od_ix (em_var (pv 4)) (em_neg em_int) (fun _ _ => rfl)) em_int (fun _ _ => rfl)) slm_nil)) (by rfl)))
    (ssm_cons (sm_if (tm_cmp (op_neA hr.units) od_neA (em_var (pv 4)) (em_own C_p_common B_p_common hgd (hr.mono (by decide)) (by rfl) (am_cons (em_var (pv 0)) (am_cons (em_tup (am_cons (em_tup (am_cons (em_var (pv 5)) (am_cons (em_var (pv 6)) am_nil))) am_nil)) am_nil))) (nomark _)) (ssm_one (sm_ret em_bl)) ssm_nil)
    (ssm_one (sm_ret (em_or (em_and (em_cmp (op_eqA hr.units) od_eqA (em_var (pv 5)) em_int (nomark _)) (em_one (em_cmp (op_eqA hr.units) od_eqA (em_var (pv 2)) em_int (nomark _)))) (em_one (em_cmp (op_eqA hr.units) od_eqA (em_own C_p_size B_p_size hgd (hr.mono (by decide)) (by rfl) (am_cons (em_own C_p_common B_p_common hgd (hr.mono (by decide)) (by rfl) (am_cons (em_var (pv 0)) (am_cons (em_tup (am_cons (em_tup (am_cons em_int (am_cons (em_max2 rfl (am_cons em_int (am_cons (em_op op_sub od_sub (em_var (pv 5)) em_int) am_nil)) (by rfl) z_max) am_nil))) am_nil)) am_nil))) am_nil)) (em_var (pv 2)) (nomark _))))))))))))

/-! law -/
abbrev s_p_law : Stmt := topS 32
abbrev n_p_law : List Str := ["_law_script", "_law_k", "_law_pot_here", "_law_close", "_law_left", "_law_right", "_law_mine", "_law_its", "_law_runs", "_law_turn", "_law_often", "_law_ahead"]
theorem sc_p_law : FnScope n_p_law ["_law_script"] (defScope s_p_law) := ⟨rfl, rfl, rfl, by decide +kernel, rfl, by decide +kernel, by decide +kernel⟩
def i_p_law_1 : ML :=
    (iRg1 (aCons (mA hMax2 (aCons (mC (.int 1)) (aCons (mA hMin2 (aCons (mC (.int 3)) (aCons (mB1 gLen (mVar 0)) aNil))) aNil))) aNil))
def b_p_law_2 : MS :=
    (mIf (mNotT (mB (mCall m_l_two_right 2 [] (aCons (mVar 6) (aCons (mVar 7) aNil))))) (mRet (mC (.bl false))) mNil)
def i_p_law_3 : ML :=
    (iRg1 (aCons (mC (.int 3)) aNil))
def b_p_law_4 : MS :=
    (mSeq (mPar [10, 11] (sVal (mLst (mDisp (aCons (mCall m_l_pick 2 [] (aCons (mVar 2) (aCons (m2 gAddI (mCall m_p_size 1 [] (aCons (mVar 8) aNil)) (mC (.int 3))) aNil))) (aCons (mCall m_l_pick 2 [] (aCons (mVar 2) (aCons (mC (.int 300)) aNil))) aNil)))) (sVal (mCall m_l_pick 2 [] (aCons (mVar 2) (aCons (m2 gAddI (mCall m_p_size 1 [] (aCons (mVar 8) aNil)) (mC (.int 3))) aNil))) sNil)))
    (mIf (mOrT (mNotT (mB (mCall m_l_picked_right 3 [] (aCons (mVar 8) (aCons (m2 gIx (mVar 10) (m2 gModI (mVar 9) (mC (.int 2)))) (aCons (mVar 11) aNil)))))) (mNotT (mB (mCall m_l_picked_right 3 [] (aCons (mVar 8) (aCons (m2 gIx (mVar 10) (mC (.int 1))) (aCons (mC (.int 0)) aNil))))))) (mRet (mC (.bl false))) mNil))
def b_p_law_5 : MS :=
    (mSeq (mFor (.nm 9) i_p_law_3
    b_p_law_4)
    (mIf (mNotT (mB (mCall m_l_points_right 1 [] (aCons (mVar 8) aNil)))) (mRet (mC (.bl false))) mNil))
def b_p_law_6 : MS :=
    (mSeq (mSet 2 (mCall m_l_pot 2 [] (aCons (mVar 0) (aCons (mVar 1) aNil))))
    (mSeq (mPar [3, 4, 5] (sVal (m2 gEqA (mCall m_l_pick 2 [] (aCons (mVar 2) (aCons (mC (.int 2)) aNil))) (mC (.int 0))) (sVal (mCall m_l_far_lot 1 [] (aCons (mVar 2) aNil)) (sVal (mCall m_l_far_lot 1 [] (aCons (mVar 2) aNil)) sNil))))
    (mSeq (mIf (mB (mVar 3)) (mSet 5 (mCall m_l_beside 2 [] (aCons (mVar 2) (aCons (mVar 4) aNil)))) mNil)
    (mSeq (mFor (.tp [(.nm 6), (.nm 7)]) (iSeq (mTup (aCons (mTup (aCons (mVar 4) (aCons (mVar 5) aNil))) (aCons (mTup (aCons (mVar 5) (aCons (mVar 4) aNil))) (aCons (mTup (aCons (mVar 4) (aCons (mVar 4) aNil))) (aCons (mTup (aCons (mVar 5) (aCons (mTup aNil) aNil))) aNil))))))
    b_p_law_2)
    (mFor (.nm 8) (iSeq (mTup (aCons (mVar 4) (aCons (mVar 5) aNil))))
    b_p_law_5)))))
def b_p_law : MS :=
    (mSeq (mFor (.nm 1) i_p_law_1
    b_p_law_6)
    (mRet (mC (.bl true))))
def m_p_law : MF := mDef 12 b_p_law
theorem ok_p_law {P : Program} {w : World} {K : PySem.W.Frag} {mg : Str → Option Value} {base : Heap} {a : Addr} {fd : FuncData} (F : Fun K "law" "law" s_p_law a fd) {a_l_beside : Addr} {fd_l_beside : FuncData} (C_l_beside : Own P w K mg base 2 2 "_law_beside" ["_law_pot_here", "_law_runs"] a_l_beside fd_l_beside m_l_beside) (B_l_beside : Binds K fd_l_beside ["_law_pot_here", "_law_runs"] []) {a_l_far_lot : Addr} {fd_l_far_lot : FuncData} (C_l_far_lot : Own P w K mg base 2 1 "_law_far_lot" ["_law_pot_here"] a_l_far_lot fd_l_far_lot m_l_far_lot) (B_l_far_lot : Binds K fd_l_far_lot ["_law_pot_here"] []) {a_l_pick : Addr} {fd_l_pick : FuncData} (C_l_pick : Own P w K mg base 1 2 "_law_pick" ["_law_pot_here", "_law_upto"] a_l_pick fd_l_pick m_l_pick) (B_l_pick : Binds K fd_l_pick ["_law_pot_here", "_law_upto"] []) {a_l_picked_right : Addr} {fd_l_picked_right : FuncData} (C_l_picked_right : Own P w K mg base 5 3 "_law_picked_right" ["_law_runs", "_law_often", "_law_ahead"] a_l_picked_right fd_l_picked_right m_l_picked_right) (B_l_picked_right : Binds K fd_l_picked_right ["_law_runs", "_law_often", "_law_ahead"] []) {a_l_points_right : Addr} {fd_l_points_right : FuncData} (C_l_points_right : Own P w K mg base 5 1 "_law_points_right" ["_law_runs"] a_l_points_right fd_l_points_right m_l_points_right) (B_l_points_right : Binds K fd_l_points_right ["_law_runs"] []) {a_l_pot : Addr} {fd_l_pot : FuncData} (C_l_pot : Own P w K mg base 1 2 "_law_pot" ["_law_script", "_law_k"] a_l_pot fd_l_pot m_l_pot) (B_l_pot : Binds K fd_l_pot ["_law_script", "_law_k"] []) {a_l_two_right : Addr} {fd_l_two_right : FuncData} (C_l_two_right : Own P w K mg base 5 2 "_law_two_right" ["_law_left", "_law_right"] a_l_two_right fd_l_two_right m_l_two_right) (B_l_two_right : Binds K fd_l_two_right ["_law_left", "_law_right"] []) {a_p_size : Addr} {fd_p_size : FuncData} (C_p_size : Own P w K mg base 1 1 "size" ["lot"] a_p_size fd_p_size m_p_size) (B_p_size : Binds K fd_p_size ["lot"] []) (z_len : mg "len" = none) (z_max : mg "max" = none) (z_min : mg "min" = none) (z_range : mg "range" = none) :
    FnG P w K mg base CX0 6 a fd ["_law_script"] (spM K 1 m_p_law) := by
  refine def_ok F sc_p_law ?_
  intro cdv A out s H E hgd hr
  exact ((ssm_cons (sm_for PassesOwn.never rfl (im_rg1 (by rfl) z_range (am_cons (em_max2 rfl (am_cons em_int (am_cons (em_min2 rfl (am_cons em_int (am_cons (em_lenV (em_var (pv 0)) (by rfl) z_len) am_nil)) (by rfl) z_min) am_nil)) (by rfl) z_max) am_nil)) (gm_name (pg_name (i := 1) sc_p_law.nd rfl (Or.inl rfl)))
    (ssm_cons (sm_set (ps_set (i := 2) sc_p_law.nd rfl (Or.inl rfl) (em_own C_l_pot B_l_pot hgd (hr.mono (by decide)) (by rfl) (am_cons (em_var (pv 0)) (am_cons (em_var (pv 1)) am_nil)))))
    (ssm_cons (sm_par3 (ps_par3 (i := 3) (j := 4) (l := 5) rfl sc_p_law.nd rfl rfl rfl (by decide) (by decide) (by decide) rfl rfl rfl (slm_val (em_cmp (op_eqA hr.units) od_eqA (em_own C_l_pick B_l_pick hgd (hr.mono (by decide)) (by rfl) (am_cons (em_var (pv 2)) (am_cons em_int am_nil))) em_int (nomark _)) (slm_val (em_own C_l_far_lot B_l_far_lot hgd (hr.mono (by decide)) (by rfl) (am_cons (em_var (pv 2)) am_nil)) (slm_val (em_own C_l_far_lot B_l_far_lot hgd (hr.mono (by decide)) (by rfl) (am_cons (em_var (pv 2)) am_nil)) slm_nil))) (by rfl)))
    (ssm_cons (sm_if (tm_val (em_var (pv 3))) (ssm_one (sm_set (ps_set (i := 5) sc_p_law.nd rfl (Or.inl rfl) (em_own C_l_beside B_l_beside hgd (hr.mono (by decide)) (by rfl) (am_cons (em_var (pv 2)) (am_cons (em_var (pv 4)) am_nil)))))) ssm_nil)
    (ssm_cons (sm_for PassesOwn.never rfl (im_seq (em_tup (am_cons (em_tup (am_cons (em_var (pv 4)) (am_cons (em_var (pv 5)) am_nil))) (am_cons (em_tup (am_cons (em_var (pv 5)) (am_cons (em_var (pv 4)) am_nil))) (am_cons (em_tup (am_cons (em_var (pv 4)) (am_cons (em_var (pv 4)) am_nil))) (am_cons (em_tup (am_cons (em_var (pv 5)) (am_cons (em_tup am_nil) am_nil))) am_nil)))))) (gm_tup rfl (gsm_cons (gm_name (pg_name (i := 6) sc_p_law.nd rfl (Or.inl rfl))) (gsm_cons (gm_name (pg_name (i := 7) sc_p_law.nd rfl (Or.inl rfl))) gsm_nil)))
    (ssm_one (sm_if (tm_not (tm_val (em_own C_l_two_right B_l_two_right hgd (hr.mono (by decide)) (by rfl) (am_cons (em_var (pv 6)) (am_cons (em_var (pv 7)) am_nil))))) (ssm_one (sm_ret em_bl)) ssm_nil)))
    (ssm_one (sm_for PassesOwn.never rfl (im_seq (em_tup (am_cons (em_var (pv 4)) (am_cons (em_var (pv 5)) am_nil)))) (gm_name (pg_name (i := 8) sc_p_law.nd rfl (Or.inl rfl)))
    (ssm_cons (sm_for PassesOwn.never rfl (im_rg1 (by rfl) z_range (am_cons em_int am_nil)) (gm_name (pg_name (i := 9) sc_p_law.nd rfl (Or.inl rfl)))
    (ssm_cons (sm_par2 (ps_par (i := 10) (j := 11) rfl sc_p_law.nd rfl rfl (by decide) rfl rfl (slm_val (em_new (nm_lst (am_cons (em_own C_l_pick B_l_pick hgd (hr.mono (by decide)) (by rfl) (am_cons (em_var (pv 2)) (am_cons (em_op op_add od_add (em_own C_p_size B_p_size hgd (hr.mono (by decide)) (by rfl) (am_cons (em_var (pv 8)) am_nil)) em_int) am_nil))) (am_cons (em_own C_l_pick B_l_pick hgd (hr.mono (by decide)) (by rfl) (am_cons (em_var (pv 2)) (am_cons em_int am_nil))) am_nil)))) (slm_val (em_own C_l_pick B_l_pick hgd (hr.mono (by decide)) (by rfl) (am_cons (em_var (pv 2)) (am_cons (em_op op_add od_add (em_own C_p_size B_p_size hgd (hr.mono (by decide)) (by rfl) (am_cons (em_var (pv 8)) am_nil)) em_int) am_nil))) slm_nil)) (by rfl)))
    (ssm_one (sm_if (WM.tm (wm_or (tm_not (tm_val (em_own C_l_picked_right B_l_picked_right hgd (hr.mono (by decide)) (by rfl) (am_cons (em_var (pv 8)) (am_cons (em_ix ix_seq od_ix (em_var (pv 10)) (em_op op_mod od_mod (em_var (pv 9)) em_int) (fun _ _ => rfl)) (am_cons (em_var (pv 11)) am_nil)))))) (wm_or1 (tm_not (tm_val (em_own C_l_picked_right B_l_picked_right hgd (hr.mono (by decide)) (by rfl) (am_cons (em_var (pv 8)) (am_cons (em_ix ix_seq od_ix (em_var (pv 10)) em_int (fun _ _ => rfl)) (am_cons em_int am_nil))))))))) (ssm_one (sm_ret em_bl)) ssm_nil))))
    (ssm_one (sm_if (tm_not (tm_val (em_own C_l_points_right B_l_points_right hgd (hr.mono (by decide)) (by rfl) (am_cons (em_var (pv 8)) am_nil)))) (ssm_one (sm_ret em_bl)) ssm_nil))))))))))
    (ssm_one (sm_ret em_bl))))

end K02
set_option maxRecDepth 100000
set_option maxHeartbeats 2000000
/-! slips, runs with slips, rows knitted: as typed things and as data -/
namespace Mo
open L2 PySem
theorem eqvAll_map {α : Type} [DecidableEq α] {f : α → PyData} (h : ∀ x y, PyData.eqv (f x) (f y) = decide (x = y)) : ∀ xs ys : List α, PyData.eqvAll (xs.map f) (ys.map f) = decide (xs = ys)
  | [], [] => by simp [PyData.eqvAll]
  | [], _ :: _ => by simp [PyData.eqvAll]
  | _ :: _, [] => by simp [PyData.eqvAll]
  | x :: xs, y :: ys => by
    rw [List.map_cons, List.map_cons, PyData.eqvAll, h, eqvAll_map h xs ys]
    by_cases e1 : x = y <;> by_cases e2 : xs = ys <;> simp [e1, e2]
theorem canLayAll_map {α : Type} {f : α → PyData} (h : ∀ x, (f x).canLay0 = true) : ∀ xs : List α, PyData.canLayAll0 (xs.map f) = true
  | [] => rfl
  | x :: xs => by rw [List.map_cons, PyData.canLayAll0, h, canLayAll_map h xs]; rfl
theorem nums_int {i : Int} (h : i.natAbs < 2 ^ 64) : nums (.int i) = true := by rw [nums]; exact decide_eq_true (log_lt h)
abbrev Bal := Int × Int
abbrev Row := Int × Bal × Int
abbrev Slip := Bal × List Row
abbrev Run := Int × Int × Slip
def dB (b : Bal) : D := .tup [.int b.1, .int b.2]
def dR (t : Row) : D := .tup [.int t.1, dB t.2.1, .int t.2.2]
def dS (s : Slip) : D := .tup [dB s.1, .tup (s.2.map dR)]
def dN (r : Run) : D := .tup [.int r.1, .int r.2.1, dS r.2.2]
def qB (b : Bal) : PyData := .tuple [.int b.1, .int b.2]
def qR (t : Row) : PyData := .tuple [.int t.1, qB t.2.1, .int t.2.2]
def qS (s : Slip) : PyData := .tuple [qB s.1, .tuple (s.2.map qR)]
def qN (r : Run) : PyData := .tuple [.int r.1, .int r.2.1, qS r.2.2]
theorem toP_B (b : Bal) : toP (dB b) = some (qB b) := rfl
theorem toP_R (t : Row) : toP (dR t) = some (qR t) := rfl
theorem toP_S (s : Slip) : toP (dS s) = some (qS s) := by unfold dS qS; simp only [toP, toPs, toP_B, toPs_map toP_R, Option.map_some]
theorem toP_N (r : Run) : toP (dN r) = some (qN r) := by unfold dN qN; simp only [toP, toPs, toP_S, Option.map_some]
theorem eqv_B (a b : Bal) : PyData.eqv (qB a) (qB b) = decide (a = b) := by
  obtain ⟨a1, a2⟩ := a; obtain ⟨b1, b2⟩ := b
  simp only [qB, PyData.eqv, PyData.eqvAll, Bool.and_true]
  by_cases e1 : a1 = b1 <;> by_cases e2 : a2 = b2 <;> simp [e1, e2]
theorem eqv_R (a b : Row) : PyData.eqv (qR a) (qR b) = decide (a = b) := by
  obtain ⟨a1, a2, a3⟩ := a; obtain ⟨b1, b2, b3⟩ := b
  simp only [qR, PyData.eqv, PyData.eqvAll, Bool.and_true, eqv_B]
  by_cases e1 : a1 = b1 <;> by_cases e2 : a2 = b2 <;> by_cases e3 : a3 = b3 <;> simp [e1, e2, e3]
theorem eqv_S (a b : Slip) : PyData.eqv (qS a) (qS b) = decide (a = b) := by
  obtain ⟨a1, a2⟩ := a; obtain ⟨b1, b2⟩ := b
  simp only [qS, PyData.eqv, PyData.eqvAll, Bool.and_true, eqv_B, eqvAll_map eqv_R]
  by_cases e1 : a1 = b1 <;> by_cases e2 : a2 = b2 <;> simp [e1, e2]
theorem lay_B (b : Bal) : (qB b).canLay0 = true := by simp [qB, PyData.canLay0, PyData.canLayAll0]
theorem lay_R (t : Row) : (qR t).canLay0 = true := by simp [qR, PyData.canLay0, PyData.canLayAll0, lay_B]
theorem lay_S (s : Slip) : (qS s).canLay0 = true := by simp [qS, PyData.canLay0, PyData.canLayAll0, lay_B, canLayAll_map lay_R]
theorem depth_B (b : Bal) : (qB b).depth ≤ 3 := by simp [qB, PyData.depth, PyData.depthAll]
theorem depth_R (t : Row) : (qR t).depth ≤ 6 := by
  have := depth_B t.2.1
  simp only [qR, PyData.depth, PyData.depthAll]; omega
theorem depth_S (s : Slip) : (qS s).depth ≤ 10 := by
  have := depthAll_map (g := qR) (k := 6) (xs := s.2) fun t _ => depth_R t
  have := depth_B s.1
  simp only [qS, PyData.depth, PyData.depthAll]; omega
theorem depth_N (r : Run) : (qN r).depth ≤ 14 := by
  have := depth_S r.2.2
  simp only [qN, PyData.depth, PyData.depthAll]; omega
theorem shaped_of {p : PyData} (h : p.canLay0 = true) (hd : p.depth ≤ 64) : SeqAt.shaped p = true := by
  unfold SeqAt.shaped; rw [h, decide_eq_true hd]; rfl
theorem eqD_of2 {x y : D} {p q : PyData} {k : Bool} (h1 : toP x = some p) (h2 : toP y = some q) (s1 : SeqAt.shaped p = true) (s2 : SeqAt.shaped q = true) (e : PyData.eqv p q = k) : eqD x y = some k := by
  unfold eqD
  rw [h1, h2]
  dsimp only
  rw [if_pos ⟨s1, s2⟩, e]
theorem eqD_S (a b : Slip) : eqD (dS a) (dS b) = some (decide (a = b)) := eqD_of2 (toP_S a) (toP_S b) (shaped_of (lay_S a) (by have := depth_S a; omega)) (shaped_of (lay_S b) (by have := depth_S b; omega)) (eqv_S a b)
theorem eqD_B (a b : Bal) : eqD (dB a) (dB b) = some (decide (a = b)) := eqD_of2 (toP_B a) (toP_B b) (shaped_of (lay_B a) (by have := depth_B a; omega)) (shaped_of (lay_B b) (by have := depth_B b; omega)) (eqv_B a b)
/-- (slip,) == (slip,) -/
theorem eqD_S1 (a b : Slip) : eqD (.tup [dS a]) (.tup [dS b]) = some (decide (a = b)) := by
  refine eqD_of2 (p := .tuple [qS a]) (q := .tuple [qS b]) ?_ ?_ ?_ ?_ ?_
  · simp only [toP, toPs, toP_S, Option.map_some]
  · simp only [toP, toPs, toP_S, Option.map_some]
  · have := depth_S a
    exact shaped_of (by simp [PyData.canLay0, PyData.canLayAll0, lay_S]) (by simp only [PyData.depth, PyData.depthAll]; omega)
  · have := depth_S b
    exact shaped_of (by simp [PyData.canLay0, PyData.canLayAll0, lay_S]) (by simp only [PyData.depth, PyData.depthAll]; omega)
  · simp only [PyData.eqv, PyData.eqvAll, eqv_S, Bool.and_true]
theorem gEqA_tup {l m : List D} {k : Bool} (h : eqD (.tup l) (.tup m) = some k) (S : Store) : gEqA (.tup l) (.tup m) S = .ok (.bl k) S := by
  show gEq (.tup l) (.tup m) S = _
  unfold gEq; rw [h]
theorem gNeA_tup {l m : List D} {k : Bool} (h : eqD (.tup l) (.tup m) = some k) (S : Store) : gNeA (.tup l) (.tup m) S = .ok (.bl (!k)) S := by
  show gNe (.tup l) (.tup m) S = _
  unfold gNe; rw [h]
theorem gEqA_lst {l m : List D} {k : Bool} (h : eqD (.lst l) (.lst m) = some k) (S : Store) : gEqA (.lst l) (.lst m) S = .ok (.bl k) S := by
  show gEq (.lst l) (.lst m) S = _
  unfold gEq; rw [h]
theorem eqS (a b : Slip) (S : Store) : gEqA (dS a) (dS b) S = .ok (.bl (decide (a = b))) S := gEqA_tup (eqD_S a b) S
theorem eqS1 (a b : Slip) (S : Store) : gEqA (.tup [dS a]) (.tup [dS b]) S = .ok (.bl (decide (a = b))) S := gEqA_tup (eqD_S1 a b) S
theorem eqB (a b : Bal) (S : Store) : gEqA (dB a) (dB b) S = .ok (.bl (decide (a = b))) S := gEqA_tup (eqD_B a b) S
theorem neB (a b : Bal) (S : Store) : gNeA (dB a) (dB b) S = .ok (.bl (!decide (a = b))) S := gNeA_tup (eqD_B a b) S
/-- a list of data is [] -/
theorem eqD_nil {α : Type} {f : α → D} {g : α → PyData} (h : ∀ x, toP (f x) = some (g x)) (hl : ∀ x, (g x).canLay0 = true) (hd : ∀ x, (g x).depth ≤ 60) (l : List α) : eqD (.lst (l.map f)) (.lst []) = some l.isEmpty := by
  refine eqD_of2 (p := .list (l.map g)) (q := .list []) ?_ rfl ?_ ?_ ?_
  · rw [toP, toPs_map h]; rfl
  · have := depthAll_map (g := g) (k := 60) (xs := l) fun x _ => hd x
    exact shaped_of (by simp [PyData.canLay0, canLayAll_map hl]) (by simp only [PyData.depth]; omega)
  · exact shaped_of (by simp [PyData.canLay0, PyData.canLayAll0]) (by simp [PyData.depth, PyData.depthAll])
  · cases l <;> simp [PyData.eqv, PyData.eqvAll]
theorem lay_N (r : Run) : (qN r).canLay0 = true := by simp [qN, PyData.canLay0, PyData.canLayAll0, lay_S]
theorem eqN_nil (l : List Run) : eqD (.lst (l.map dN)) (.lst []) = some l.isEmpty := eqD_nil toP_N lay_N (fun x => by have := depth_N x; omega) l
theorem eqB_nil (l : List Bal) : eqD (.lst (l.map dB)) (.lst []) = some l.isEmpty := eqD_nil toP_B lay_B (fun x => by have := depth_B x; omega) l
/-! ### the greater of two ballots -/
def ltB (a b : Bal) : Bool := decide (a.1 < b.1 ∨ a.1 = b.1 ∧ a.2 < b.2)
theorem two_B (a b : Bal) : two? (dB a) (dB b) = some (qB a, qB b) := by
  unfold two?
  rw [toP_B, toP_B]
  dsimp only
  rw [if_pos]
  refine ⟨?_, ?_⟩
  · simp [alikeB, notNoneP, qB, PySem.W.alike, PySem.W.alikeAll]
  · have := depth_B a
    have := depth_B b
    simp only [PyData.depthAll]; omega
theorem max2B (a b : Bal) (S : Store) : hMax2D [dB a, dB b] S = .ok (dB (if ltB a b = true then b else a)) S := by
  show (match two? (dB a) (dB b) with
    | some (p, q) => R.ok (if PySem.W.dataLt p q = true then dB b else dB a) S
    | none => .bad) = _
  rw [two_B]
  dsimp only
  rw [show PySem.W.dataLt (qB a) (qB b) = ltB a b from PySem.W.dataLt_ii ..]
  cases ltB a b <;> rfl
theorem min2B (a b : Bal) (S : Store) : hMin2D [dB a, dB b] S = .ok (dB (if ltB b a = true then b else a)) S := by
  show (match two? (dB a) (dB b) with
    | some (p, q) => R.ok (if PySem.W.dataLt q p = true then dB b else dB a) S
    | none => .bad) = _
  rw [two_B]
  dsimp only
  rw [show PySem.W.dataLt (qB b) (qB a) = ltB b a from PySem.W.dataLt_ii ..]
  cases ltB b a <;> rfl
/-! ### rows knitted -/
section knit
variable {σ : Type} [DecidableEq σ]
/-- one row behind those that are knitted already -/
def kn (A : List (Int × Int × σ)) (x : Int × Int × σ) : List (Int × Int × σ) := match A.getLast? with
  | some r => if r.2.1 + 1 = x.1 ∧ r.2.2 = x.2.2 then A.dropLast ++ [(r.1, x.2.1, x.2.2)] else A ++ [x]
  | none => A ++ [x]
def knit (xs : List (Int × Int × σ)) : List (Int × Int × σ) := xs.foldl kn []
theorem knit_add (xs : List (Int × Int × σ)) (x : Int × Int × σ) : knit (xs ++ [x]) = kn (knit xs) x := by unfold knit; rw [List.foldl_append]; rfl
theorem kn_nil (x : Int × Int × σ) : kn [] x = [x] := rfl
theorem kn_snoc (A : List (Int × Int × σ)) (r x : Int × Int × σ) : kn (A ++ [r]) x = if r.2.1 + 1 = x.1 ∧ r.2.2 = x.2.2 then A ++ [(r.1, x.2.1, x.2.2)] else A ++ [r] ++ [x] := by
  unfold kn
  rw [List.getLast?_concat, List.dropLast_concat]
theorem snoc_cases (A : List (Int × Int × σ)) : A = [] ∨ ∃ B r, A = B ++ [r] := by
  rcases A.eq_nil_or_concat with h | ⟨B, r, h⟩
  · exact .inl h
  · exact .inr ⟨B, r, by simpa using h⟩
/-- a row that goes on the one ahead -/
theorem kn_kn (A : List (Int × Int × σ)) (f l l' : Int) (s : σ) : kn (kn A (f, l, s)) (l + 1, l', s) = kn A (f, l', s) := by
  rcases snoc_cases A with h | ⟨B, r, h⟩
  · subst h
    rw [kn_nil, kn_nil]
    show kn ([] ++ [(f, l, s)]) _ = _
    rw [kn_snoc, if_pos ⟨rfl, rfl⟩]
    rfl
  · subst h
    rw [kn_snoc, kn_snoc]
    by_cases hc : r.2.1 + 1 = f ∧ r.2.2 = s
    · rw [if_pos hc, if_pos hc, kn_snoc, if_pos ⟨rfl, rfl⟩]
    · rw [if_neg hc, if_neg hc, kn_snoc, if_pos ⟨rfl, rfl⟩]
theorem knit_cases (xs : List (Int × Int × σ)) (x : Int × Int × σ) : (∃ A r, knit xs = A ++ [r] ∧ r.2.1 + 1 = x.1 ∧ r.2.2 = x.2.2 ∧ knit (xs ++ [x]) = A ++ [(r.1, x.2.1, x.2.2)]) ∨ ((∀ A r, knit xs = A ++ [r] → ¬ (r.2.1 + 1 = x.1 ∧ r.2.2 = x.2.2)) ∧ knit (xs ++ [x]) = knit xs ++ [x]) := by
  rw [knit_add]
  rcases snoc_cases (knit xs) with h | ⟨B, r, h⟩
  · refine .inr ⟨fun A r e => ?_, ?_⟩
    · rw [h] at e; simp at e
    · rw [h]; rfl
  · rw [h, kn_snoc]
    by_cases hc : r.2.1 + 1 = x.1 ∧ r.2.2 = x.2.2
    · exact .inl ⟨B, r, rfl, hc.1, hc.2, by rw [if_pos hc]⟩
    · refine .inr ⟨fun A r' e => ?_, by rw [if_neg hc]⟩
      have := List.append_inj' e rfl
      cases this.2
      exact hc
theorem snoc_induct {α : Type} {P : List α → Prop} (h0 : P []) (h1 : ∀ l x, P l → P (l ++ [x])) (l : List α) : P l := by
  suffices ∀ r : List α, P r.reverse by have := this l.reverse; rwa [List.reverse_reverse] at this
  intro r
  induction r with
  | nil => exact h0
  | cons x r ih => rw [List.reverse_cons]; exact h1 _ _ ih
def onS {τ : Type} (h : σ → τ) (r : Int × Int × σ) : Int × Int × τ := (r.1, r.2.1, h r.2.2)
theorem knit_map {τ : Type} [DecidableEq τ] (h : σ → τ) (xs : List (Int × Int × σ)) : knit ((knit xs).map (onS h)) = knit (xs.map (onS h)) := by
  refine snoc_induct (P := fun xs => knit ((knit xs).map (onS h)) = knit (xs.map (onS h))) rfl (fun xs x ih => ?_) xs
  rw [List.map_append, List.map_singleton, knit_add (xs.map (onS h))]
  rcases knit_cases xs x with ⟨A, r, e1, e2, e3, e4⟩ | ⟨_, e4⟩
  · rw [e4, List.map_append, List.map_singleton, knit_add, ← ih, e1, List.map_append, List.map_singleton, knit_add]
    have := kn_kn (knit (A.map (onS h))) r.1 r.2.1 x.2.1 (h x.2.2)
    rw [e2, ← e3] at this
    unfold onS
    rw [← e3]
    exact this.symm
  · rw [e4, List.map_append, List.map_singleton, knit_add, ih]
/-- rows that rise -/
def Rise (xs : List (Int × Int × σ)) : Prop := xs.Pairwise (fun a b => a.2.1 < b.1) ∧ ∀ a ∈ xs, a.1 ≤ a.2.1
theorem Rise.init {xs : List (Int × Int × σ)} {x : Int × Int × σ} (h : Rise (xs ++ [x])) : Rise xs ∧ (∀ a ∈ xs, a.2.1 < x.1) ∧ x.1 ≤ x.2.1 := by
  obtain ⟨h1, h2⟩ := h
  rw [List.pairwise_append] at h1
  exact ⟨⟨h1.1, fun a ha => h2 a (List.mem_append_left _ ha)⟩, fun a ha => h1.2.2 a ha x (List.mem_singleton.mpr rfl), h2 x (by simp)⟩
/-- what is knitted ends where what it was knitted of ends -/
theorem knit_end {xs : List (Int × Int × σ)} {c : Int} (h : Rise xs) (hc : ∀ a ∈ xs, a.2.1 < c) : Rise (knit xs) ∧ ∀ a ∈ knit xs, a.2.1 < c := by
  revert c
  refine snoc_induct (P := fun xs => Rise xs → ∀ {c : Int}, (∀ a ∈ xs, a.2.1 < c) → Rise (knit xs) ∧ ∀ a ∈ knit xs, a.2.1 < c) (fun _ c _ => ⟨⟨.nil, fun a h => nomatch h⟩, fun a h => nomatch h⟩) (fun xs x ih h c hc => ?_) xs h
  obtain ⟨h1, h2, h3⟩ := h.init
  obtain ⟨r1, r2⟩ := ih h1 h2
  have hcx := hc x (by simp)
  rcases knit_cases xs x with ⟨A, r, e1, e2, e3, e4⟩ | ⟨_, e4⟩
  · rw [e4]
    rw [e1] at r1 r2
    obtain ⟨q1, q2, q3⟩ := r1.init
    refine ⟨⟨?_, fun a ha => ?_⟩, fun a ha => ?_⟩
    · rw [List.pairwise_append]
      exact ⟨q1.1, List.pairwise_singleton _ _, fun a ha b hb => by rw [List.mem_singleton.mp hb]; exact q2 a ha⟩
    · rcases List.mem_append.mp ha with m | m
      · exact q1.2 a m
      · rw [List.mem_singleton.mp m]; dsimp only; omega
    · rcases List.mem_append.mp ha with m | m
      · have := q2 a m; have := r2 r (by simp); omega
      · rw [List.mem_singleton.mp m]; exact hcx
  · rw [e4]
    refine ⟨⟨?_, fun a ha => ?_⟩, fun a ha => ?_⟩
    · rw [List.pairwise_append]
      exact ⟨r1.1, List.pairwise_singleton _ _, fun a ha b hb => by rw [List.mem_singleton.mp hb]; exact r2 a ha⟩
    · rcases List.mem_append.mp ha with m | m
      · exact r1.2 a m
      · rw [List.mem_singleton.mp m]; exact h3
    · rcases List.mem_append.mp ha with m | m
      · have := r2 a m; omega
      · rw [List.mem_singleton.mp m]; exact hcx
theorem knit_filter (p : σ → Bool) {xs : List (Int × Int × σ)} (h : Rise xs) : (knit xs).filter (fun r => p r.2.2) = knit (xs.filter fun r => p r.2.2) := by
  refine snoc_induct (P := fun xs => Rise xs → (knit xs).filter (fun r => p r.2.2) = knit (xs.filter fun r => p r.2.2)) (fun _ => rfl) (fun xs x ih h => ?_) xs h
  obtain ⟨h1, h2, h3⟩ := h.init
  have ih := ih h1
  obtain ⟨r1, r2⟩ := knit_end h1 h2
  rw [List.filter_append]
  cases hp : p x.2.2 with
  | false =>
    have e0 : [x].filter (fun r => p r.2.2) = [] := by simp [hp]
    rw [e0, List.append_nil, ← ih]
    rcases knit_cases xs x with ⟨A, r, e1, e2, e3, e4⟩ | ⟨_, e4⟩
    · have hr : p r.2.2 = false := by rw [e3]; exact hp
      rw [e4, e1, List.filter_append, List.filter_append]
      simp [hp, hr]
    · rw [e4, List.filter_append, e0, List.append_nil]
  | true =>
    have e0 : [x].filter (fun r => p r.2.2) = [x] := by simp [hp]
    rw [e0, knit_add (xs.filter fun r => p r.2.2), ← ih]
    rcases knit_cases xs x with ⟨A, r, e1, e2, e3, e4⟩ | ⟨hn, e4⟩
    · have hr : p r.2.2 = true := by rw [e3]; exact hp
      rw [e4, e1, List.filter_append, List.filter_append]
      have f1 : [r].filter (fun r => p r.2.2) = [r] := by simp [hr]
      have f2 : [(r.1, x.2.1, x.2.2)].filter (fun r => p r.2.2) = [(r.1, x.2.1, x.2.2)] := by simp [hp]
      rw [f1, f2, kn_snoc, if_pos ⟨e2, e3⟩]
    · rw [e4, List.filter_append, e0]
      rcases snoc_cases ((knit xs).filter fun r => p r.2.2) with g | ⟨B, r', g⟩
      · rw [g]; rfl
      · rw [g, kn_snoc, if_neg]
        rintro ⟨k1, k2⟩
        have hm : r' ∈ knit xs := by
          have : r' ∈ (knit xs).filter fun r => p r.2.2 := by rw [g]; simp
          exact (List.mem_filter.mp this).1
        rcases snoc_cases (knit xs) with u | ⟨C, z, u⟩
        · rw [u] at hm; cases hm
        · have hz := hn C z u
          rw [u] at r1 r2 hm
          obtain ⟨q1, q2, q3⟩ := r1.init
          rcases List.mem_append.mp hm with m | m
          · have := q2 r' m; have := r2 z (by simp); omega
          · rw [List.mem_singleton.mp m] at k1 k2
            exact hz ⟨k1, k2⟩
end knit
end Mo
set_option maxRecDepth 100000
set_option maxHeartbeats 2000000
/-! rows of slips in order -/
namespace Mo
open L2 PySem
/-- the order of rows -/
def ltR (a b : Row) : Bool := decide (a.1 < b.1 ∨ a.1 = b.1 ∧ ((a.2.1.1 < b.2.1.1 ∨ a.2.1.1 = b.2.1.1 ∧ a.2.1.2 < b.2.1.2) ∨ a.2.1 = b.2.1 ∧ a.2.2 < b.2.2))
theorem alike_R (a b : Row) : PySem.W.alike (qR a) (qR b) = true := by simp [qR, qB, PySem.W.alike, PySem.W.alikeAll]
theorem lt_qR (a b : Row) : PySem.W.dataLt (qR a) (qR b) = ltR a b := by
  unfold qR
  rw [PySem.W.dataLt_tuple, PySem.W.dataLt_cons (by simp [PySem.W.alike]), PySem.W.dataLt_cons (by simp [qB, PySem.W.alike, PySem.W.alikeAll]), PySem.W.dataLt_cons (by simp [PySem.W.alike])]
  have e0 := PyProof.Rows.lex_irrefl (O := PyProof.Rows.itemOrd) (PySem.W.keyToksAll [])
  rw [e0]
  rw [show PySem.W.dataLt (qB a.2.1) (qB b.2.1) = _ from PySem.W.dataLt_ii .., PySem.W.dataLt_int, PySem.W.dataLt_int]
  simp only [PyData.eqv, eqv_B, beq_iff_eq, decide_eq_true_eq]
  unfold ltR
  by_cases h1 : a.1 = b.1 <;> by_cases h2 : a.2.1 = b.2.1 <;> by_cases h3 : a.2.2 = b.2.2 <;> simp [h1, h2, h3]
def leR (a b : Row) : Bool := !ltR b a
def sortR (l : List Row) : List Row := l.mergeSort leR
theorem leR_iff {a b : Row} : leR a b = true ↔ ¬ (b.1 < a.1 ∨ b.1 = a.1 ∧ ((b.2.1.1 < a.2.1.1 ∨ b.2.1.1 = a.2.1.1 ∧ b.2.1.2 < a.2.1.2) ∨ b.2.1 = a.2.1 ∧ b.2.2 < a.2.2)) := by
  unfold leR ltR
  rw [Bool.not_eq_true', decide_eq_false_iff_not]
theorem pair_eq {a b : Bal} : a = b ↔ a.1 = b.1 ∧ a.2 = b.2 := Prod.ext_iff
theorem leR_total (a b : Row) : (leR a b || leR b a) = true := by
  rw [Bool.or_eq_true, leR_iff, leR_iff, pair_eq, pair_eq]; omega
theorem leR_trans (a b c : Row) (h1 : leR a b = true) (h2 : leR b c = true) : leR a c = true := by
  rw [leR_iff, pair_eq] at *; omega
theorem leR_anti {a b : Row} (h1 : leR a b = true) (h2 : leR b a = true) : a = b := by
  rw [leR_iff, pair_eq] at *
  obtain ⟨a1, ⟨a2, a3⟩, a4⟩ := a
  obtain ⟨b1, ⟨b2, b3⟩, b4⟩ := b
  dsimp only at *
  have e1 : a1 = b1 := by omega
  have e2 : a2 = b2 := by omega
  have e3 : a3 = b3 := by omega
  have e4 : a4 = b4 := by omega
  rw [e1, e2, e3, e4]
theorem sortR_sorted (l : List Row) : (sortR l).Pairwise fun a b => leR a b = true := List.pairwise_mergeSort leR_trans leR_total l
theorem sortR_perm (l : List Row) : (sortR l).Perm l := List.mergeSort_perm _ _
theorem sortR_eq {l m : List Row} (h : l.Perm m) (hm : m.Pairwise fun a b => leR a b = true) : sortR l = m :=
  ((sortR_perm l).trans h).eq_of_pairwise (fun a b _ _ h h' => leR_anti h h') (sortR_sorted l) hm
theorem sortR_congr {l m : List Row} (h : l.Perm m) : sortR l = sortR m := sortR_eq (h.trans (sortR_perm m).symm) (sortR_sorted m)
theorem sortR_mem {l : List Row} {t : Row} : t ∈ sortR l ↔ t ∈ l := List.mem_mergeSort
theorem sortR_len (l : List Row) : (sortR l).length = l.length := (sortR_perm l).length_eq
theorem encD_R (t : Row) : encD (dR t) = qR t := by unfold encD; rw [toP_R]; rfl
theorem sorted_R (l : List Row) (S : Store) : hSorted (l.map dR) S = .ok ((sortR l).map dR) S := by
  unfold hSorted
  rw [toPs_map toP_R]
  dsimp only
  have h1 : (l.map qR).all (fun x => (l.map qR).all (PySem.W.alike x)) = true := by
    rw [List.all_eq_true]
    intro x hx
    rw [List.all_eq_true]
    intro y hy
    obtain ⟨a, _, ea⟩ := List.mem_map.mp hx
    obtain ⟨b, _, eb⟩ := List.mem_map.mp hy
    rw [← ea, ← eb, alike_R]
  have h2 : sortableB (l.map qR) = true := by
    unfold sortableB
    rw [Bool.or_eq_true, List.all_eq_true]
    refine .inl fun x hx => ?_
    obtain ⟨a, _, ea⟩ := List.mem_map.mp hx
    rw [← ea]; rfl
  have h3 : PyData.depthAll (l.map qR) ≤ 60 := depthAll_map fun t _ => by have := depth_R t; omega
  rw [if_pos ⟨h1, h2, h3⟩]
  congr 1
  unfold sortD sortR
  refine (List.map_mergeSort fun a _ b _ => ?_).symm
  show leR a b = !PySem.W.dataLt (encD (dR b)) (encD (dR a))
  rw [encD_R, encD_R, lt_qR]
  rfl
/-! ### a row in rows -/
theorem in_R (t : Row) (l : List Row) (S : Store) : gInA false (dR t) (.tup (l.map dR)) S = .ok (.bl (decide (t ∈ l))) S := by
  unfold gInA
  rw [toP_R, toP, toPs_map toP_R]
  dsimp only [Option.map]
  simp only [seqP]
  have h1 : SeqAt.shaped (qR t) = true := shaped_of (lay_R t) (by have := depth_R t; omega)
  have h2 : SeqAt.shaped (.tuple (l.map qR)) = true := by
    have := depthAll_map (g := qR) (k := 6) (xs := l) fun t _ => depth_R t
    exact shaped_of (by simp [PyData.canLay0, canLayAll_map lay_R]) (by simp only [PyData.depth]; omega)
  rw [if_pos ⟨h1, h2⟩]
  congr 2
  rw [Bool.bne_false, List.any_map]
  induction l with
  | nil => simp
  | cons a l ih =>
    rw [List.any_cons]
    have h2' : SeqAt.shaped (.tuple (l.map qR)) = true := by
      have := depthAll_map (g := qR) (k := 6) (xs := l) fun t _ => depth_R t
      exact shaped_of (by simp [PyData.canLay0, canLayAll_map lay_R]) (by simp only [PyData.depth]; omega)
    rw [ih h2']
    show (PyData.eqv (qR a) (qR t) || decide (t ∈ l)) = _
    rw [eqv_R]
    by_cases e : a = t
    · subst e; simp
    · have : ¬ t = a := fun z => e z.symm
      simp [e, this]
end Mo
set_option maxRecDepth 100000
set_option maxHeartbeats 1000000
/-! Mo: sums, orders of numbers, types told. -/
namespace Mo
open PySem L2
theorem intsD_map : ∀ ns : List Int, intsD (ns.map .int) = some ns
  | [] => rfl
  | n :: ns => by rw [List.map_cons, intsD, intsD_map ns]; rfl
theorem blsD_map : ∀ ns : List Bool, blsD (ns.map .bl) = some ns
  | [] => rfl
  | n :: ns => by rw [List.map_cons, blsD, blsD_map ns]; rfl
theorem hSum_ints (ns : List Int) (S : Store) : hSum (ns.map .int) S = .ok (.int ns.sum) S := by unfold hSum; rw [intsD_map]
theorem hAll_bls (bs : List Bool) (S : Store) : hAll (bs.map .bl) S = .ok (.bl (bs.all id)) S := by unfold hAll; rw [blsD_map]
/-- numbers from 0 -/
def dN' (n : Nat) : D := .int (n : Int)
theorem map_nat (ns : List Nat) : ns.map (fun n : Nat => D.int (n : Int)) = (ns.map (fun n : Nat => (n : Int))).map .int := by rw [List.map_map]; rfl
theorem sum_nat : ∀ ns : List Nat, (ns.map (fun n : Nat => (n : Int))).sum = ((ns.sum : Nat) : Int)
  | [] => rfl
  | n :: ns => by rw [List.map_cons, List.sum_cons, List.sum_cons, sum_nat ns, Int.natCast_add]
theorem hSum_nat (ns : List Nat) (S : Store) : hSum (ns.map fun n : Nat => D.int (n : Int)) S = .ok (.int ((ns.sum : Nat) : Int)) S := by rw [map_nat, hSum_ints, sum_nat]
/-- isinstance, told -/
theorem k_int_int : kitB "int" "int" = some true := by decide +kernel
theorem k_int_bool : kitB "int" "bool" = some false := by decide +kernel
theorem k_int_tuple : kitB "int" "tuple" = some false := by decide +kernel
theorem k_int_str : kitB "int" "str" = some false := by decide +kernel
theorem k_bool_int : kitB "bool" "int" = some true := by decide +kernel
theorem k_bool_bool : kitB "bool" "bool" = some true := by decide +kernel
theorem k_bool_tuple : kitB "bool" "tuple" = some false := by decide +kernel
theorem k_bool_str : kitB "bool" "str" = some false := by decide +kernel
theorem k_str_int : kitB "str" "int" = some false := by decide +kernel
theorem k_str_bool : kitB "str" "bool" = some false := by decide +kernel
theorem k_str_tuple : kitB "str" "tuple" = some false := by decide +kernel
theorem k_str_str : kitB "str" "str" = some true := by decide +kernel
theorem k_non_int : kitB "NoneType" "int" = some false := by decide +kernel
theorem k_non_bool : kitB "NoneType" "bool" = some false := by decide +kernel
theorem k_non_tuple : kitB "NoneType" "tuple" = some false := by decide +kernel
theorem k_non_str : kitB "NoneType" "str" = some false := by decide +kernel
theorem k_tup_int : kitB "tuple" "int" = some false := by decide +kernel
theorem k_tup_bool : kitB "tuple" "bool" = some false := by decide +kernel
theorem k_tup_tuple : kitB "tuple" "tuple" = some true := by decide +kernel
theorem k_tup_str : kitB "tuple" "str" = some false := by decide +kernel
theorem k_lst_int : kitB "list" "int" = some false := by decide +kernel
theorem k_lst_bool : kitB "list" "bool" = some false := by decide +kernel
theorem k_lst_tuple : kitB "list" "tuple" = some false := by decide +kernel
theorem k_lst_str : kitB "list" "str" = some false := by decide +kernel
theorem k_dct_int : kitB "dict" "int" = some false := by decide +kernel
theorem k_dct_bool : kitB "dict" "bool" = some false := by decide +kernel
theorem k_dct_tuple : kitB "dict" "tuple" = some false := by decide +kernel
theorem k_dct_str : kitB "dict" "str" = some false := by decide +kernel
/-- what isinstance tells, by kinds -/
def isTy : D → String → Bool
  | .int _, t => t == "int"
  | .bl _, t => t == "int" || t == "bool"
  | .str _, t => t == "str"
  | .tup _, t => t == "tuple"
  | _, _ => false
def tyKnown : D → Store → Bool
  | .raw _, _ => false
  | .scr _, _ => false
  | .loc n, S => match S[n]? with
    | some (.dT _) => false
    | some _ => true
    | none => false
  | _, _ => true
theorem hIsi_of (d : D) (t : String) (S : Store) (ht : t = "int" ∨ t = "bool" ∨ t = "tuple" ∨ t = "str") (h : tyKnown d S = true) : hIsi [d, .raw (.ty t)] S = .ok (.bl (isTy d t)) S := by
  unfold hIsi
  dsimp only
  have go : ∀ a : String, tyD d S = some a → kitB a t = some (isTy d t) → (match tyD d S with
    | some t_1 => match kitB t_1 t with
      | some b => R.ok (D.bl b) S
      | none => R.bad
    | none => R.bad) = R.ok (D.bl (isTy d t)) S := fun a h1 h2 => by rw [h1]; dsimp only; rw [h2]
  cases d with
  | non => refine go "NoneType" rfl ?_; rcases ht with rfl | rfl | rfl | rfl <;> first | exact k_non_int | exact k_non_bool | exact k_non_tuple | exact k_non_str
  | bl x => refine go "bool" rfl ?_; rcases ht with rfl | rfl | rfl | rfl <;> first | exact k_bool_int | exact k_bool_bool | exact k_bool_tuple | exact k_bool_str
  | int x => refine go "int" rfl ?_; rcases ht with rfl | rfl | rfl | rfl <;> first | exact k_int_int | exact k_int_bool | exact k_int_tuple | exact k_int_str
  | str x => refine go "str" rfl ?_; rcases ht with rfl | rfl | rfl | rfl <;> first | exact k_str_int | exact k_str_bool | exact k_str_tuple | exact k_str_str
  | tup x => refine go "tuple" rfl ?_; rcases ht with rfl | rfl | rfl | rfl <;> first | exact k_tup_int | exact k_tup_bool | exact k_tup_tuple | exact k_tup_str
  | lst x => refine go "list" rfl ?_; rcases ht with rfl | rfl | rfl | rfl <;> first | exact k_lst_int | exact k_lst_bool | exact k_lst_tuple | exact k_lst_str
  | raw x => cases h
  | scr x => cases h
  | loc n =>
    cases e : S[n]? with
    | none => simp only [tyKnown, e] at h; cases h
    | some c =>
      cases c with
      | lst x => refine go "list" (by simp only [tyD, e]) ?_; rcases ht with rfl | rfl | rfl | rfl <;> first | exact k_lst_int | exact k_lst_bool | exact k_lst_tuple | exact k_lst_str
      | dK x => refine go "dict" (by simp only [tyD, e]) ?_; rcases ht with rfl | rfl | rfl | rfl <;> first | exact k_dct_int | exact k_dct_bool | exact k_dct_tuple | exact k_dct_str
      | dT x => simp only [tyKnown, e] at h; cases h
      | dF x => refine go "dict" (by simp only [tyD, e]) ?_; rcases ht with rfl | rfl | rfl | rfl <;> first | exact k_dct_int | exact k_dct_bool | exact k_dct_tuple | exact k_dct_str
/-- sorted numbers -/
def leI (i j : Int) : Bool := decide (i ≤ j)
def ordI (b : Bool) (i j : Int) : Bool := if b then decide (j ≤ i) else decide (i ≤ j)
theorem dataLe_int (b : Bool) (i j : Int) : PySem.W.dataLe b encD (.int i) (.int j) = ordI b i j := by
  cases b with
  | false =>
    show (!PySem.W.dataLt (.int j) (.int i)) = _
    rw [PySem.W.dataLt_int]
    simp [ordI, ← decide_not]
  | true =>
    show (!PySem.W.dataLt (.int i) (.int j)) = _
    rw [PySem.W.dataLt_int]
    simp [ordI, ← decide_not]
theorem sortDR_int (b : Bool) (ns : List Int) : sortDR b (ns.map .int) = (ns.mergeSort (ordI b)).map .int := by
  unfold sortDR
  exact (List.map_mergeSort (r := ordI b) (s := PySem.W.dataLe b encD) (f := D.int) (fun i _ j _ => (dataLe_int b i j).symm)).symm
theorem toPs_ints (ns : List Int) : toPs (ns.map .int) = some (ns.map .int) := toPs_map (g := PyData.int) (fun _ => rfl) ns
theorem depth_ints : ∀ ns : List Int, PyData.depthAll (ns.map PyData.int) ≤ 1
  | [] => by simp [PyData.depthAll]
  | n :: ns => by have := depth_ints ns; simp [PyData.depthAll, PyData.depth]; exact this
theorem hSortedB_int (b : Bool) (ns : List Int) (S : Store) : hSortedB b (ns.map .int) S = .ok ((ns.mergeSort (ordI b)).map .int) S := by
  unfold hSortedB
  rw [toPs_ints]
  dsimp only
  rw [if_pos, sortDR_int]
  refine ⟨?_, ?_, ?_⟩
  · simp [List.all_eq_true, PySem.W.alike]
  · simp [sortableB]
  · have := depth_ints ns; omega
/-- numbers sorted one by one -/
def insI (b : Bool) (x : Int) : List Int → List Int
  | [] => [x]
  | y :: ys => if ordI b x y = true then x :: y :: ys else y :: insI b x ys
def isI (b : Bool) : List Int → List Int
  | [] => []
  | x :: xs => insI b x (isI b xs)
theorem insI_perm (b : Bool) (x : Int) : ∀ ys, (insI b x ys).Perm (x :: ys)
  | [] => .refl _
  | y :: ys => by
    unfold insI
    split
    · exact .refl _
    · exact ((insI_perm b x ys).cons y).trans (.swap x y ys)
theorem isI_perm (b : Bool) : ∀ ys, (isI b ys).Perm ys
  | [] => .refl _
  | y :: ys => (insI_perm b y _).trans ((isI_perm b ys).cons y)
theorem ordI_trans {b : Bool} {x y z : Int} (h1 : ordI b x y = true) (h2 : ordI b y z = true) : ordI b x z = true := by
  cases b <;> simp [ordI] at * <;> omega
theorem ordI_total (b : Bool) (x y : Int) : ordI b x y = true ∨ ordI b y x = true := by
  cases b <;> simp [ordI] <;> omega
theorem ordI_anti {b : Bool} {x y : Int} (h1 : ordI b x y = true) (h2 : ordI b y x = true) : x = y := by
  cases b <;> simp [ordI] at * <;> omega
theorem insI_ord (b : Bool) (x : Int) : ∀ ys, ys.Pairwise (fun i j => ordI b i j = true) → (insI b x ys).Pairwise fun i j => ordI b i j = true
  | [], _ => by simp [insI]
  | y :: ys, h => by
    rw [List.pairwise_cons] at h
    unfold insI
    split
    · rename_i hxy
      refine List.pairwise_cons.mpr ⟨fun z hz => ?_, List.pairwise_cons.mpr h⟩
      rcases List.mem_cons.mp hz with e | hz
      · rw [e]; exact hxy
      · exact ordI_trans hxy (h.1 z hz)
    · rename_i hxy
      refine List.pairwise_cons.mpr ⟨fun z hz => ?_, insI_ord b x ys h.2⟩
      rcases List.mem_cons.mp ((insI_perm b x ys).mem_iff.mp hz) with e | hz
      · rw [e]; exact (ordI_total b x y).resolve_left hxy
      · exact h.1 z hz
theorem isI_ord (b : Bool) : ∀ ys, (isI b ys).Pairwise fun i j => ordI b i j = true
  | [] => .nil
  | y :: ys => insI_ord b y _ (isI_ord b ys)
theorem perm_ord {b : Bool} : ∀ {xs ys : List Int}, xs.Perm ys → (xs.Pairwise fun i j => ordI b i j = true) → (ys.Pairwise fun i j => ordI b i j = true) → xs = ys
  | [], ys, h, _, _ => (List.perm_nil.mp h.symm).symm
  | x :: xs, [], h, _, _ => nomatch h.length_eq
  | x :: xs, y :: ys, h, hx, hy => by
    rw [List.pairwise_cons] at hx hy
    have e : x = y := by
      have h1 : x ∈ y :: ys := h.mem_iff.mp List.mem_cons_self
      have h2 : y ∈ x :: xs := h.mem_iff.mpr List.mem_cons_self
      rcases List.mem_cons.mp h1 with q | q
      · exact q
      · rcases List.mem_cons.mp h2 with q2 | q2
        · exact q2.symm
        · exact ordI_anti (hx.1 y q2) (hy.1 x q)
    subst e
    rw [perm_ord (List.Perm.cons_inv h) hx.2 hy.2]
theorem merge_is (b : Bool) (ns : List Int) : ns.mergeSort (ordI b) = isI b ns := by
  refine perm_ord (b := b) ((List.mergeSort_perm ns (ordI b)).trans (isI_perm b ns).symm) ?_ (isI_ord b ns)
  exact List.pairwise_mergeSort (le := ordI b) (fun x y z h1 h2 => ordI_trans h1 h2) (fun x y => Bool.or_eq_true_iff.mpr (ordI_total b x y)) ns
theorem sorted_int (b : Bool) (ns : List Int) (S : Store) : hSortedB b (ns.map .int) S = .ok ((isI b ns).map .int) S := by rw [hSortedB_int, merge_is]
/-- .. from 0 -/
def ordN (b : Bool) (i j : Nat) : Bool := if b then Nat.ble j i else Nat.ble i j
def insN (b : Bool) (x : Nat) : List Nat → List Nat
  | [] => [x]
  | y :: ys => if ordN b x y = true then x :: y :: ys else y :: insN b x ys
def isN (b : Bool) : List Nat → List Nat
  | [] => []
  | x :: xs => insN b x (isN b xs)
theorem ordN_eq (b : Bool) (i j : Nat) : ordN b i j = ordI b (i : Int) (j : Int) := by
  rw [Bool.eq_iff_iff]
  cases b <;> simp [ordN, ordI, Nat.ble_eq]
theorem insN_eq (b : Bool) (x : Nat) : ∀ ys, (insN b x ys).map (fun n : Nat => (n : Int)) = insI b x (ys.map fun n : Nat => (n : Int))
  | [] => rfl
  | y :: ys => by
    rw [List.map_cons, insN, insI, ordN_eq]
    split
    · rfl
    · rw [List.map_cons, insN_eq b x ys]
theorem isN_eq (b : Bool) : ∀ ys, (isN b ys).map (fun n : Nat => (n : Int)) = isI b (ys.map fun n : Nat => (n : Int))
  | [] => rfl
  | y :: ys => by rw [List.map_cons, isN, insN_eq, isN_eq b ys]; rfl
theorem sorted_nat (b : Bool) (ns : List Nat) (S : Store) : hSortedB b (ns.map fun n : Nat => D.int (n : Int)) S = .ok ((isN b ns).map fun n : Nat => D.int (n : Int)) S := by
  rw [map_nat, sorted_int, ← isN_eq, ← map_nat]
theorem insN_len (b : Bool) (x : Nat) : ∀ ys, (insN b x ys).length = ys.length + 1
  | [] => rfl
  | y :: ys => by rw [insN]; split <;> simp [insN_len b x ys]
theorem isN_len (b : Bool) : ∀ ys, (isN b ys).length = ys.length
  | [] => rfl
  | y :: ys => by rw [isN, insN_len, isN_len b ys, List.length_cons]
end Mo
namespace Mo
open PySem L2
theorem sub_nat {a b c : Int} (S : Store) (h : a - b = c) : gSubI (.int a) (.int b) S = .ok (.int c) S := by rw [← h]; rfl
theorem add_nat {a b c : Int} (S : Store) (h : a + b = c) : gAddI (.int a) (.int b) S = .ok (.int c) S := by rw [← h]; rfl
theorem range_nat (n : Nat) : rangeD 0 (n : Int) = (List.range n).map fun k : Nat => D.int (0 + (k : Nat)) := by unfold rangeD; rw [Int.sub_zero, Int.toNat_natCast]
end Mo
namespace Mo
open PySem L2
theorem iRange1_nat {l : MA} {ρ : MEnv} {S S1 : Store} {n : Nat} (h : l ρ S = .ok [.int (n : Int)] S1) (hn : n < 2 ^ 60) : iRg1 l ρ S = .ok ((List.range n).map fun k : Nat => D.int (0 + (k : Nat))) S1 := by
  unfold iRg1
  rw [h, bind_ok_eq, ← range_nat]
  exact if_pos ((b62_iff _).mpr ⟨by omega, by omega⟩)
theorem iRange1_lit {l : MA} {ρ : MEnv} {S S1 : Store} {j : Int} (n : Nat) (h : l ρ S = .ok [.int j] S1) (e : j = (n : Int)) (hn : n < 2 ^ 60) : iRg1 l ρ S = .ok ((List.range n).map fun k : Nat => D.int (0 + (k : Nat))) S1 := by
  subst e
  exact iRange1_nat h hn
end Mo
namespace Mo
open PySem L2
theorem mem_le_sum : ∀ {s : List Nat} {x : Nat}, x ∈ s → x ≤ s.sum
  | [], _, h => nomatch h
  | y :: s, x, h => by
    rw [List.sum_cons]
    rcases List.mem_cons.mp h with e | h
    · omega
    · have := mem_le_sum h; omega
theorem insN_sum (b : Bool) (x : Nat) : ∀ ys, (insN b x ys).sum = x + ys.sum
  | [] => by simp [insN]
  | y :: ys => by
    rw [insN]
    split
    · rw [List.sum_cons]
    · rw [List.sum_cons, insN_sum b x ys, List.sum_cons]; omega
theorem isN_sum (b : Bool) : ∀ ys, (isN b ys).sum = ys.sum
  | [] => rfl
  | y :: ys => by rw [isN, insN_sum, isN_sum b ys, List.sum_cons]
theorem take_sum_le (n : Nat) (s : List Nat) : (s.take n).sum ≤ s.sum := by
  have h3 := congrArg List.sum (List.take_append_drop n s)
  rw [List.sum_append] at h3
  omega
theorem mul_of {i j k : Int} (S : Store) (c : cMul i j) (e : i * j = k) : gMulI (.int i) (.int j) S = .ok (.int k) S := by
  unfold gMulI
  rw [gI_eq, if_pos c, e]
theorem gt_of {i j : Int} {k : Bool} (S : Store) (e : decide (j < i) = k) : gGt (.int i) (.int j) S = .ok (.bl k) S := by rw [← e]; rfl
theorem lt_of {i j : Int} {k : Bool} (S : Store) (e : decide (i < j) = k) : gLt (.int i) (.int j) S = .ok (.bl k) S := by rw [← e]; rfl
theorem ge_of {i j : Int} {k : Bool} (S : Store) (e : decide (j ≤ i) = k) : gGe (.int i) (.int j) S = .ok (.bl k) S := by rw [← e]; rfl
theorem le_of {i j : Int} {k : Bool} (S : Store) (e : decide (i ≤ j) = k) : gLe (.int i) (.int j) S = .ok (.bl k) S := by rw [← e]; rfl
end Mo
namespace Mo
open PySem L2
theorem gRep_nat (l : List D) (h : Nat) (S : Store) (hl : l.length * h ≤ 1000000) (hh : h < 2 ^ 60) : gRp (.lst l) (.int (h : Int)) S = .ok (List.replicate h l).flatten S := by
  have e : (List.replicate h l).flatten = (List.replicate (h : Int).toNat l).flatten := by rw [Int.toNat_natCast]
  rw [e]
  unfold gRp
  exact if_pos ⟨(b63_iff _).mpr ⟨by omega, by omega⟩, by rw [Int.toNat_natCast]; exact small_le hl⟩
theorem flat_rep (d : D) : ∀ h : Nat, (List.replicate h [d]).flatten = List.replicate h d
  | 0 => rfl
  | h + 1 => by rw [List.replicate_succ, List.flatten_cons, flat_rep d h, List.replicate_succ]; rfl
end Mo
namespace Mo
open PySem L2
theorem catL_ok (a b : List D) (S : Store) (h : a.length + b.length ≤ 1000000) : gCatL (.lst a) (.lst b) S = .ok (a ++ b) S := by
  have e0 : gCatL (.lst a) (.lst b) S = if a.length + b.length ≤ sizeLine then .ok (a ++ b) S else .bad := rfl
  rw [e0, if_pos (small_le h)]
theorem catT_ok (a b : List D) (S : Store) (h : a.length + b.length ≤ 1000000) : gCatT (.tup a) (.tup b) S = .ok (.tup (a ++ b)) S := by
  have e0 : gCatT (.tup a) (.tup b) S = if a.length + b.length ≤ sizeLine then .ok (.tup (a ++ b)) S else .bad := rfl
  rw [e0, if_pos (small_le h)]
end Mo
set_option maxRecDepth 100000
set_option maxHeartbeats 1000000
/-! Mo: plain data: numbers below 2 ^ 64, truths, None, lists and tuples of such; what repr, ==, in tell of them. -/
namespace Mo
open PySem L2
mutual
def niceD : D → Bool
  | .non => true
  | .bl _ => true
  | .int i => decide (i.natAbs.log2 < 64)
  | .tup l => niceDs l
  | .lst l => niceDs l
  | _ => false
def niceDs : List D → Bool
  | [] => true
  | d :: ds => niceD d && niceDs ds
end
mutual
def nodesD : D → Nat
  | .tup l => 1 + nodesDs l
  | .lst l => 1 + nodesDs l
  | _ => 1
def nodesDs : List D → Nat
  | [] => 0
  | d :: ds => nodesD d + nodesDs ds
end
mutual
def depthD : D → Nat
  | .tup l => depthDs l + 1
  | .lst l => depthDs l + 1
  | _ => 0
def depthDs : List D → Nat
  | [] => 0
  | d :: ds => max (depthD d) (depthDs ds)
end
mutual
def plainP : D → PyData
  | .non => .none
  | .bl b => .bool b
  | .int i => .int i
  | .tup l => .tuple (plainPs l)
  | .lst l => .list (plainPs l)
  | _ => .none
def plainPs : List D → List PyData
  | [] => []
  | d :: ds => plainP d :: plainPs ds
end
mutual
theorem plain_toP : ∀ d : D, niceD d = true → toP d = some (plainP d)
  | .non, _ => rfl
  | .bl _, _ => rfl
  | .int _, _ => rfl
  | .tup l, h => by rw [niceD] at h; rw [toP, plain_toPs l h]; rfl
  | .lst l, h => by rw [niceD] at h; rw [toP, plain_toPs l h]; rfl
  | .str _, h => by cases h
  | .loc _, h => by cases h
  | .raw _, h => by cases h
  | .scr _, h => by cases h
theorem plain_toPs : ∀ l : List D, niceDs l = true → toPs l = some (plainPs l)
  | [], _ => rfl
  | d :: ds, h => by
    rw [niceDs, Bool.and_eq_true] at h
    rw [toPs, plain_toP d h.1, plain_toPs ds h.2]; rfl
end
mutual
theorem plain_nums : ∀ d : D, niceD d = true → nums (plainP d) = true ∧ (plainP d).canLay0 = true ∧ nodes (plainP d) = nodesD d
  | .non, _ => ⟨rfl, rfl, rfl⟩
  | .bl _, _ => ⟨rfl, rfl, rfl⟩
  | .int _, h => by rw [niceD] at h; refine ⟨?_, rfl, rfl⟩; rw [plainP, nums]; exact h
  | .tup l, h => by
    rw [niceD] at h
    obtain ⟨a, b, c⟩ := plain_numss l h
    exact ⟨by rw [plainP, nums]; exact a, by rw [plainP, PyData.canLay0]; exact b, by rw [plainP, nodes, nodesD, c]⟩
  | .lst l, h => by
    rw [niceD] at h
    obtain ⟨a, b, c⟩ := plain_numss l h
    exact ⟨by rw [plainP, nums]; exact a, by rw [plainP, PyData.canLay0]; exact b, by rw [plainP, nodes, nodesD, c]⟩
  | .str _, h => by cases h
  | .loc _, h => by cases h
  | .raw _, h => by cases h
  | .scr _, h => by cases h
theorem plain_numss : ∀ l : List D, niceDs l = true → numsAll (plainPs l) = true ∧ PyData.canLayAll0 (plainPs l) = true ∧ nodesAll (plainPs l) = nodesDs l
  | [], _ => ⟨rfl, rfl, rfl⟩
  | d :: ds, h => by
    rw [niceDs, Bool.and_eq_true] at h
    obtain ⟨a, b, c⟩ := plain_nums d h.1
    obtain ⟨a', b', c'⟩ := plain_numss ds h.2
    exact ⟨by rw [plainPs, numsAll, a, a']; rfl, by rw [plainPs, PyData.canLayAll0, b, b']; rfl, by rw [plainPs, nodesAll, nodesDs, c, c']⟩
end
mutual
theorem plain_depth : ∀ d : D, (plainP d).depth ≤ depthD d * 4
  | .non => by simp [plainP, PyData.depth]
  | .bl _ => by simp [plainP, PyData.depth]
  | .int _ => by simp [plainP, PyData.depth]
  | .tup l => by have := plain_depths l; simp only [plainP, PyData.depth, depthD]; omega
  | .lst l => by have := plain_depths l; simp only [plainP, PyData.depth, depthD]; omega
  | .str _ => by simp [plainP, PyData.depth]
  | .loc _ => by simp [plainP, PyData.depth]
  | .raw _ => by simp [plainP, PyData.depth]
  | .scr _ => by simp [plainP, PyData.depth]
theorem plain_depths : ∀ l : List D, PyData.depthAll (plainPs l) ≤ depthDs l * 4
  | [] => by simp [plainPs, PyData.depthAll]
  | d :: ds => by
    have := plain_depth d
    have := plain_depths ds
    simp only [plainPs, PyData.depthAll, depthDs]; omega
end
/-- plain, small, shallow -/
structure NiceD (d : D) : Prop where
  n : niceD d = true
  s : nodesD d ≤ 10000
  h : depthD d ≤ 15
/-- its text -/
def rp (d : D) : Str := (plainP d).shown
theorem NiceD.ok {d : D} (h : NiceD d) : shownOk (plainP d) := by
  obtain ⟨a, b, c⟩ := plain_nums d h.n
  have := plain_depth d
  have := h.h
  exact shownOk_of a (by rw [c]; exact h.s) (by omega)
theorem NiceD.shaped {d : D} (h : NiceD d) : SeqAt.shaped (plainP d) = true := by
  obtain ⟨a, b, c⟩ := plain_nums d h.n
  have := plain_depth d
  have := h.h
  exact shaped_of b (by omega)
theorem repr_nice {d : D} (h : NiceD d) (S : Store) : gReprV d S = .ok (.str (rp d)) S := gReprV_ok (plain_toP d h.n) h.ok
theorem eqD_nice {x y : D} (hx : NiceD x) (hy : NiceD y) : eqD x y = some (PyData.eqv (plainP x) (plainP y)) := by
  unfold eqD
  rw [plain_toP x hx.n, plain_toP y hy.n]
  dsimp only
  rw [if_pos ⟨hx.shaped, hy.shaped⟩]
theorem gEqS_nice {x y : D} (hx : NiceD x) (S : Store) : gEqS x y S = .bad := by
  obtain ⟨n, _, _⟩ := hx
  cases x <;> first | rfl | (cases n; done)
theorem gNeS_nice {x y : D} (hx : NiceD x) (S : Store) : gNeS x y S = .bad := by
  obtain ⟨n, _, _⟩ := hx
  cases x <;> first | rfl | (cases n; done)
theorem eq_nice {x y : D} (hx : NiceD x) (hy : NiceD y) (S : Store) : gEqA x y S = .ok (.bl (PyData.eqv (plainP x) (plainP y))) S := by
  unfold gEqA gOr
  rw [gEqS_nice hx]
  dsimp only
  unfold gEq
  rw [eqD_nice hx hy]
theorem ne_nice {x y : D} (hx : NiceD x) (hy : NiceD y) (S : Store) : gNeA x y S = .ok (.bl (!PyData.eqv (plainP x) (plainP y))) S := by
  unfold gNeA gOr
  rw [gNeS_nice hx]
  dsimp only
  unfold gNe
  rw [eqD_nice hx hy]
theorem eqv_self {x : D} (hx : NiceD x) : PyData.eqv (plainP x) (plainP x) = true := SeqAt.eqv_refl _ (plain_nums x hx.n).2.1
/-- made of parts -/
theorem niceDs_map {α : Type} {f : α → D} : ∀ {xs : List α}, (∀ x ∈ xs, niceD (f x) = true) → niceDs (xs.map f) = true
  | [], _ => rfl
  | x :: xs, h => by rw [List.map_cons, niceDs, h x List.mem_cons_self, niceDs_map fun y hy => h y (List.mem_cons_of_mem _ hy)]; rfl
theorem nodesDs_map {α : Type} {f : α → D} {k : Nat} : ∀ {xs : List α}, (∀ x ∈ xs, nodesD (f x) ≤ k) → nodesDs (xs.map f) ≤ k * xs.length
  | [], _ => Nat.zero_le _
  | x :: xs, h => by
    have h1 := h x List.mem_cons_self
    have h2 := nodesDs_map (xs := xs) fun y hy => h y (List.mem_cons_of_mem _ hy)
    rw [List.map_cons, nodesDs, List.length_cons, Nat.mul_succ]; omega
theorem depthDs_map {α : Type} {f : α → D} {k : Nat} : ∀ {xs : List α}, (∀ x ∈ xs, depthD (f x) ≤ k) → depthDs (xs.map f) ≤ k
  | [], _ => Nat.zero_le _
  | x :: xs, h => by
    have h1 := h x List.mem_cons_self
    have h2 := depthDs_map (xs := xs) fun y hy => h y (List.mem_cons_of_mem _ hy)
    rw [List.map_cons, depthDs]; omega
theorem nodes_int (i : Int) : nodesD (.int i) = 1 := by simp [nodesD]
theorem depth_int (i : Int) : depthD (.int i) = 0 := by simp [depthD]
theorem nice_int {i : Int} (h : i.natAbs < 2 ^ 64) : niceD (.int i) = true := by rw [niceD]; exact decide_eq_true (log_lt h)
theorem NiceD.int {i : Int} (h : i.natAbs < 2 ^ 64) : NiceD (.int i) := ⟨nice_int h, by simp [nodesD], by simp [depthD]⟩
/-- the texts are texts -/
theorem ok_app (a b : Str) : PyData.strOk (a ++ b) = (PyData.strOk a && PyData.strOk b) := by
  show (a.cps ++ b.cps).all _ = _
  rw [Array.all_append]; rfl
theorem ok_of (s : String) : PyData.strOk (Str.ofString s) = true := by
  unfold PyData.strOk
  rw [Str.ofString_eq_toList]
  simp only [List.all_toArray, List.all_map, List.all_eq_true, Function.comp]
  intro c _
  have := c.valid
  have h2 : c.toNat < 0x110000 := by
    rcases c.valid with h | ⟨_, h⟩
    · exact Nat.lt_trans h (by decide)
    · exact h
  exact decide_eq_true h2
theorem ok_join : ∀ ts : List Str, (∀ t ∈ ts, PyData.strOk t = true) → PyData.strOk (Str.join ", " ts) = true
  | [], _ => by show PyData.strOk Str.empty = true; simp [PyData.strOk, Str.empty]
  | [x], h => h x (by simp)
  | x :: y :: r, h => by
    show PyData.strOk (x ++ ", " ++ Str.join ", " (y :: r)) = true
    rw [ok_app, ok_app, h x (by simp), ok_of, ok_join (y :: r) fun t ht => h t (List.mem_cons_of_mem _ ht)]; rfl
theorem ok_from : ∀ (ts : List Str) (k : Nat) (acc : Str), PyData.strOk acc = true → (∀ t ∈ ts, PyData.strOk t = true) → PyData.strOk (textFrom k acc ts) = true
  | [], _, _, h, _ => h
  | t :: ts, k, acc, h, ht => by
    refine ok_from ts (k + 1) _ ?_ fun u hu => ht u (List.mem_cons_of_mem _ hu)
    rw [ok_app, ok_app, h, ht t (by simp), ok_of]; rfl
mutual
theorem ok_shown : ∀ p : PyData, nums p = true → PyData.strOk p.shown = true
  | .none, _ => by rw [PyData.shown]; exact ok_of _
  | .bool b, _ => by rw [PyData.shown]; cases b <;> exact ok_of _
  | .int i, _ => by rw [PyData.shown]; exact ok_of _
  | .str _, h => by rw [nums] at h; cases h
  | .list xs, h => by
    rw [nums] at h
    rw [PyData.shown]
    unfold listText
    rw [ok_app, ok_from _ _ _ (ok_of _) (ok_shownAll xs h), ok_of]; rfl
  | .tuple xs, h => by
    rw [nums] at h
    rw [PyData.shown]
    unfold tupleText
    rw [ok_app, ok_app, ok_join _ (ok_shownAll xs h), ok_of, ok_of]; rfl
  | .dict _, h => by rw [nums] at h; cases h
theorem ok_shownAll : ∀ ps : List PyData, numsAll ps = true → ∀ t ∈ PyData.shownAll ps, PyData.strOk t = true
  | [], _, t, ht => by rw [PyData.shownAll] at ht; cases ht
  | p :: ps, h, t, ht => by
    rw [numsAll, Bool.and_eq_true] at h
    rw [PyData.shownAll] at ht
    rcases List.mem_cons.mp ht with e | ht
    · rw [e]; exact ok_shown p h.1
    · exact ok_shownAll ps h.2 t ht
end
theorem ok_rp {d : D} (h : niceD d = true) : PyData.strOk (rp d) = true := ok_shown _ (plain_nums d h).1
/-- a text among texts -/
theorem in_strs (neg : Bool) (x : Str) (ys : List Str) (S : Store) (hx : PyData.strOk x = true) (hy : ∀ y ∈ ys, PyData.strOk y = true) : gInA neg (.str x) (.lst (ys.map .str)) S = .ok (.bl (decide (x ∈ ys) != neg)) S := by
  have e : toPs (ys.map D.str) = some (ys.map PyData.str) := toPs_map (g := PyData.str) (fun _ => rfl) ys
  have c : ∀ zs : List Str, (∀ y ∈ zs, PyData.strOk y = true) → PyData.canLayAll0 (zs.map PyData.str) = true := by
    intro zs
    induction zs with
    | nil => intro _; rfl
    | cons z zs ih => intro h; rw [List.map_cons, PyData.canLayAll0, PyData.canLay0, h z (by simp), ih fun y hy => h y (List.mem_cons_of_mem _ hy)]; rfl
  have dd : ∀ zs : List Str, PyData.depthAll (zs.map PyData.str) ≤ 1 := by
    intro zs
    induction zs with
    | nil => simp [PyData.depthAll]
    | cons z zs ih => rw [List.map_cons]; simp only [PyData.depthAll, PyData.depth]; omega
  have s1 : SeqAt.shaped (.str x) = true := shaped_of (by rw [PyData.canLay0]; exact hx) (by simp [PyData.depth])
  have s2 : SeqAt.shaped (.list (ys.map .str)) = true := shaped_of (by rw [PyData.canLay0]; exact c ys hy) (by have := dd ys; simp only [PyData.depth]; omega)
  have a : ((ys.map PyData.str).any fun z => PyData.eqv z (.str x)) = decide (x ∈ ys) := by
    clear hy s2 e
    induction ys with
    | nil => rfl
    | cons y ys ih =>
      rw [List.map_cons, List.any_cons, ih]
      have : PyData.eqv (.str y) (.str x) = decide (y = x) := by rw [PyData.eqv, Bool.eq_iff_iff]; simp
      rw [this]
      by_cases h : y = x
      · subst h; simp
      · simp [h, Ne.symm h]
  unfold gInA
  rw [toP, toP, e]
  dsimp only [Option.map_some, seqP]
  rw [if_pos ⟨s1, s2⟩, a]
/-- parts of lists -/
theorem cutD_to (l : List D) (n : Nat) : cutD l none (some (n : Int)) = l.take n := by
  unfold cutD
  rw [HT.sIx_none, HT.sIx_nat, List.drop_zero, Nat.sub_zero]
  by_cases h : n ≤ l.length
  · rw [Nat.min_eq_left h]
  · rw [Nat.min_eq_right (by omega), List.take_of_length_le (Nat.le_refl _), List.take_of_length_le (by omega)]
theorem cutD_from (l : List D) (n : Nat) : cutD l (some (n : Int)) none = l.drop n := by
  unfold cutD
  rw [HT.sIx_none, HT.sIx_nat]
  by_cases h : n ≤ l.length
  · rw [Nat.min_eq_left h, List.take_of_length_le (by rw [List.length_drop]; omega)]
  · rw [Nat.min_eq_right (by omega), Nat.sub_self, List.take_zero, List.drop_eq_nil_of_le (by omega)]
end Mo
set_option maxRecDepth 100000
set_option maxHeartbeats 2000000
namespace Pm
open Mo L2 PySem
/-! ### the program's slips -/
theorem dl_B (a b : Bal) : PySem.W.dataLt (qB a) (qB b) = ltB a b := PySem.W.dataLt_ii ..
theorem cmp_B (f : PyData → PyData → Bool) (a b : Bal) (S : Store) : gCmp f (dB a) (dB b) S = .ok (.bl (f (qB a) (qB b))) S := by
  unfold gCmp
  rw [toP_B, toP_B]
  dsimp only
  rw [if_pos]
  refine ⟨?_, ?_, ?_⟩
  · simp [qB, PySem.W.alike, PySem.W.alikeAll]
  · simp [notNoneP, qB]
  · have := depth_B a; omega
theorem lt_B (a b : Bal) (S : Store) : gLtA (dB a) (dB b) S = .ok (.bl (ltB a b)) S := by
  show gCmp _ _ _ _ = _
  rw [cmp_B, dl_B]
theorem gt_B (a b : Bal) (S : Store) : gGtA (dB a) (dB b) S = .ok (.bl (ltB b a)) S := by
  show gCmp _ _ _ _ = _
  rw [cmp_B, dl_B]
theorem le_B (a b : Bal) (S : Store) : gLeA (dB a) (dB b) S = .ok (.bl (!ltB b a)) S := by
  show gCmp _ _ _ _ = _
  rw [cmp_B, dl_B]
theorem from_ok (i k : Int) (S : Store) : m_p_is_from [.int i, .int k] S = .ok (.bl (decide (k ≤ i))) S := by
  unfold m_p_is_from b_p_is_from
  have i1 := hIsi_of (.int i) "int" S (by simp) rfl
  have i2 := hIsi_of (.int i) "bool" S (by simp) rfl
  rw [show isTy (.int i) "int" = true from rfl] at i1
  rw [show isTy (.int i) "bool" = false from rfl] at i2
  simp [mDef_eq, i1, i2]
theorem parts_ok (l : List D) (n : Int) (S : Store) : m_p_has_parts [.tup l, .int n] S = .ok (.bl (decide ((l.length : Int) = n))) S := by
  unfold m_p_has_parts b_p_has_parts
  have i1 := hIsi_of (.tup l) "tuple" S (by simp) rfl
  rw [show isTy (.tup l) "tuple" = true from rfl] at i1
  simp [mDef_eq, i1, Bool.beq_eq_decide_eq]
  all_goals rfl
def pairB (b : Bal) : Bool := decide (0 ≤ b.1) && decide (0 ≤ b.2)
theorem pair_ok (b : Bal) (S : Store) : m_p_is_pair [dB b] S = .ok (.bl (pairB b)) S := by
  unfold m_p_is_pair b_p_is_pair dB pairB
  have h := parts_ok [.int b.1, .int b.2] 2
  simp at h
  by_cases h1 : 0 ≤ b.1 <;> simp [mDef_eq, h, from_ok, h1]
def ballotB (b : Bal) : Bool := pairB b && decide (1 ≤ b.1)
theorem ballot_ok (b : Bal) (S : Store) : m_p_is_ballot [dB b] S = .ok (.bl (ballotB b)) S := by
  unfold m_p_is_ballot b_p_is_ballot ballotB
  have h := pair_ok b
  unfold dB at h ⊢
  cases h1 : pairB b <;> simp [mDef_eq, h, h1]
def promiseB (b : Bal) : Bool := pairB b && (ballotB b || decide (b = (0, 0)))
theorem promise_ok (b : Bal) (S : Store) : m_p_is_promise [dB b] S = .ok (.bl (promiseB b)) S := by
  unfold m_p_is_promise b_p_is_promise promiseB
  have h := pair_ok b
  have h2 := ballot_ok b
  have h3 : ∀ S, gEqA (dB b) (.tup [.int 0, .int 0]) S = .ok (.bl (decide (b = (0, 0)))) S := eqB b (0, 0)
  cases h1 : pairB b <;> cases h4 : ballotB b <;> simp [mDef_eq, h, h1, h2, h4, h3]
def takingB (p : Bal) (t : Row) : Bool := decide (0 ≤ t.1) && (ballotB t.2.1 && (!ltB p t.2.1 && decide (0 ≤ t.2.2)))
theorem taking_ok (t : Row) (p : Bal) (S : Store) : m_p_is_taking [dR t, dB p] S = .ok (.bl (takingB p t)) S := by
  unfold m_p_is_taking b_p_is_taking takingB
  have h := parts_ok [.int t.1, dB t.2.1, .int t.2.2] 3
  simp at h
  have h2 := ballot_ok t.2.1
  have h3 := le_B t.2.1 p
  by_cases h1 : 0 ≤ t.1
  · cases h4 : ballotB t.2.1 <;> cases h5 : ltB p t.2.1 <;> simp [mDef_eq, dR, h, h2, h3, from_ok, h1, h4, h5]
  · simp [mDef_eq, dR, h, h2, h3, from_ok, h1]

def adjB (l : List Row) : Bool := (l.zip l.tail).all fun p => decide (p.1.1 < p.2.1)
def slipB (s : Slip) : Bool := promiseB s.1 && (s.2.all (takingB s.1) && adjB s.2)
theorem all_map {α : Type} (g : α → Bool) (l : List α) (S : Store) : hAll (l.map fun t => D.bl (g t)) S = .ok (.bl (l.all g)) S := by
  have e : (l.map fun t => D.bl (g t)) = (l.map g).map .bl := by rw [List.map_map]; rfl
  rw [e, hAll_bls, List.all_map]
  rfl
theorem slip_ok (s : Slip) (hl : s.2.length ≤ 100) (S : Store) : m_p_is_slip [dS s] S = .ok (.bl (slipB s)) S := by
  unfold m_p_is_slip b_p_is_slip slipB dS
  have h := parts_ok [dB s.1, .tup (s.2.map dR)] 2
  simp at h
  have h2 := promise_ok s.1
  have i1 := hIsi_of (.tup (s.2.map dR)) "tuple" S (by simp) rfl
  rw [show isTy (.tup (s.2.map dR)) "tuple" = true from rfl] at i1
  have e1 := lcL_map (p := .nm 3) (me := e_p_is_slip_1) (enc := dR) (f := fun t => D.bl (takingB s.1 t)) (ρ := [some (.val (.tup [dB s.1, .tup (s.2.map dR)])), some (.val (dB s.1)), some (.val (.tup (s.2.map dR))), none, none, none]) (S := S) s.2 (fun t _ => ⟨_, rfl, by
    unfold e_p_is_slip_1
    simp [taking_ok]⟩)
  have e2 := lcL_map (p := .tp [.nm 4, .nm 5]) (me := e_p_is_slip_2) (enc := fun p : Row × Row => D.tup [dR p.1, dR p.2]) (f := fun p : Row × Row => D.bl (decide (p.1.1 < p.2.1))) (ρ := [some (.val (.tup [dB s.1, .tup (s.2.map dR)])), some (.val (dB s.1)), some (.val (.tup (s.2.map dR))), none, none, none]) (S := S) (s.2.zip s.2.tail) (fun p _ => ⟨_, by simp; rfl, by
    unfold e_p_is_slip_2
    simp [dR]⟩)
  have z1 : (s.2.map fun t => D.bl (takingB s.1 t)).length ≤ sizeLine := small_le (by rw [List.length_map]; omega)
  have z2 : ((s.2.zip s.2.tail).map fun p : Row × Row => D.bl (decide (p.1.1 < p.2.1))).length ≤ sizeLine := small_le (by rw [List.length_map, List.length_zip]; omega)
  have c1 : cutD (s.2.map dR) (some 1) none = (s.2.map dR).tail := by
    have := cutD_from (s.2.map dR) 1
    rw [List.drop_one] at this
    exact this
  have z3 := zipD_map dR dR s.2 s.2.tail
  rw [List.map_tail] at z3
  have a1 := all_map (takingB s.1) s.2 S
  have a2 := all_map (fun p : Row × Row => decide (p.1.1 < p.2.1)) (s.2.zip s.2.tail) S
  cases k1 : promiseB s.1
  · simp [mDef_eq, h, h2, k1]
  · cases k2 : s.2.all (takingB s.1)
    · rw [k2] at a1
      simp only [List.length_map] at z1
      simp [mDef_eq, h, h2, k1, i1, e1, z1, a1]
    · rw [k2] at a1
      simp only [List.length_map] at z1 z2
      simp only [mDef_eq, List.map_cons, List.map_nil, List.length_cons, List.length_nil, List.replicate, List.cons_append, List.nil_append, mSeq_eq]
      simp [h, h2, k1, i1, e1, z1, a1, c1]
      rw [z3, e2, bind_ok_eq, if_pos (by rw [List.length_map]; exact z2), bind_ok_eq, a2]
      rfl
theorem above_all {s : List Row} {f : Int} (hu : s.Pairwise fun a b => a.1 < b.1) {t : Row} {l : List Row} (e : s = t :: l) (h : f ≤ t.1) : (s.filter fun u => decide (f ≤ u.1)) = s := by
  rw [List.filter_eq_self]
  intro u hm
  subst e
  rw [List.pairwise_cons] at hu
  refine decide_eq_true ?_
  rcases List.mem_cons.mp hm with z | z
  · rw [z]; exact h
  · have := hu.1 u z; omega
theorem eqR_nil (l : List Row) (S : Store) : gEqA (.tup (l.map dR)) (.tup []) S = .ok (.bl l.isEmpty) S := by
  refine gEqA_tup (eqD_of2 (p := .tuple (l.map qR)) (q := .tuple []) ?_ rfl ?_ ?_ ?_) S
  · rw [toP, toPs_map toP_R]; rfl
  · have := depthAll_map (g := qR) (k := 6) (xs := l) fun t _ => depth_R t
    exact shaped_of (by simp [PyData.canLay0, canLayAll_map lay_R]) (by simp only [PyData.depth]; omega)
  · exact shaped_of (by simp [PyData.canLay0, PyData.canLayAll0]) (by simp [PyData.depth, PyData.depthAll])
  · cases l <;> simp [PyData.eqv, PyData.eqvAll]
theorem above_ok (s : Slip) (f : Int) (hl : s.2.length ≤ 100) (hu : s.2.Pairwise fun a b => a.1 < b.1) (S : Store) : m_p_above [dS s, .int f] S = .ok (dS (s.1, s.2.filter fun t => decide (f ≤ t.1))) S := by
  have e1 := lcL_filter (p := .nm 4) (mt := t_p_above_2) (me := e_p_above_1) (enc := dR) (f := dR) (c := fun t => decide (f ≤ t.1)) (ρ := [some (.val (.tup [dB s.1, .tup (s.2.map dR)])), some (.val (.int f)), some (.val (dB s.1)), some (.val (.tup (s.2.map dR))), none]) (S := S) s.2 (fun t _ => ⟨_, rfl, by
    unfold t_p_above_2
    simp [dR], fun _ => by
    unfold e_p_above_1
    simp⟩)
  have z1 : (s.2.filter fun t => decide (f ≤ t.1)).length ≤ sizeLine := small_le (by have := List.length_filter_le (fun t : Row => decide (f ≤ t.1)) s.2; omega)
  obtain ⟨b, rows⟩ := s
  dsimp only at hl hu e1 z1 ⊢
  cases rows with
  | nil =>
    have e0 := eqR_nil [] S
    rw [List.map_nil] at e0
    unfold m_p_above b_p_above dS
    simp [mDef_eq, e0]
  | cons t l =>
    have e0 := eqR_nil (t :: l) S
    rw [List.isEmpty_cons] at e0
    have ea : atI (dR t :: l.map dR) 0 = some (dR t) := atI0 _ _
    have eb : gIx (dR t) (.int 0) S = .ok (.int t.1) S := by simp [dR]
    rw [List.map_cons] at e0 e1
    by_cases h : f ≤ t.1
    · have e2 := above_all hu rfl h
      rw [e2]
      unfold m_p_above b_p_above dS
      simp [mDef_eq, e0, ea, eb, h]
    · have h' : (f ≤ t.1) = False := eq_false h
      unfold m_p_above b_p_above dS
      simp only [List.map_cons]
      rw [List.filter_cons_of_neg (by rw [decide_eq_true_eq]; exact h)] at z1 e1 ⊢
      simp [mDef_eq, e0, ea, eb, h', e1, z1]
def pR (t : Row) : D := .tup [dB t.2.1, .int t.2.2]
def qP (u : Bal × Int) : PyData := .tuple [qB u.1, .int u.2]
theorem eqv_P (a b : Bal × Int) : PyData.eqv (qP a) (qP b) = decide (a = b) := by
  obtain ⟨a1, a2⟩ := a; obtain ⟨b1, b2⟩ := b
  simp only [qP, PyData.eqv, PyData.eqvAll, Bool.and_true, eqv_B]
  by_cases e1 : a1 = b1 <;> by_cases e2 : a2 = b2 <;> simp [e1, e2]
theorem shaped_P (a : Bal × Int) : SeqAt.shaped (qP a) = true := shaped_of (by simp [qP, PyData.canLay0, PyData.canLayAll0, lay_B]) (by have := depth_B a.1; simp only [qP, PyData.depth, PyData.depthAll]; omega)
theorem eq_P (a b : Row) (S : Store) : gEqA (pR a) (pR b) S = .ok (.bl (decide (a.2 = b.2))) S :=
  gEqA_tup (eqD_of2 (p := qP a.2) (q := qP b.2) rfl rfl (shaped_P _) (shaped_P _) (eqv_P _ _)) S
theorem ne_P (a b : Row) (S : Store) : gNeA (pR a) (pR b) S = .ok (.bl (!decide (a.2 = b.2))) S :=
  gNeA_tup (eqD_of2 (p := qP a.2) (q := qP b.2) rfl rfl (shaped_P _) (shaped_P _) (eqv_P _ _)) S
def keepsB (t : Row) : Option Row → Bool
  | none => false
  | some u => ltB t.2.1 u.2.1 || decide (u.2 = t.2)
theorem keeps_ok (t : Row) (u : Option Row) (S : Store) : m_p_keeps [pR t, (u.map pR).getD .non] S = .ok (.bl (keepsB t u)) S := by
  cases u with
  | none =>
    unfold m_p_keeps b_p_keeps
    simp [mDef_eq, keepsB]
  | some u =>
    unfold m_p_keeps b_p_keeps
    have h1 := gt_B u.2.1 t.2.1
    have h2 := eq_P u t
    unfold pR at h2 ⊢
    cases h3 : ltB t.2.1 u.2.1 <;> simp [mDef_eq, keepsB, h1, h2, h3]
def tabR (l : List Row) : List (Key × D) := l.map fun t => (.inl t.1, pR t)
def findR (l : List Row) (r : Int) : Option Row := l.find? fun t => decide (t.1 = r)
theorem val_tab (l : List Row) (r : Int) : valA (tabR l) (.inl r) = (findR l r).map pR := by
  unfold valA tabR findR
  induction l with
  | nil => rfl
  | cons t l ih =>
    by_cases e : t.1 = r
    · simp [List.find?_cons, e]
    · have e2 : ¬ (Sum.inl t.1 : Key) = Sum.inl r := fun z => e (Sum.inl.inj z)
      simp only [List.map_cons, List.find?_cons, decide_eq_false e, decide_eq_false e2]
      exact ih
theorem put_new {acc : List (Key × D)} {k : Key} {d : D} (h : k ∉ acc.map (·.1)) : putA acc k d = acc ++ [(k, d)] := by
  unfold putA
  rw [if_neg]
  intro z
  obtain ⟨x, hx, e⟩ := List.any_eq_true.mp z
  exact h (List.mem_map.mpr ⟨x, hx, of_decide_eq_true e⟩)
theorem dc_tab {ρ : MEnv} {S : Store} {p : Pat} {mk me : ME} (st : ∀ t : Row, ∃ l, p.bind (dR t) = some l ∧ mk (setD ρ l) S = .ok (.int t.1) S ∧ me (setD ρ l) S = .ok (pR t) S) : ∀ (l acc : List Row), ((acc ++ l).map (·.1)).Nodup → (acc ++ l).length ≤ 1000 →
    mDcL p mYes mk me (l.map dR) ρ S (tabR acc) = .ok (tabR (acc ++ l)) S
  | [], acc, _, _ => by rw [List.append_nil]; rfl
  | t :: l, acc, hn, hl => by
    obtain ⟨bl, hb, e1, e2⟩ := st t
    have hk : (Sum.inl t.1 : Key) ∉ (tabR acc).map (·.1) := fun z => by
      unfold tabR at z
      rw [List.map_map] at z
      obtain ⟨u, hu, e⟩ := List.mem_map.mp z
      rw [List.map_append, List.nodup_append] at hn
      exact hn.2.2 u.1 (List.mem_map.mpr ⟨u, hu, rfl⟩) t.1 (by simp) (Sum.inl.inj e)
    have hz : (tabR acc).length < sizeLine := by
      unfold tabR
      rw [List.length_map]
      rw [List.length_append] at hl
      exact small1000 (by omega)
    rw [List.map_cons, mDcL, hb]
    dsimp only
    rw [mYes_eq, bind_ok_eq, if_pos rfl, e1, bind_ok_eq, e2, bind_ok_eq]
    dsimp only [keyD]
    rw [if_pos hz, put_new hk]
    have e3 : tabR acc ++ [(Sum.inl t.1, pR t)] = tabR (acc ++ [t]) := by unfold tabR; rw [List.map_append]; rfl
    rw [e3]
    have := dc_tab st l (acc ++ [t]) (by simpa using hn) (by simpa using hl)
    simpa using this
def laterR (x y : List Row) (f : Int) : Bool := (x.filter fun t => decide (f ≤ t.1)).all fun t => keepsB t (findR y t.1)
def laterB (x y : Slip) (f : Int) : Bool := !ltB y.1 x.1 && laterR x.2 y.2 f
def laterS (x y : Slip) (S : Store) : Store := if ltB y.1 x.1 = true then S else S ++ [.dK (tabR y.2)]
theorem later_ok (x y : Slip) (f : Int) (hx : x.2.length ≤ 100) (hy : y.2.length ≤ 100) (ny : (y.2.map (·.1)).Nodup) (S : Store) : m_p_is_later [dS x, dS y, .int f] S = .ok (.bl (laterB x y f)) (laterS x y S) := by
  unfold m_p_is_later b_p_is_later dS laterB laterS
  have h1 := lt_B y.1 x.1
  cases h2 : ltB y.1 x.1
  · have e1 := dc_tab (p := .tp [.nm 4, .nm 5, .nm 6]) (mk := e_p_is_later_1) (me := e_p_is_later_2) (ρ := [some (.val (.tup [dB x.1, .tup (x.2.map dR)])), some (.val (.tup [dB y.1, .tup (y.2.map dR)])), some (.val (.int f)), none, none, none, none]) (S := S) (fun t => ⟨_, by simp [dR]; rfl, by
      unfold e_p_is_later_1
      simp, by
      unfold e_p_is_later_2
      simp [pR]⟩) y.2 [] (by simpa using ny) (by simp; omega)
    have e2 := lcL_filter (p := .tp [.nm 4, .nm 5, .nm 6]) (mt := t_p_is_later_4) (me := e_p_is_later_3) (enc := dR) (f := fun t => D.bl (keepsB t (findR y.2 t.1))) (c := fun t => decide (f ≤ t.1)) (ρ := [some (.val (.tup [dB x.1, .tup (x.2.map dR)])), some (.val (.tup [dB y.1, .tup (y.2.map dR)])), some (.val (.int f)), some (.val (.loc S.length)), none, none, none]) (S := S ++ [.dK (tabR y.2)]) x.2 (fun t _ => ⟨_, by simp [dR]; rfl, by
      unfold t_p_is_later_4
      simp, fun _ => by
      unfold e_p_is_later_3
      have k1 := keeps_ok t (findR y.2 t.1) (S ++ [.dK (tabR y.2)])
      have k2 := val_tab y.2 t.1
      unfold pR at k1
      simp [keyD, k2]
      exact k1⟩)
    have z1 : ((x.2.filter fun t => decide (f ≤ t.1)).map fun t => D.bl (keepsB t (findR y.2 t.1))).length ≤ sizeLine := small_le (by rw [List.length_map]; have := List.length_filter_le (fun t : Row => decide (f ≤ t.1)) x.2; omega)
    have a1 := all_map (fun t => keepsB t (findR y.2 t.1)) (x.2.filter fun t => decide (f ≤ t.1)) (S ++ [.dK (tabR y.2)])
    have e0 : tabR [] = [] := rfl
    rw [e0, List.nil_append] at e1
    simp only [List.length_map] at z1
    simp [mDef_eq, h1, h2, mDc, e1, e2, z1, a1]
    unfold laterR
    rw [List.all_filter]
  · simp [mDef_eq, h1, h2]
theorem laterF_ok (x y : Slip) (hx : x.2.length ≤ 100) (hy : y.2.length ≤ 100) (ny : (y.2.map (·.1)).Nodup) (S : Store) : m_p_later [dS x, dS y] S = .ok (dS (if laterB x y 0 = true then y else x)) (laterS x y S) := by
  unfold m_p_later b_p_later
  have h := later_ok x y 0 hx hy ny S
  unfold dS at h ⊢
  cases h1 : laterB x y 0 <;> simp [mDef_eq, h, h1]
/-! ### as they are meant -/
theorem findR_some {l : List Row} {r : Int} {u : Row} (h : findR l r = some u) : u ∈ l ∧ u.1 = r := by
  unfold findR at h
  have h2 := List.find?_some (p := fun t : Row => decide (t.1 = r)) h
  exact ⟨List.mem_of_find?_eq_some h, of_decide_eq_true h2⟩
theorem findR_mem {l : List Row} (hn : (l.map (·.1)).Nodup) {u : Row} (h : u ∈ l) : findR l u.1 = some u := by
  unfold findR
  induction l with
  | nil => cases h
  | cons t l ih =>
    rw [List.map_cons, List.nodup_cons] at hn
    by_cases e : t.1 = u.1
    · rcases List.mem_cons.mp h with e2 | h
      · subst e2; simp [List.find?_cons]
      · exact absurd (List.mem_map.mpr ⟨u, h, e.symm⟩) hn.1
    · rcases List.mem_cons.mp h with e2 | h
      · subst e2; exact absurd rfl e
      · simp only [List.find?_cons, decide_eq_false e]; exact ih hn.2 h
theorem findR_none {l : List Row} {r : Int} (h : findR l r = none) : ∀ t ∈ l, t.1 ≠ r := by
  unfold findR at h
  intro t ht e
  have := List.find?_eq_none.mp h t ht
  simp [e] at this
theorem later_iff {x y : List Row} {f : Int} : laterR x y f = true ↔ ∀ t ∈ x, f ≤ t.1 → keepsB t (findR y t.1) = true := by
  unfold laterR
  rw [List.all_eq_true]
  constructor
  · intro h t ht hf
    exact h t (List.mem_filter.mpr ⟨ht, decide_eq_true hf⟩)
  · intro h t ht
    obtain ⟨h1, h2⟩ := List.mem_filter.mp ht
    exact h t h1 (of_decide_eq_true h2)
theorem ltB_iff {a b : Bal} : ltB a b = true ↔ a.1 < b.1 ∨ a.1 = b.1 ∧ a.2 < b.2 := by unfold ltB; exact decide_eq_true_iff
theorem ltB_trans {a b c : Bal} (h1 : ltB a b = true) (h2 : ltB b c = true) : ltB a c = true := by
  rw [ltB_iff] at *; omega
theorem ltB_irr (a : Bal) : ltB a a = false := by
  cases h : ltB a a
  · rfl
  · rw [ltB_iff] at h; omega
theorem ltB_tri {a b : Bal} (h1 : ltB a b = false) (h2 : ltB b a = false) : a = b := by
  have n1 : ¬ ltB a b = true := by rw [h1]; exact Bool.false_ne_true
  have n2 : ¬ ltB b a = true := by rw [h2]; exact Bool.false_ne_true
  rw [ltB_iff] at n1 n2
  exact Prod.ext (by omega) (by omega)
theorem ltB_le_trans {a b c : Bal} (h1 : ltB b a = false) (h2 : ltB c b = false) : ltB c a = false := by
  cases h : ltB c a
  · rfl
  · have n1 : ¬ ltB b a = true := by rw [h1]; exact Bool.false_ne_true
    have n2 : ¬ ltB c b = true := by rw [h2]; exact Bool.false_ne_true
    rw [ltB_iff] at n1 n2 h; omega
theorem keeps_some {t : Row} {o : Option Row} (h : keepsB t o = true) : ∃ u, o = some u ∧ (ltB t.2.1 u.2.1 = true ∨ u.2 = t.2) := by
  cases o with
  | none => cases h
  | some u =>
    refine ⟨u, rfl, ?_⟩
    rw [keepsB, Bool.or_eq_true] at h
    exact h.imp id of_decide_eq_true
theorem keeps_self (t : Row) : keepsB t (some t) = true := by rw [keepsB, decide_eq_true rfl, Bool.or_true]
/-- no earlier, on and on -/
theorem later_trans {x y z : Slip} (h1 : laterB x y 0 = true) (h2 : laterB y z 0 = true) : (∀ t ∈ x.2, 0 ≤ t.1) → laterB x z 0 = true := by
  intro hp
  unfold laterB at *
  rw [Bool.and_eq_true, later_iff, Bool.not_eq_true'] at *
  refine ⟨ltB_le_trans h1.1 h2.1, fun t ht hf => ?_⟩
  obtain ⟨u, hu, hc⟩ := keeps_some (h1.2 t ht hf)
  obtain ⟨um, ue⟩ := findR_some hu
  have h3 := h2.2 u um (by rw [ue]; exact hf)
  rw [ue] at h3
  obtain ⟨v, hv, hc2⟩ := keeps_some h3
  rw [hv, keepsB, Bool.or_eq_true]
  rcases hc with a | a <;> rcases hc2 with b | b
  · exact .inl (ltB_trans a b)
  · rw [b]; exact .inl a
  · rw [← a]; exact .inl b
  · exact .inr (decide_eq_true (b.trans a))
theorem later_self (x : Slip) (f : Int) (hn : (x.2.map (·.1)).Nodup) : laterB x x f = true := by
  unfold laterB
  rw [ltB_irr, Bool.not_false, Bool.true_and, later_iff]
  intro t ht _
  rw [findR_mem hn ht]
  exact keeps_self t
end Pm
set_option maxRecDepth 100000
set_option maxHeartbeats 2000000
/-! rows point by point -/
namespace Mo
section points
variable {σ τ : Type} [DecidableEq σ] [DecidableEq τ]
/-- what the rows tell of the point -/
def rowAt {σ : Type} : List (Int × Int × σ) → Int → Option σ
  | [], _ => none
  | r :: l, p => if r.1 ≤ p ∧ p ≤ r.2.1 then some r.2.2 else rowAt l p
theorem rowAt_some {σ : Type} {l : List (Int × Int × σ)} {p : Int} {s : σ} (h : rowAt l p = some s) : ∃ r ∈ l, r.1 ≤ p ∧ p ≤ r.2.1 ∧ r.2.2 = s := by
  induction l with
  | nil => cases h
  | cons r l ih =>
    rw [rowAt] at h
    split at h
    case isTrue c => exact ⟨r, List.mem_cons_self, c.1, c.2, Option.some.inj h⟩
    case isFalse c => obtain ⟨x, hx, e⟩ := ih h; exact ⟨x, List.mem_cons_of_mem _ hx, e⟩
theorem rowAt_none {σ : Type} {l : List (Int × Int × σ)} {p : Int} : rowAt l p = none ↔ ∀ r ∈ l, ¬ (r.1 ≤ p ∧ p ≤ r.2.1) := by
  induction l with
  | nil => simp [rowAt]
  | cons r l ih =>
    rw [rowAt]
    split
    case isTrue c => simp; intro z; omega
    case isFalse c => rw [ih]; simp; intro _; omega
theorem rowAt_app {σ : Type} (l m : List (Int × Int × σ)) (p : Int) : rowAt (l ++ m) p = (rowAt l p).or (rowAt m p) := by
  induction l with
  | nil => rfl
  | cons r l ih =>
    rw [List.cons_append, rowAt, rowAt]
    split
    · rfl
    · exact ih
theorem Rise.tail {r : Int × Int × σ} {l : List (Int × Int × σ)} (h : Rise (r :: l)) : Rise l ∧ (∀ a ∈ l, r.2.1 < a.1) ∧ r.1 ≤ r.2.1 :=
  ⟨⟨(List.pairwise_cons.mp h.1).2, fun a ha => h.2 a (List.mem_cons_of_mem _ ha)⟩, (List.pairwise_cons.mp h.1).1, h.2 r List.mem_cons_self⟩
theorem Rise.cons {r : Int × Int × σ} {l : List (Int × Int × σ)} (h : Rise l) (h1 : ∀ a ∈ l, r.2.1 < a.1) (h2 : r.1 ≤ r.2.1) : Rise (r :: l) :=
  ⟨List.pairwise_cons.mpr ⟨h1, h.1⟩, fun a ha => by
    rcases List.mem_cons.mp ha with e | e
    · rw [e]; exact h2
    · exact h.2 a e⟩
theorem rowAt_mem {l : List (Int × Int × σ)} (h : Rise l) {r : Int × Int × σ} (hr : r ∈ l) {p : Int} (h1 : r.1 ≤ p) (h2 : p ≤ r.2.1) : rowAt l p = some r.2.2 := by
  induction l with
  | nil => cases hr
  | cons x l ih =>
    obtain ⟨a, b, c⟩ := h.tail
    rw [rowAt]
    rcases List.mem_cons.mp hr with e | e
    · subst e; rw [if_pos ⟨h1, h2⟩]
    · have := b r e
      rw [if_neg (by omega)]
      exact ih a e
theorem rowAt_iff {l : List (Int × Int × σ)} (h : Rise l) {p : Int} {s : σ} : rowAt l p = some s ↔ ∃ r ∈ l, r.1 ≤ p ∧ p ≤ r.2.1 ∧ r.2.2 = s :=
  ⟨rowAt_some, fun ⟨r, hr, a, b, c⟩ => c ▸ rowAt_mem h hr a b⟩
theorem rowAt_below {σ : Type} {l : List (Int × Int × σ)} {c : Int} (h : ∀ a ∈ l, c < a.1) {p : Int} (hp : p ≤ c) : rowAt l p = none :=
  rowAt_none.mpr fun r hr z => by have := h r hr; omega
theorem rowAt_onS {σ τ : Type} (f : σ → τ) (l : List (Int × Int × σ)) (p : Int) : rowAt (l.map (onS f)) p = (rowAt l p).map f := by
  induction l with
  | nil => rfl
  | cons r l ih =>
    rw [List.map_cons, rowAt, rowAt, onS]
    dsimp only
    split
    · rfl
    · exact ih
theorem Rise.onS (f : σ → τ) {l : List (Int × Int × σ)} (h : Rise l) : Rise (l.map (onS f)) :=
  ⟨List.pairwise_map.mpr h.1, fun a ha => by obtain ⟨x, hx, e⟩ := List.mem_map.mp ha; subst e; exact h.2 x hx⟩
/-! ### knitted rows tell the same -/
theorem knit_rise {l : List (Int × Int × σ)} (h : Rise l) : Rise (knit l) := by
  have : ∃ c : Int, ∀ a ∈ l, a.2.1 < c := by
    clear h
    induction l with
    | nil => exact ⟨0, fun a h => nomatch h⟩
    | cons x l ih =>
      obtain ⟨c, hc⟩ := ih
      refine ⟨max c (x.2.1 + 1), fun a ha => ?_⟩
      rcases List.mem_cons.mp ha with e | e
      · rw [e]; omega
      · have := hc a e; omega
  obtain ⟨c, hc⟩ := this
  exact (knit_end h hc).1
theorem rowAt_knit {l : List (Int × Int × σ)} (h : Rise l) (p : Int) : rowAt (knit l) p = rowAt l p := by
  refine snoc_induct (P := fun l => Rise l → rowAt (knit l) p = rowAt l p) (fun _ => rfl) (fun xs x ih h => ?_) l h
  obtain ⟨h1, h2, h3⟩ := h.init
  have ih := ih h1
  have r1 := knit_rise h1
  rw [rowAt_app, ← ih]
  rcases knit_cases xs x with ⟨A, r, e1, e2, e3, e4⟩ | ⟨_, e4⟩
  · rw [e4, e1, rowAt_app, rowAt_app]
    rw [e1] at r1
    obtain ⟨q1, q2, q3⟩ := r1.init
    simp only [rowAt]
    cases rowAt A p with
    | some s => rfl
    | none =>
      simp only [Option.none_or]
      by_cases c1 : r.1 ≤ p ∧ p ≤ r.2.1
      · rw [if_pos c1, if_pos (by omega), e3]; rfl
      · by_cases c2 : x.1 ≤ p ∧ p ≤ x.2.1
        · rw [if_neg c1, if_pos c2, if_pos (by omega)]; rfl
        · rw [if_neg c1, if_neg c2, if_neg (by omega)]; rfl
  · rw [e4, rowAt_app]
/-- rows of which no two could be one -/
def Neat (l : List (Int × Int × σ)) : Prop := l.Pairwise (fun a b => a.2.1 < b.1 ∧ ¬ (a.2.1 + 1 = b.1 ∧ a.2.2 = b.2.2)) ∧ ∀ a ∈ l, a.1 ≤ a.2.1
theorem Neat.rise {l : List (Int × Int × σ)} (h : Neat l) : Rise l := ⟨h.1.imp fun a => a.1, h.2⟩
theorem knit_neat {l : List (Int × Int × σ)} (h : Rise l) : Neat (knit l) := by
  refine ⟨?_, (knit_rise h).2⟩
  refine snoc_induct (P := fun l => Rise l → (knit l).Pairwise fun a b => a.2.1 < b.1 ∧ ¬ (a.2.1 + 1 = b.1 ∧ a.2.2 = b.2.2)) (fun _ => .nil) (fun xs x ih h => ?_) l h
  obtain ⟨h1, h2, h3⟩ := h.init
  have ih := ih h1
  obtain ⟨r1, r2⟩ := knit_end h1 h2
  rcases knit_cases xs x with ⟨A, r, e1, e2, e3, e4⟩ | ⟨hn, e4⟩
  · rw [e4]
    rw [e1] at ih
    rw [List.pairwise_append] at ih ⊢
    refine ⟨ih.1, List.pairwise_singleton _ _, fun a ha b hb => ?_⟩
    rw [List.mem_singleton.mp hb]
    have := ih.2.2 a ha r (by simp)
    dsimp only
    rw [← e3]
    exact this
  · rw [e4, List.pairwise_append]
    refine ⟨ih, List.pairwise_singleton _ _, fun a ha b hb => ?_⟩
    rw [List.mem_singleton.mp hb]
    refine ⟨r2 a ha, fun z => ?_⟩
    rcases snoc_cases (knit xs) with u | ⟨C, y, u⟩
    · rw [u] at ha; cases ha
    · have hz := hn C y u
      rw [u] at r1 r2 ha
      obtain ⟨q1, q2, q3⟩ := r1.init
      rcases List.mem_append.mp ha with m | m
      · have := q2 a m; have := r2 y (by simp); omega
      · rw [List.mem_singleton.mp m] at z; exact hz z
theorem Neat.tail {r : Int × Int × σ} {l : List (Int × Int × σ)} (h : Neat (r :: l)) : Neat l ∧ (∀ a ∈ l, r.2.1 < a.1 ∧ ¬ (r.2.1 + 1 = a.1 ∧ r.2.2 = a.2.2)) ∧ r.1 ≤ r.2.1 :=
  ⟨⟨(List.pairwise_cons.mp h.1).2, fun a ha => h.2 a (List.mem_cons_of_mem _ ha)⟩, (List.pairwise_cons.mp h.1).1, h.2 r List.mem_cons_self⟩
theorem neat_last {r x : Int × Int × σ} {l m : List (Int × Int × σ)} (h : Neat (r :: l)) (g : Neat (x :: m)) (e : ∀ p, rowAt (r :: l) p = rowAt (x :: m) p) (h1 : r.1 = x.1) (h2 : r.2.2 = x.2.2) : ¬ r.2.1 < x.2.1 := fun lt => by
  obtain ⟨a1, a2, a3⟩ := h.tail
  have := e (r.2.1 + 1)
  rw [rowAt, rowAt, if_neg (by omega), if_pos (by omega)] at this
  obtain ⟨y, hy, y1, y2, y3⟩ := rowAt_some this
  have hz := a2 y hy
  exact hz.2 ⟨by omega, by rw [y3, h2]⟩
/-- rows that tell the same are the same -/
theorem neat_eq : ∀ {l m : List (Int × Int × σ)}, Neat l → Neat m → (∀ p, rowAt l p = rowAt m p) → l = m
  | [], [], _, _, _ => rfl
  | [], x :: m, _, g, e => by
    have := e x.1
    rw [rowAt, rowAt, if_pos ⟨Int.le_refl _, g.2 x List.mem_cons_self⟩] at this
    cases this
  | r :: l, [], h, _, e => by
    have := e r.1
    rw [rowAt, rowAt, if_pos ⟨Int.le_refl _, h.2 r List.mem_cons_self⟩] at this
    cases this
  | r :: l, x :: m, h, g, e => by
    obtain ⟨a1, a2, a3⟩ := h.tail
    obtain ⟨b1, b2, b3⟩ := g.tail
    have i1 := e r.1
    have i2 := e x.1
    rw [rowAt, if_pos ⟨Int.le_refl _, a3⟩] at i1
    rw [rowAt.eq_2 _ x m, if_pos ⟨Int.le_refl _, b3⟩] at i2
    have k1 : x.1 ≤ r.1 := by
      obtain ⟨y, hy, y1, _⟩ := rowAt_some i1.symm
      rcases List.mem_cons.mp hy with z | z
      · rw [← z]; exact y1
      · have := b2 y z; omega
    have k2 : r.1 ≤ x.1 := by
      obtain ⟨y, hy, y1, _⟩ := rowAt_some i2
      rcases List.mem_cons.mp hy with z | z
      · rw [← z]; exact y1
      · have := a2 y z; omega
    have k3 : r.1 = x.1 := by omega
    rw [← k3, rowAt, if_pos ⟨Int.le_refl _, a3⟩] at i2
    have k4 := Option.some.inj i2
    have k5 := neat_last h g e k3 k4
    have k6 := neat_last g h (fun p => (e p).symm) k3.symm k4.symm
    have k7 : r = x := Prod.ext k3 (Prod.ext (by omega) k4)
    subst k7
    rw [neat_eq a1 b1 fun p => ?_]
    have := e p
    rw [rowAt, rowAt.eq_2 _ r m] at this
    by_cases c : r.1 ≤ p ∧ p ≤ r.2.1
    · rw [rowAt_below (fun a ha => (a2 a ha).1) c.2, rowAt_below (fun a ha => (b2 a ha).1) c.2]
    · rw [if_neg c, if_neg c] at this; exact this
theorem knit_eq {l m : List (Int × Int × σ)} (h : Rise l) (g : Rise m) (e : ∀ p, rowAt l p = rowAt m p) : knit l = knit m :=
  neat_eq (knit_neat h) (knit_neat g) fun p => by rw [rowAt_knit h, rowAt_knit g, e]
theorem knit_of_neat {l : List (Int × Int × σ)} (h : Neat l) : knit l = l := neat_eq (knit_neat h.rise) h fun p => rowAt_knit h.rise p
end points
end Mo
set_option maxRecDepth 100000
set_option maxHeartbeats 2000000
/-! rows that meet, gaps, rows put together -/
namespace Mo
structure Meet (σ τ : Type) where
  f : Int
  l : Int
  i : Nat
  j : Nat
  a : σ
  b : τ
def Meet.row {σ τ : Type} (e : Meet σ τ) : Int × Int × σ × τ := (e.f, e.l, e.a, e.b)
section meets
variable {σ τ : Type}
def meetHd (a : Int × Int × σ) (b : Int × Int × τ) (i j : Nat) : List (Meet σ τ) := if max a.1 b.1 ≤ min a.2.1 b.2.1 then [⟨max a.1 b.1, min a.2.1 b.2.1, i, j, a.2.2, b.2.2⟩] else []
def meets : List (Int × Int × σ) → List (Int × Int × τ) → Nat → Nat → List (Meet σ τ)
  | a :: l, b :: m, i, j => meetHd a b i j ++ (if a.2.1 < b.2.1 then meets l (b :: m) (i + 1) j else meets (a :: l) m i (j + 1))
  | [], _, _, _ => []
  | _ :: _, [], _, _ => []
termination_by l m => l.length + m.length
theorem meets_cons (a : Int × Int × σ) (b : Int × Int × τ) (l m) (i j : Nat) : meets (a :: l) (b :: m) i j = meetHd a b i j ++ (if a.2.1 < b.2.1 then meets l (b :: m) (i + 1) j else meets (a :: l) m i (j + 1)) := by rw [meets]
theorem meets_nil (m : List (Int × Int × τ)) (i j : Nat) : meets ([] : List (Int × Int × σ)) m i j = [] := by rw [meets]
theorem meets_nil2 (l : List (Int × Int × σ)) (i j : Nat) : meets l ([] : List (Int × Int × τ)) i j = [] := by cases l <;> rw [meets]
theorem meetHd_mem {a : Int × Int × σ} {b : Int × Int × τ} {i j : Nat} {e : Meet σ τ} (h : e ∈ meetHd a b i j) : e = ⟨max a.1 b.1, min a.2.1 b.2.1, i, j, a.2.2, b.2.2⟩ ∧ e.f ≤ e.l := by
  unfold meetHd at h
  split at h
  case isTrue c => rw [List.mem_singleton] at h; subst h; exact ⟨rfl, c⟩
  case isFalse c => cases h
theorem meetHd_len (a : Int × Int × σ) (b : Int × Int × τ) (i j : Nat) : (meetHd a b i j).length ≤ 1 := by
  unfold meetHd; split <;> simp
theorem meets_mem {e : Meet σ τ} : ∀ {l : List (Int × Int × σ)} {m : List (Int × Int × τ)} {i j : Nat}, e ∈ meets l m i j → ∃ i' j' a b, e.i = i + i' ∧ l[i']? = some a ∧ e.j = j + j' ∧ m[j']? = some b ∧ e.f = max a.1 b.1 ∧ e.l = min a.2.1 b.2.1 ∧ e.f ≤ e.l ∧ e.a = a.2.2 ∧ e.b = b.2.2
  | [], m, i, j, h => by rw [meets_nil] at h; cases h
  | a :: l, [], i, j, h => by rw [meets_nil2] at h; cases h
  | a :: l, b :: m, i, j, h => by
    rw [meets_cons, List.mem_append] at h
    rcases h with h | h
    · obtain ⟨h1, h2⟩ := meetHd_mem h
      subst h1
      exact ⟨0, 0, a, b, rfl, rfl, rfl, rfl, rfl, rfl, h2, rfl, rfl⟩
    · split at h
      · obtain ⟨i', j', a', b', e1, e2, e3, e4, r⟩ := meets_mem h
        exact ⟨i' + 1, j', a', b', by omega, e2, e3, e4, r⟩
      · obtain ⟨i', j', a', b', e1, e2, e3, e4, r⟩ := meets_mem h
        exact ⟨i', j' + 1, a', b', e1, e2, by omega, e4, r⟩
termination_by l m => l.length + m.length
theorem meets_mem2 {e : Meet σ τ} {l : List (Int × Int × σ)} {m : List (Int × Int × τ)} {i j : Nat} (h : e ∈ meets l m i j) : ∃ a ∈ l, ∃ b ∈ m, e.f = max a.1 b.1 ∧ e.l = min a.2.1 b.2.1 ∧ e.f ≤ e.l ∧ e.a = a.2.2 ∧ e.b = b.2.2 := by
  obtain ⟨i', j', a, b, _, h1, _, h2, r⟩ := meets_mem h
  exact ⟨a, List.mem_of_getElem? h1, b, List.mem_of_getElem? h2, r⟩
theorem meets_len : ∀ (l : List (Int × Int × σ)) (m : List (Int × Int × τ)) (i j : Nat), (meets l m i j).length ≤ l.length + m.length
  | [], m, i, j => by rw [meets_nil]; simp
  | a :: l, [], i, j => by rw [meets_nil2]; simp
  | a :: l, b :: m, i, j => by
    rw [meets_cons, List.length_append]
    have h := meetHd_len a b i j
    split
    · have := meets_len l (b :: m) (i + 1) j
      simp only [List.length_cons] at this ⊢; omega
    · have := meets_len (a :: l) m i (j + 1)
      simp only [List.length_cons] at this ⊢; omega
termination_by l m => l.length + m.length
variable [DecidableEq σ] [DecidableEq τ]
theorem meets_rise : ∀ {l : List (Int × Int × σ)} {m : List (Int × Int × τ)} (i j : Nat), Rise l → Rise m → Rise ((meets l m i j).map Meet.row)
  | [], m, i, j, _, _ => by rw [meets_nil]; exact ⟨.nil, fun _ h => nomatch h⟩
  | a :: l, [], i, j, _, _ => by rw [meets_nil2]; exact ⟨.nil, fun _ h => nomatch h⟩
  | a :: l, b :: m, i, j, h, g => by
    rw [meets_cons]
    obtain ⟨h1, h2, h3⟩ := h.tail
    obtain ⟨g1, g2, g3⟩ := g.tail
    have fin : ∀ X : List (Meet σ τ), Rise (X.map Meet.row) → (∀ e ∈ X, min a.2.1 b.2.1 < e.f) → Rise ((meetHd a b i j ++ X).map Meet.row) := fun X hX hf => by
      unfold meetHd
      split
      case isTrue c =>
        rw [List.singleton_append, List.map_cons]
        refine hX.cons (fun r hr => ?_) c
        obtain ⟨e, he, ee⟩ := List.mem_map.mp hr
        rw [← ee]; exact hf e he
      case isFalse c => exact hX
    split
    case isTrue c =>
      refine fin _ (meets_rise (i + 1) j h1 g) fun e he => ?_
      obtain ⟨a', ha, b', hb, e1, _⟩ := meets_mem2 he
      have := h2 a' ha
      rw [e1]; omega
    case isFalse c =>
      refine fin _ (meets_rise i (j + 1) h g1) fun e he => ?_
      obtain ⟨a', ha, b', hb, e1, _⟩ := meets_mem2 he
      have := g2 b' hb
      rw [e1]; omega
termination_by l m => l.length + m.length
def both (x : Option σ) (y : Option τ) : Option (σ × τ) := x.bind fun s => y.map fun t => (s, t)
theorem both_none (x : Option σ) : both x (none : Option τ) = none := by cases x <;> rfl
theorem rowAt_meets : ∀ {l : List (Int × Int × σ)} {m : List (Int × Int × τ)} (i j : Nat), Rise l → Rise m → ∀ p, rowAt ((meets l m i j).map Meet.row) p = both (rowAt l p) (rowAt m p)
  | [], m, i, j, _, _, p => by rw [meets_nil]; rfl
  | a :: l, [], i, j, _, _, p => by rw [meets_nil2, rowAt.eq_1, both_none]; rfl
  | a :: l, b :: m, i, j, h, g, p => by
    rw [meets_cons]
    obtain ⟨h1, h2, h3⟩ := h.tail
    obtain ⟨g1, g2, g3⟩ := g.tail
    have fin : ∀ X : List (Meet σ τ), rowAt ((meetHd a b i j ++ X).map Meet.row) p = if max a.1 b.1 ≤ p ∧ p ≤ min a.2.1 b.2.1 then some (a.2.2, b.2.2) else rowAt (X.map Meet.row) p := fun X => by
      unfold meetHd
      by_cases c : max a.1 b.1 ≤ min a.2.1 b.2.1
      · rw [if_pos c]; rfl
      · rw [if_neg c, if_neg (by omega)]; rfl
    rw [fin]
    by_cases lt : a.2.1 < b.2.1
    · rw [if_pos lt, rowAt_meets (i + 1) j h1 g p, rowAt, rowAt]
      by_cases c1 : a.1 ≤ p ∧ p ≤ a.2.1
      · rw [if_pos c1]
        by_cases c2 : b.1 ≤ p
        · rw [if_pos (by omega), if_pos (by omega)]; rfl
        · rw [if_neg (by omega), if_neg (by omega), rowAt_below (l := m) (c := p) (fun x hx => by have := g2 x hx; omega) (Int.le_refl p), both_none, both_none]
      · rw [if_neg c1, if_neg (by omega)]
    · rw [if_neg lt, rowAt_meets i (j + 1) h g1 p, rowAt, rowAt]
      by_cases c1 : b.1 ≤ p ∧ p ≤ b.2.1
      · rw [if_pos c1]
        by_cases c2 : a.1 ≤ p
        · rw [if_pos (by omega), if_pos (by omega)]; rfl
        · rw [if_neg (by omega), if_neg (by omega), rowAt_below (l := l) (c := p) (fun x hx => by have := h2 x hx; omega) (Int.le_refl p)]; rfl
      · rw [if_neg c1, if_neg (by omega)]
termination_by l m => l.length + m.length
/-- meets with something made of both -/
theorem meets_on {α : Type} [DecidableEq α] (f : σ → τ → α) {l : List (Int × Int × σ)} {m : List (Int × Int × τ)} (h : Rise l) (g : Rise m) (i j : Nat) : Rise ((meets l m i j).map fun e => (e.f, e.l, f e.a e.b)) ∧ ∀ p, rowAt ((meets l m i j).map fun e => (e.f, e.l, f e.a e.b)) p = (rowAt l p).bind fun s => (rowAt m p).map fun t => f s t := by
  have e : ((meets l m i j).map fun e => (e.f, e.l, f e.a e.b)) = ((meets l m i j).map Meet.row).map (onS fun x => f x.1 x.2) := by
    rw [List.map_map]; rfl
  rw [e]
  refine ⟨(meets_rise i j h g).onS _, fun p => ?_⟩
  rw [rowAt_onS, rowAt_meets i j h g]
  cases rowAt l p <;> cases rowAt m p <;> rfl
/-! ### gaps -/
def gps : List (Int × Int × σ) → Int → Int → List (Int × Int × Unit)
  | [], b, e => if b ≤ e then [(b, e, ())] else []
  | r :: l, b, e => (if b < r.1 then [(b, r.1 - 1, ())] else []) ++ gps l (r.2.1 + 1) e
theorem gps_len : ∀ (l : List (Int × Int × σ)) (b e : Int), (gps l b e).length ≤ l.length + 1
  | [], b, e => by rw [gps]; split <;> simp
  | r :: l, b, e => by
    have := gps_len l (r.2.1 + 1) e
    rw [gps, List.length_append, List.length_cons]
    split <;> simp <;> omega
theorem gps_rise : ∀ {l : List (Int × Int × σ)} {b : Int} (e : Int), Rise l → (∀ r ∈ l, b ≤ r.1) → Rise (gps l b e) ∧ ∀ r ∈ gps l b e, b ≤ r.1
  | [], b, e, _, _ => by
    rw [gps]
    split
    case isTrue c => exact ⟨⟨List.pairwise_singleton _ _, fun a ha => by rw [List.mem_singleton.mp ha]; exact c⟩, fun a ha => by rw [List.mem_singleton.mp ha]; exact Int.le_refl _⟩
    case isFalse c => exact ⟨⟨.nil, fun _ h => nomatch h⟩, fun _ h => nomatch h⟩
  | r :: l, b, e, h, hb => by
    obtain ⟨h1, h2, h3⟩ := h.tail
    have b0 := hb r List.mem_cons_self
    obtain ⟨i1, i2⟩ := gps_rise (l := l) (b := r.2.1 + 1) e h1 (fun a ha => by have := h2 a ha; omega)
    rw [gps]
    split
    case isTrue c =>
      rw [List.singleton_append]
      refine ⟨i1.cons (fun a ha => ?_) (by dsimp only; omega), fun a ha => ?_⟩
      · have := i2 a ha; dsimp only; omega
      · rcases List.mem_cons.mp ha with z | z
        · rw [z]; exact Int.le_refl _
        · have := i2 a z; omega
    case isFalse c =>
      rw [List.nil_append]
      exact ⟨i1, fun a ha => by have := i2 a ha; omega⟩
theorem rowAt_gps : ∀ {l : List (Int × Int × σ)} {b : Int} (e : Int), Rise l → (∀ r ∈ l, b ≤ r.1) → ∀ p, p ≤ e → rowAt (gps l b e) p = if b ≤ p ∧ (rowAt l p).isSome = false then some () else none
  | [], b, e, _, _, p, hp => by
    rw [gps, rowAt]
    split
    case isTrue c =>
      rw [rowAt, rowAt]
      by_cases d : b ≤ p
      · rw [if_pos ⟨d, hp⟩, if_pos ⟨d, rfl⟩]
      · rw [if_neg (by omega), if_neg (fun z => d z.1)]
    case isFalse c => rw [if_neg (by omega), rowAt]
  | r :: l, b, e, h, hb, p, hp => by
    obtain ⟨h1, h2, h3⟩ := h.tail
    have b0 := hb r List.mem_cons_self
    have ih := rowAt_gps (l := l) (b := r.2.1 + 1) e h1 (fun a ha => by have := h2 a ha; omega) p hp
    have hd : rowAt ((if b < r.1 then [(b, r.1 - 1, ())] else []) ++ gps l (r.2.1 + 1) e) p = if b ≤ p ∧ p < r.1 then some () else rowAt (gps l (r.2.1 + 1) e) p := by
      split
      case isTrue c =>
        rw [List.singleton_append, rowAt]
        dsimp only
        by_cases d : b ≤ p ∧ p ≤ r.1 - 1
        · rw [if_pos d, if_pos (by omega)]
        · rw [if_neg d, if_neg (by omega)]
      case isFalse c => rw [List.nil_append, if_neg (by omega)]
    rw [gps, hd, ih, rowAt]
    by_cases c1 : r.1 ≤ p ∧ p ≤ r.2.1
    · rw [if_pos c1, if_neg (by omega), if_neg (by omega), if_neg (fun z => nomatch z.2)]
    · rw [if_neg c1]
      by_cases c2 : p < r.1
      · rw [rowAt_below (c := p) (fun x hx => by have := h2 x hx; omega) (Int.le_refl p), if_neg (show ¬ (r.2.1 + 1 ≤ p ∧ _) from fun z => by omega)]
        by_cases c3 : b ≤ p
        · rw [if_pos ⟨c3, c2⟩, if_pos ⟨c3, rfl⟩]
        · rw [if_neg (by omega), if_neg (fun z => c3 z.1)]
      · rw [if_neg (by omega)]
        by_cases c4 : (rowAt l p).isSome = false
        · rw [if_pos ⟨by omega, c4⟩, if_pos ⟨by omega, c4⟩]
        · rw [if_neg (fun z => c4 z.2), if_neg (fun z => c4 z.2)]
/-! ### lots of holdings, cut holdings -/
def lotOf (l : List (Int × Int × σ)) : List (Int × Int × Unit) := knit (l.map (onS fun _ => ()))
theorem lotOf_rise {l : List (Int × Int × σ)} (h : Rise l) : Rise (lotOf l) := knit_rise (h.onS _)
theorem rowAt_lotOf {l : List (Int × Int × σ)} (h : Rise l) (p : Int) : rowAt (lotOf l) p = (rowAt l p).map fun _ => () := by
  unfold lotOf
  rw [rowAt_knit (h.onS _), rowAt_onS]
def commonL (l : List (Int × Int × σ)) (m : List (Int × Int × τ)) : List (Int × Int × Unit) := (meets l m 0 0).map fun e => (e.f, e.l, ())
def endL (l : List (Int × Int × σ)) : Int := match l.getLast? with
  | some r => r.2.1
  | none => 0
def withoutL (l : List (Int × Int × σ)) (m : List (Int × Int × τ)) : List (Int × Int × Unit) := if l = [] then [] else commonL l (gps m 0 (endL l))
def heldOf (l : List (Int × Int × σ)) (m : List (Int × Int × τ)) : List (Int × Int × σ) := (meets l m 0 0).map fun e => (e.f, e.l, e.a)
theorem end_le {l : List (Int × Int × σ)} (h : Rise l) {r : Int × Int × σ} (hr : r ∈ l) : r.2.1 ≤ endL l := by
  rcases snoc_cases l with e | ⟨A, x, e⟩
  · subst e; cases hr
  · subst e
    obtain ⟨h1, h2, h3⟩ := h.init
    unfold endL
    rw [List.getLast?_concat]
    dsimp only
    rcases List.mem_append.mp hr with z | z
    · have := h2 r z; omega
    · rw [List.mem_singleton.mp z]; exact Int.le_refl _
theorem withoutL_ok {l : List (Int × Int × σ)} {m : List (Int × Int × τ)} (h : Rise l) (g : Rise m) (h0 : ∀ r ∈ l, 0 ≤ r.1) (g0 : ∀ r ∈ m, 0 ≤ r.1) : Rise (withoutL l m) ∧ ∀ p, rowAt (withoutL l m) p = if (rowAt m p).isSome = true then none else (rowAt l p).map fun _ => () := by
  unfold withoutL
  by_cases hl : l = []
  · subst hl
    rw [if_pos rfl]
    refine ⟨⟨.nil, fun _ h => nomatch h⟩, fun p => ?_⟩
    rw [rowAt, rowAt]
    split <;> rfl
  · rw [if_neg hl]
    obtain ⟨i1, i2⟩ := gps_rise (endL l) g g0
    obtain ⟨k1, k2⟩ := meets_on (fun _ _ => ()) h i1 0 0
    unfold commonL
    refine ⟨k1, fun p => ?_⟩
    rw [k2]
    cases e : rowAt l p with
    | none => split <;> rfl
    | some s =>
      obtain ⟨r, hr, r1, r2, r3⟩ := rowAt_some e
      have := end_le h hr
      have := h0 r hr
      rw [rowAt_gps (endL l) g g0 p (by omega)]
      cases c : (rowAt m p).isSome
      · rw [if_pos ⟨by omega, rfl⟩, if_neg Bool.false_ne_true]; rfl
      · rw [if_neg (fun z => nomatch z.2), if_pos rfl]; rfl
theorem heldOf_ok {l : List (Int × Int × σ)} {m : List (Int × Int × τ)} (h : Rise l) (g : Rise m) : Rise (heldOf l m) ∧ ∀ p, rowAt (heldOf l m) p = if (rowAt m p).isSome = true then rowAt l p else none := by
  obtain ⟨k1, k2⟩ := meets_on (fun s _ => s) h g 0 0
  refine ⟨k1, fun p => ?_⟩
  unfold heldOf
  rw [k2]
  cases rowAt l p <;> cases rowAt m p <;> rfl
end meets
/-! ### rows put in order -/
section order
variable {σ : Type} [DecidableEq σ]
def Apart (l : List (Int × Int × σ)) : Prop := l.Pairwise (fun a b => a.2.1 < b.1 ∨ b.2.1 < a.1) ∧ ∀ a ∈ l, a.1 ≤ a.2.1
theorem Rise.apart {l : List (Int × Int × σ)} (h : Rise l) : Apart l := ⟨h.1.imp fun a => .inl a, h.2⟩
theorem apart_mem {l : List (Int × Int × σ)} (h : Apart l) {r : Int × Int × σ} (hr : r ∈ l) {p : Int} (h1 : r.1 ≤ p) (h2 : p ≤ r.2.1) : rowAt l p = some r.2.2 := by
  induction l with
  | nil => cases hr
  | cons x l ih =>
    obtain ⟨a, b⟩ := h
    rw [List.pairwise_cons] at a
    rw [rowAt]
    rcases List.mem_cons.mp hr with e | e
    · subst e; rw [if_pos ⟨h1, h2⟩]
    · have := a.1 r e
      rw [if_neg (by omega)]
      exact ih ⟨a.2, fun y hy => b y (List.mem_cons_of_mem _ hy)⟩ e
theorem Apart.app {l m : List (Int × Int × σ)} (h : Apart l) (g : Apart m) (d : ∀ p, rowAt l p = none ∨ rowAt m p = none) : Apart (l ++ m) := by
  refine ⟨?_, fun a ha => ?_⟩
  · rw [List.pairwise_append]
    refine ⟨h.1, g.1, fun a ha b hb => ?_⟩
    have h1 := h.2 a ha
    have h2 := g.2 b hb
    refine Classical.byContradiction fun c => ?_
    have c1 := apart_mem h ha (p := max a.1 b.1) (by omega) (by omega)
    have c2 := apart_mem g hb (p := max a.1 b.1) (by omega) (by omega)
    rcases d (max a.1 b.1) with z | z
    · rw [z] at c1; cases c1
    · rw [z] at c2; cases c2
  · rcases List.mem_append.mp ha with z | z
    · exact h.2 a z
    · exact g.2 a z
def srt (l : List (Int × Int × σ)) : List (Int × Int × σ) := l.mergeSort fun a b => decide (a.1 ≤ b.1)
theorem srt_perm (l : List (Int × Int × σ)) : (srt l).Perm l := List.mergeSort_perm _ _
theorem srt_rise {l : List (Int × Int × σ)} (h : Apart l) : Rise (srt l) := by
  have h1 : (srt l).Pairwise fun a b => (decide (a.1 ≤ b.1)) = true := List.pairwise_mergeSort (fun a b c x y => by simp at *; omega) (fun a b => by simp; omega) l
  have h2 : (srt l).Pairwise fun a b => a.2.1 < b.1 ∨ b.2.1 < a.1 := h.1.perm (srt_perm l).symm (fun z => z.symm)
  have h3 : ∀ a ∈ srt l, a.1 ≤ a.2.1 := fun a ha => h.2 a ((srt_perm l).mem_iff.mp ha)
  refine ⟨?_, h3⟩
  refine ((h1.and h2).imp_of_mem fun {a b} ha hb z => ?_)
  have := h3 a ha
  have := h3 b hb
  have := of_decide_eq_true z.1
  omega
theorem rowAt_srt {l : List (Int × Int × σ)} (h : Apart l) (p : Int) : rowAt (srt l) p = rowAt l p := by
  cases e : rowAt l p with
  | none =>
    rw [rowAt_none] at e ⊢
    exact fun r hr => e r ((srt_perm l).mem_iff.mp hr)
  | some s =>
    obtain ⟨r, hr, a, b, c⟩ := rowAt_some e
    rw [rowAt_mem (srt_rise h) ((srt_perm l).mem_iff.mpr hr) a b, c]
/-! ### two holdings gathered -/
def two (f : σ → σ → σ) : Option σ → Option σ → Option σ
  | some s, some t => some (f s t)
  | some s, none => some s
  | none, y => y
def gatherL (f : σ → σ → σ) (l m : List (Int × Int × σ)) : List (Int × Int × σ) :=
  if l = [] ∨ m = [] then l ++ m
  else if meets l m 0 0 = [] then knit (srt (l ++ m))
  else knit (srt (((meets l m 0 0).map fun e => (e.f, e.l, f e.a e.b)) ++ (heldOf l (withoutL (lotOf l) (lotOf m)) ++ heldOf m (withoutL (lotOf m) (lotOf l)))))
theorem lotOf_pos {l : List (Int × Int × σ)} (h : Rise l) (h0 : ∀ r ∈ l, 0 ≤ r.1) : ∀ r ∈ lotOf l, 0 ≤ r.1 := fun r hr => by
  have h1 := rowAt_mem (lotOf_rise h) hr (Int.le_refl _) ((lotOf_rise h).2 r hr)
  rw [rowAt_lotOf h] at h1
  cases e : rowAt l r.1 with
  | none => rw [e] at h1; cases h1
  | some s =>
    obtain ⟨x, hx, a, b, c⟩ := rowAt_some e
    have := h0 x hx
    omega
theorem alone_ok {l m : List (Int × Int × σ)} (h : Rise l) (g : Rise m) (h0 : ∀ r ∈ l, 0 ≤ r.1) (g0 : ∀ r ∈ m, 0 ≤ r.1) : Rise (heldOf l (withoutL (lotOf l) (lotOf m))) ∧ ∀ p, rowAt (heldOf l (withoutL (lotOf l) (lotOf m))) p = if (rowAt m p).isSome = true then none else rowAt l p := by
  obtain ⟨a1, a2⟩ := withoutL_ok (lotOf_rise h) (lotOf_rise g) (lotOf_pos h h0) (lotOf_pos g g0)
  obtain ⟨b1, b2⟩ := heldOf_ok h a1
  refine ⟨b1, fun p => ?_⟩
  rw [b2, a2, rowAt_lotOf h, rowAt_lotOf g]
  cases rowAt l p <;> cases rowAt m p <;> rfl
theorem gatherL_apart (f : σ → σ → σ) {l m : List (Int × Int × σ)} (h : Rise l) (g : Rise m) (h0 : ∀ r ∈ l, 0 ≤ r.1) (g0 : ∀ r ∈ m, 0 ≤ r.1) :
    Apart (((meets l m 0 0).map fun e => (e.f, e.l, f e.a e.b)) ++ (heldOf l (withoutL (lotOf l) (lotOf m)) ++ heldOf m (withoutL (lotOf m) (lotOf l)))) ∧
    ∀ p, rowAt (((meets l m 0 0).map fun e => (e.f, e.l, f e.a e.b)) ++ (heldOf l (withoutL (lotOf l) (lotOf m)) ++ heldOf m (withoutL (lotOf m) (lotOf l)))) p = two f (rowAt l p) (rowAt m p) := by
  obtain ⟨a1, a2⟩ := meets_on f h g 0 0
  obtain ⟨b1, b2⟩ := alone_ok h g h0 g0
  obtain ⟨c1, c2⟩ := alone_ok g h g0 h0
  refine ⟨a1.apart.app (b1.apart.app c1.apart fun p => ?_) fun p => ?_, fun p => ?_⟩
  · rw [b2, c2]; cases rowAt l p <;> cases rowAt m p <;> simp
  · rw [rowAt_app, a2, b2, c2]; cases rowAt l p <;> cases rowAt m p <;> simp
  · rw [rowAt_app, rowAt_app, a2, b2, c2]; cases rowAt l p <;> cases rowAt m p <;> rfl
theorem gatherL_ok (f : σ → σ → σ) {l m : List (Int × Int × σ)} (h : Neat l) (g : Neat m) (h0 : ∀ r ∈ l, 0 ≤ r.1) (g0 : ∀ r ∈ m, 0 ≤ r.1) : Neat (gatherL f l m) ∧ ∀ p, rowAt (gatherL f l m) p = two f (rowAt l p) (rowAt m p) := by
  unfold gatherL
  split
  case isTrue c =>
    rcases c with c | c
    · subst c; exact ⟨g, fun p => rfl⟩
    · subst c
      rw [List.append_nil]
      refine ⟨h, fun p => ?_⟩
      cases rowAt l p <;> rfl
  case isFalse c =>
    split
    case isTrue c =>
      have d : ∀ p, rowAt l p = none ∨ rowAt m p = none := fun p => by
        have := rowAt_meets 0 0 h.rise g.rise p
        rw [c] at this
        cases e1 : rowAt l p with
        | none => exact .inl rfl
        | some s =>
          cases e2 : rowAt m p with
          | none => exact .inr rfl
          | some t => rw [e1, e2] at this; cases this
      have ap := h.rise.apart.app g.rise.apart d
      refine ⟨knit_neat (srt_rise ap), fun p => ?_⟩
      rw [rowAt_knit (srt_rise ap), rowAt_srt ap, rowAt_app]
      rcases d p with e | e <;> rw [e]
      · cases rowAt m p <;> rfl
      · cases rowAt l p <;> rfl
    case isFalse c =>
      obtain ⟨ap, ra⟩ := gatherL_apart f h.rise g.rise h0 g0
      refine ⟨knit_neat (srt_rise ap), fun p => ?_⟩
      rw [rowAt_knit (srt_rise ap), rowAt_srt ap, ra]
end order
end Mo
set_option maxRecDepth 100000
set_option maxHeartbeats 2000000
namespace Pm
open Mo L2 PySem
/-! ### the program's holdings -/
abbrev Pr := Int × Int × Unit
def dP (r : Pr) : D := .tup [.int r.1, .int r.2.1]
def dG {σ : Type} (e : σ → List D) (r : Int × Int × σ) : D := .tup (.int r.1 :: .int r.2.1 :: e r.2.2)
def dM {σ τ : Type} (e : Meet σ τ) : D := .tup [.int e.f, .int e.l, .int (e.i : Int), .int (e.j : Int)]
def eS (s : Slip) : List D := [dS s]
def eU (_ : Unit) : List D := []
theorem dG_N : dG eS = dN := rfl
theorem dG_P : dG eU = dP := rfl
theorem at_map {α : Type} (h : α → D) {l : List α} {i : Nat} {a : α} (e : l[i]? = some a) : atI (l.map h) ((i : Nat) : Int) = some (h a) := by
  rw [atI_map, atI_nat e]; rfl
theorem at_last {A : List D} {r : D} : atI (A ++ [r]) (-1) = some r := by
  have : ixN (A ++ [r]).length (-1) = some A.length := by
    unfold ixN
    rw [List.length_append, List.length_singleton]
    simp
    omega
  unfold atI
  rw [this]
  simp
theorem ix_last {A : List D} {r : D} : ixN (A ++ [r]).length (-1) = some A.length := by
  unfold ixN
  rw [List.length_append, List.length_singleton]
  simp
  omega
section overlaps
variable {σ τ : Type}
theorem overlaps_turn (e1 : σ → List D) (e2 : τ → List D) {l : List (Int × Int × σ)} {m : List (Int × Int × τ)} {i j : Nat} {a : Int × Int × σ} {b : Int × Int × τ} (ha : l[i]? = some a) (hb : m[j]? = some b) (A : List (Meet σ τ)) (hA : A.length < 100000) (x5 x6 : Option Slot) (S : Store) :
    ∃ x5' x6', b_p_overlaps_2 [some (.val (.tup (l.map (dG e1)))), some (.val (.tup (m.map (dG e2)))), some (.own (.lst (A.map dM))), some (.val (.int (i : Int))), some (.val (.int (j : Int))), x5, x6] S = .ok (.nx [some (.val (.tup (l.map (dG e1)))), some (.val (.tup (m.map (dG e2)))), some (.own (.lst ((A ++ meetHd a b i j).map dM))), some (.val (.int ((if a.2.1 < b.2.1 then i + 1 else i : Nat) : Int))), some (.val (.int ((if a.2.1 < b.2.1 then j else j + 1 : Nat) : Int))), x5', x6']) S := by
  have ea := at_map (dG e1) ha
  have eb := at_map (dG e2) hb
  have h1 : (if a.1 < b.1 then b.1 else a.1) = max a.1 b.1 := by split <;> omega
  have h2 : (if b.2.1 < a.2.1 then b.2.1 else a.2.1) = min a.2.1 b.2.1 := by split <;> omega
  have z : A.length < PySem.sizeLine := small_lt (by omega)
  have ia0 : ∀ S, gIx (dG e1 a) (.int 0) S = .ok (.int a.1) S := fun S => by simp [dG]
  have ia1 : ∀ S, gIx (dG e1 a) (.int 1) S = .ok (.int a.2.1) S := fun S => by simp [dG]
  have ib0 : ∀ S, gIx (dG e2 b) (.int 0) S = .ok (.int b.1) S := fun S => by simp [dG]
  have ib1 : ∀ S, gIx (dG e2 b) (.int 1) S = .ok (.int b.2.1) S := fun S => by simp [dG]
  refine ⟨some (.val (.int (max a.1 b.1))), some (.val (.int (min a.2.1 b.2.1))), ?_⟩
  unfold b_p_overlaps_2 meetHd
  by_cases c : max a.1 b.1 ≤ min a.2.1 b.2.1
  · by_cases d : a.2.1 < b.2.1
    · simp only [if_pos c, if_pos d]
      simp only [bind_ok_eq, bind_bad_eq, mVar_eq, mC_eq, m2_eq, mNil_eq, mPass_eq, mSeq_eq, mSet_eq, mRet_eq, mDrop_eq, mIf_eq, mB_eq, isB_eq, mAndT_eq, mOrT_eq, mNotT_eq, mAnd_eq, mOr_eq, mNot_eq, mIfE_eq, mChain_eq, aNil_eq, aCons_eq, mTup_eq, mDisp_eq, mLst_eq, mLoc_eq, mOwnL_eq, mCall_eq, mCallK_eq, mAsg_eq, mFor_eq, iSeq_eq, iSeqD_lst, iSeqD_tup, iLst_eq, seqD_lst, iLoc_eq, locD_eq, iScr_eq, scrD_eq, iRange1_eq, iRange2_eq, iEnumM_eq, mLc_eq, mYes_eq, mQ_eq, mQL_eq, mA_eq, mB1_eq, hLen_eq, hTup_eq, hList_eq, hAbs_eq, hInt_eq, hIntB_eq, hMax2_eq, hMin2_eq, gNeg_eq, gI_eq, gI0_eq, gIx_tup, gIx_lst, gIx_scr, gIx_loc, mSetC_eq, putC_eq, mApp_eq, mAppC_eq, qOwn_eq, gLen_tup, gLen_lst, gLen_scr, mDNewK_eq, mDGet2_eq, mDPut_eq, mDSet_eq, dictAt_eq, dictR_eq, keyD_int, keyD_str, mPar_eq, sNil_eq, sVal_eq, sOwnL_eq, setSl_nil, setSl_cons, setD_nil, setD_cons, pat_nm, pat_tp, pats_nil, pats_cons, wipeM_nil, wipeM_cons, forL_nil, lcL_nil, n2_eq, atI0, atI1, atI2, gNe_strs, gEq_strs, gNe_ints, gEq_ints, sz_1, sz_2, sz_3, sz_4, sz_5, sz_6, sz_7, sz_8, sz_9, sz_10, sz_11, sz_12, sz_13, sz_14, sz_15, sz_16, sz_17, sz_18, sz_19, sz_20, mLock_eq, nLock_eq, dictVar_eq, iKeysF_eq, keyV_inl, mRest_eq, restAt_eq, mExt_eq, iTup_eq, tupD_tup, mRetO_eq, gIsB_eq, gNotB_eq, gIsN_non, gIsN_int, gIsN_bl, gIsN_str, gIsN_tup, gIsN_lst, gIsN_loc, gNotN_non, gNotN_int, gNotN_bl, gNotN_str, gNotN_tup, gNotN_lst, gNotN_loc, iZip_eq, mAsg2_eq, mAug_eq, hSortedR_eq, mV_eq, mVL_eq, anyD_lst, anyD_tup, anyD_scr, anyD_loc, mIxO_eq, mSetO_eq, oNone_eq, oSome_eq, mSlT_eq, mSlQ_eq, mTruQ_eq, iRg1_eq, iRg2_eq, mNNew_eq, dictT_eq, mNGet1_eq, mNGet2_eq, gNGet_eq, gNIn_eq, putT_eq, setT_eq, mNPut_eq, mNSet_eq, mDGet1_eq, aStar_eq, mDCopy_eq, gDIn_eq, mIns_eq, mRevQ_eq, Nat.zero_le, Nat.zero_add, Nat.reduceAdd, and_self, mDef_eq, List.getElem?_cons_zero, List.getElem?_cons_succ, List.set, List.length_cons, List.length_nil, List.map_cons, List.map_nil, List.replicate, List.cons_append, List.nil_append, List.append_nil, if_true, if_false, ite_true, ite_false, Bool.false_eq_true, Bool.true_eq_false, Bool.not_true, Bool.not_false, List.zip_cons_cons, List.zip_nil_left, gt_iff_lt, ea, eb, ia0, ia1, ib0, ib1, h1, h2, c, d, List.length_map, z, List.map_append, List.map_cons, List.map_nil, decide_true, dM, Int.natCast_add, Int.natCast_one]
    · have d' : (a.2.1 < b.2.1) = False := eq_false d
      simp only [if_pos c, if_neg d]
      simp only [bind_ok_eq, bind_bad_eq, mVar_eq, mC_eq, m2_eq, mNil_eq, mPass_eq, mSeq_eq, mSet_eq, mRet_eq, mDrop_eq, mIf_eq, mB_eq, isB_eq, mAndT_eq, mOrT_eq, mNotT_eq, mAnd_eq, mOr_eq, mNot_eq, mIfE_eq, mChain_eq, aNil_eq, aCons_eq, mTup_eq, mDisp_eq, mLst_eq, mLoc_eq, mOwnL_eq, mCall_eq, mCallK_eq, mAsg_eq, mFor_eq, iSeq_eq, iSeqD_lst, iSeqD_tup, iLst_eq, seqD_lst, iLoc_eq, locD_eq, iScr_eq, scrD_eq, iRange1_eq, iRange2_eq, iEnumM_eq, mLc_eq, mYes_eq, mQ_eq, mQL_eq, mA_eq, mB1_eq, hLen_eq, hTup_eq, hList_eq, hAbs_eq, hInt_eq, hIntB_eq, hMax2_eq, hMin2_eq, gNeg_eq, gI_eq, gI0_eq, gIx_tup, gIx_lst, gIx_scr, gIx_loc, mSetC_eq, putC_eq, mApp_eq, mAppC_eq, qOwn_eq, gLen_tup, gLen_lst, gLen_scr, mDNewK_eq, mDGet2_eq, mDPut_eq, mDSet_eq, dictAt_eq, dictR_eq, keyD_int, keyD_str, mPar_eq, sNil_eq, sVal_eq, sOwnL_eq, setSl_nil, setSl_cons, setD_nil, setD_cons, pat_nm, pat_tp, pats_nil, pats_cons, wipeM_nil, wipeM_cons, forL_nil, lcL_nil, n2_eq, atI0, atI1, atI2, gNe_strs, gEq_strs, gNe_ints, gEq_ints, sz_1, sz_2, sz_3, sz_4, sz_5, sz_6, sz_7, sz_8, sz_9, sz_10, sz_11, sz_12, sz_13, sz_14, sz_15, sz_16, sz_17, sz_18, sz_19, sz_20, mLock_eq, nLock_eq, dictVar_eq, iKeysF_eq, keyV_inl, mRest_eq, restAt_eq, mExt_eq, iTup_eq, tupD_tup, mRetO_eq, gIsB_eq, gNotB_eq, gIsN_non, gIsN_int, gIsN_bl, gIsN_str, gIsN_tup, gIsN_lst, gIsN_loc, gNotN_non, gNotN_int, gNotN_bl, gNotN_str, gNotN_tup, gNotN_lst, gNotN_loc, iZip_eq, mAsg2_eq, mAug_eq, hSortedR_eq, mV_eq, mVL_eq, anyD_lst, anyD_tup, anyD_scr, anyD_loc, mIxO_eq, mSetO_eq, oNone_eq, oSome_eq, mSlT_eq, mSlQ_eq, mTruQ_eq, iRg1_eq, iRg2_eq, mNNew_eq, dictT_eq, mNGet1_eq, mNGet2_eq, gNGet_eq, gNIn_eq, putT_eq, setT_eq, mNPut_eq, mNSet_eq, mDGet1_eq, aStar_eq, mDCopy_eq, gDIn_eq, mIns_eq, mRevQ_eq, Nat.zero_le, Nat.zero_add, Nat.reduceAdd, and_self, mDef_eq, List.getElem?_cons_zero, List.getElem?_cons_succ, List.set, List.length_cons, List.length_nil, List.map_cons, List.map_nil, List.replicate, List.cons_append, List.nil_append, List.append_nil, if_true, if_false, ite_true, ite_false, Bool.false_eq_true, Bool.true_eq_false, Bool.not_true, Bool.not_false, List.zip_cons_cons, List.zip_nil_left, gt_iff_lt, ea, eb, ia0, ia1, ib0, ib1, h1, h2, c, d', List.length_map, z, List.map_append, List.map_cons, List.map_nil, decide_true, decide_false, dM, Int.natCast_add, Int.natCast_one]
  · have c' : (max a.1 b.1 ≤ min a.2.1 b.2.1) = False := eq_false c
    by_cases d : a.2.1 < b.2.1
    · simp only [if_neg c, if_pos d]
      simp only [bind_ok_eq, bind_bad_eq, mVar_eq, mC_eq, m2_eq, mNil_eq, mPass_eq, mSeq_eq, mSet_eq, mRet_eq, mDrop_eq, mIf_eq, mB_eq, isB_eq, mAndT_eq, mOrT_eq, mNotT_eq, mAnd_eq, mOr_eq, mNot_eq, mIfE_eq, mChain_eq, aNil_eq, aCons_eq, mTup_eq, mDisp_eq, mLst_eq, mLoc_eq, mOwnL_eq, mCall_eq, mCallK_eq, mAsg_eq, mFor_eq, iSeq_eq, iSeqD_lst, iSeqD_tup, iLst_eq, seqD_lst, iLoc_eq, locD_eq, iScr_eq, scrD_eq, iRange1_eq, iRange2_eq, iEnumM_eq, mLc_eq, mYes_eq, mQ_eq, mQL_eq, mA_eq, mB1_eq, hLen_eq, hTup_eq, hList_eq, hAbs_eq, hInt_eq, hIntB_eq, hMax2_eq, hMin2_eq, gNeg_eq, gI_eq, gI0_eq, gIx_tup, gIx_lst, gIx_scr, gIx_loc, mSetC_eq, putC_eq, mApp_eq, mAppC_eq, qOwn_eq, gLen_tup, gLen_lst, gLen_scr, mDNewK_eq, mDGet2_eq, mDPut_eq, mDSet_eq, dictAt_eq, dictR_eq, keyD_int, keyD_str, mPar_eq, sNil_eq, sVal_eq, sOwnL_eq, setSl_nil, setSl_cons, setD_nil, setD_cons, pat_nm, pat_tp, pats_nil, pats_cons, wipeM_nil, wipeM_cons, forL_nil, lcL_nil, n2_eq, atI0, atI1, atI2, gNe_strs, gEq_strs, gNe_ints, gEq_ints, sz_1, sz_2, sz_3, sz_4, sz_5, sz_6, sz_7, sz_8, sz_9, sz_10, sz_11, sz_12, sz_13, sz_14, sz_15, sz_16, sz_17, sz_18, sz_19, sz_20, mLock_eq, nLock_eq, dictVar_eq, iKeysF_eq, keyV_inl, mRest_eq, restAt_eq, mExt_eq, iTup_eq, tupD_tup, mRetO_eq, gIsB_eq, gNotB_eq, gIsN_non, gIsN_int, gIsN_bl, gIsN_str, gIsN_tup, gIsN_lst, gIsN_loc, gNotN_non, gNotN_int, gNotN_bl, gNotN_str, gNotN_tup, gNotN_lst, gNotN_loc, iZip_eq, mAsg2_eq, mAug_eq, hSortedR_eq, mV_eq, mVL_eq, anyD_lst, anyD_tup, anyD_scr, anyD_loc, mIxO_eq, mSetO_eq, oNone_eq, oSome_eq, mSlT_eq, mSlQ_eq, mTruQ_eq, iRg1_eq, iRg2_eq, mNNew_eq, dictT_eq, mNGet1_eq, mNGet2_eq, gNGet_eq, gNIn_eq, putT_eq, setT_eq, mNPut_eq, mNSet_eq, mDGet1_eq, aStar_eq, mDCopy_eq, gDIn_eq, mIns_eq, mRevQ_eq, Nat.zero_le, Nat.zero_add, Nat.reduceAdd, and_self, mDef_eq, List.getElem?_cons_zero, List.getElem?_cons_succ, List.set, List.length_cons, List.length_nil, List.map_cons, List.map_nil, List.replicate, List.cons_append, List.nil_append, List.append_nil, if_true, if_false, ite_true, ite_false, Bool.false_eq_true, Bool.true_eq_false, Bool.not_true, Bool.not_false, List.zip_cons_cons, List.zip_nil_left, gt_iff_lt, ea, eb, ia0, ia1, ib0, ib1, h1, h2, c', d, List.length_map, z, decide_true, decide_false, Int.natCast_add, Int.natCast_one]
    · have d' : (a.2.1 < b.2.1) = False := eq_false d
      simp only [if_neg c, if_neg d]
      simp only [bind_ok_eq, bind_bad_eq, mVar_eq, mC_eq, m2_eq, mNil_eq, mPass_eq, mSeq_eq, mSet_eq, mRet_eq, mDrop_eq, mIf_eq, mB_eq, isB_eq, mAndT_eq, mOrT_eq, mNotT_eq, mAnd_eq, mOr_eq, mNot_eq, mIfE_eq, mChain_eq, aNil_eq, aCons_eq, mTup_eq, mDisp_eq, mLst_eq, mLoc_eq, mOwnL_eq, mCall_eq, mCallK_eq, mAsg_eq, mFor_eq, iSeq_eq, iSeqD_lst, iSeqD_tup, iLst_eq, seqD_lst, iLoc_eq, locD_eq, iScr_eq, scrD_eq, iRange1_eq, iRange2_eq, iEnumM_eq, mLc_eq, mYes_eq, mQ_eq, mQL_eq, mA_eq, mB1_eq, hLen_eq, hTup_eq, hList_eq, hAbs_eq, hInt_eq, hIntB_eq, hMax2_eq, hMin2_eq, gNeg_eq, gI_eq, gI0_eq, gIx_tup, gIx_lst, gIx_scr, gIx_loc, mSetC_eq, putC_eq, mApp_eq, mAppC_eq, qOwn_eq, gLen_tup, gLen_lst, gLen_scr, mDNewK_eq, mDGet2_eq, mDPut_eq, mDSet_eq, dictAt_eq, dictR_eq, keyD_int, keyD_str, mPar_eq, sNil_eq, sVal_eq, sOwnL_eq, setSl_nil, setSl_cons, setD_nil, setD_cons, pat_nm, pat_tp, pats_nil, pats_cons, wipeM_nil, wipeM_cons, forL_nil, lcL_nil, n2_eq, atI0, atI1, atI2, gNe_strs, gEq_strs, gNe_ints, gEq_ints, sz_1, sz_2, sz_3, sz_4, sz_5, sz_6, sz_7, sz_8, sz_9, sz_10, sz_11, sz_12, sz_13, sz_14, sz_15, sz_16, sz_17, sz_18, sz_19, sz_20, mLock_eq, nLock_eq, dictVar_eq, iKeysF_eq, keyV_inl, mRest_eq, restAt_eq, mExt_eq, iTup_eq, tupD_tup, mRetO_eq, gIsB_eq, gNotB_eq, gIsN_non, gIsN_int, gIsN_bl, gIsN_str, gIsN_tup, gIsN_lst, gIsN_loc, gNotN_non, gNotN_int, gNotN_bl, gNotN_str, gNotN_tup, gNotN_lst, gNotN_loc, iZip_eq, mAsg2_eq, mAug_eq, hSortedR_eq, mV_eq, mVL_eq, anyD_lst, anyD_tup, anyD_scr, anyD_loc, mIxO_eq, mSetO_eq, oNone_eq, oSome_eq, mSlT_eq, mSlQ_eq, mTruQ_eq, iRg1_eq, iRg2_eq, mNNew_eq, dictT_eq, mNGet1_eq, mNGet2_eq, gNGet_eq, gNIn_eq, putT_eq, setT_eq, mNPut_eq, mNSet_eq, mDGet1_eq, aStar_eq, mDCopy_eq, gDIn_eq, mIns_eq, mRevQ_eq, Nat.zero_le, Nat.zero_add, Nat.reduceAdd, and_self, mDef_eq, List.getElem?_cons_zero, List.getElem?_cons_succ, List.set, List.length_cons, List.length_nil, List.map_cons, List.map_nil, List.replicate, List.cons_append, List.nil_append, List.append_nil, if_true, if_false, ite_true, ite_false, Bool.false_eq_true, Bool.true_eq_false, Bool.not_true, Bool.not_false, List.zip_cons_cons, List.zip_nil_left, gt_iff_lt, ea, eb, ia0, ia1, ib0, ib1, h1, h2, c', d', List.length_map, z, decide_false, Int.natCast_add, Int.natCast_one]
theorem overlaps_loop (e1 : σ → List D) (e2 : τ → List D) (l : List (Int × Int × σ)) (m : List (Int × Int × τ)) (S : Store) : ∀ (u i j : Nat) (A : List (Meet σ τ)) (x5 x6 : Option Slot), (l.length - i) + (m.length - j) < u → i ≤ l.length → j ≤ m.length → A.length + (l.length - i) + (m.length - j) ≤ 90000 →
    ∃ x3 x4 x5' x6', mWhileN t_p_overlaps_1 b_p_overlaps_2 u [some (.val (.tup (l.map (dG e1)))), some (.val (.tup (m.map (dG e2)))), some (.own (.lst (A.map dM))), some (.val (.int (i : Int))), some (.val (.int (j : Int))), x5, x6] S = .ok (.nx [some (.val (.tup (l.map (dG e1)))), some (.val (.tup (m.map (dG e2)))), some (.own (.lst ((A ++ meets (l.drop i) (m.drop j) i j).map dM))), x3, x4, x5', x6']) S
  | 0, i, j, A, x5, x6, hu, _, _, _ => by omega
  | u + 1, i, j, A, x5, x6, hu, hi, hj, hA => by
    by_cases c : i < l.length ∧ j < m.length
    · have et : t_p_overlaps_1 [some (.val (.tup (l.map (dG e1)))), some (.val (.tup (m.map (dG e2)))), some (.own (.lst (A.map dM))), some (.val (.int (i : Int))), some (.val (.int (j : Int))), x5, x6] S = .ok true S := by
        have c1 : (i : Int) < l.length := by omega
        have c2 : (j : Int) < m.length := by omega
        unfold t_p_overlaps_1
        simp [c1, c2]
        try omega
      have ha : l[i]? = some l[i] := List.getElem?_eq_getElem c.1
      have hb : m[j]? = some m[j] := List.getElem?_eq_getElem c.2
      obtain ⟨y5, y6, eb⟩ := overlaps_turn e1 e2 ha hb A (by omega) x5 x6 S
      have hh := meetHd_len l[i] m[j] i j
      rw [List.drop_eq_getElem_cons c.1, List.drop_eq_getElem_cons c.2, meets_cons, ← List.drop_eq_getElem_cons c.1, ← List.drop_eq_getElem_cons c.2, ← List.append_assoc]
      unfold mWhileN
      rw [et, bind_ok_eq, if_pos rfl, eb, bind_ok_eq]
      dsimp only
      by_cases d : l[i].2.1 < m[j].2.1
      · rw [if_pos d, if_pos d, if_pos d]
        exact overlaps_loop e1 e2 l m S u (i + 1) j _ y5 y6 (by omega) (by omega) hj (by rw [List.length_append]; omega)
      · rw [if_neg d, if_neg d, if_neg d]
        exact overlaps_loop e1 e2 l m S u i (j + 1) _ y5 y6 (by omega) hi (by omega) (by rw [List.length_append]; omega)
    · have et : t_p_overlaps_1 [some (.val (.tup (l.map (dG e1)))), some (.val (.tup (m.map (dG e2)))), some (.own (.lst (A.map dM))), some (.val (.int (i : Int))), some (.val (.int (j : Int))), x5, x6] S = .ok false S := by
        unfold t_p_overlaps_1
        by_cases c1 : i < l.length
        · have c2 : ¬ (j : Int) < m.length := fun z => c ⟨c1, by omega⟩
          have c1' : (i : Int) < l.length := by omega
          simp [c1, c1', eq_false c2]
          try omega
        · have c1' : ¬ (i : Int) < l.length := by omega
          simp [eq_false c1']
          try omega
      have em : meets (l.drop i) (m.drop j) i j = [] := by
        by_cases c1 : i < l.length
        · have : m.drop j = [] := List.drop_eq_nil_of_le (by omega)
          rw [this, meets_nil2]
        · have : l.drop i = [] := List.drop_eq_nil_of_le (by omega)
          rw [this, meets_nil]
      rw [em, List.append_nil]
      unfold mWhileN
      rw [et, bind_ok_eq, if_neg Bool.false_ne_true]
      exact ⟨_, _, _, _, rfl⟩
theorem overlaps_ok (e1 : σ → List D) (e2 : τ → List D) (l : List (Int × Int × σ)) (m : List (Int × Int × τ)) (hl : l.length ≤ 10000) (hm : m.length ≤ 10000) (S : Store) : m_p_overlaps [.tup (l.map (dG e1)), .tup (m.map (dG e2))] S = .ok (.lst ((meets l m 0 0).map dM)) S := by
  obtain ⟨x3, x4, x5, x6, e⟩ := overlaps_loop e1 e2 l m S 30000 0 0 [] none none (by omega) (by omega) (by omega) (by simp; omega)
  have e' := mWhileN_more (m := manyTurns) (by decide) e
  rw [List.drop_zero, List.drop_zero, List.nil_append, List.map_nil] at e'
  unfold m_p_overlaps b_p_overlaps
  rw [show (((0 : Nat) : Int)) = 0 from rfl] at e'
  simp [mDef_eq, mWhile, e']
end overlaps
theorem overlaps_NN (l m : List Mo.Run) (hl : l.length ≤ 10000) (hm : m.length ≤ 10000) (S : Store) : m_p_overlaps [.tup (l.map dN), .tup (m.map dN)] S = .ok (.lst ((meets l m 0 0).map dM)) S := overlaps_ok eS eS l m hl hm S
theorem overlaps_NP (l : List Mo.Run) (m : List Pr) (hl : l.length ≤ 10000) (hm : m.length ≤ 10000) (S : Store) : m_p_overlaps [.tup (l.map dN), .tup (m.map dP)] S = .ok (.lst ((meets l m 0 0).map dM)) S := overlaps_ok eS eU l m hl hm S
theorem overlaps_PP (l m : List Pr) (hl : l.length ≤ 10000) (hm : m.length ≤ 10000) (S : Store) : m_p_overlaps [.tup (l.map dP), .tup (m.map dP)] S = .ok (.lst ((meets l m 0 0).map dM)) S := overlaps_ok eU eU l m hl hm S
theorem knitG_len {σ : Type} [DecidableEq σ] (xs : List (Int × Int × σ)) : (knit xs).length ≤ xs.length := by
  refine snoc_induct (P := fun xs => (knit xs).length ≤ xs.length) (Nat.le_refl _) (fun xs x ih => ?_) xs
  rw [knit_add, List.length_append, List.length_singleton]
  rcases snoc_cases (knit xs) with e | ⟨B, r, e⟩
  · rw [e, kn_nil]; simp
  · rw [e] at ih ⊢
    rw [kn_snoc]
    split <;> simp at ih ⊢ <;> omega
/-! ### knitted -/
theorem knitted_turn {σ : Type} [DecidableEq σ] (e : σ → List D) (he : ∀ s t S, gEqA (.tup (e s)) (.tup (e t)) S = .ok (.bl (decide (s = t))) S) (hn : ∀ s, (e s).length ≤ 10) {A : List (Int × Int × σ)} {x : Int × Int × σ} {h : Option Slot} {S : Store} (hl : A.length < 100000) :
    b_p_knitted_1 [h, some (.own (.lst (A.map (dG e)))), some (.val (dG e x))] S = .ok (.nx [h, some (.own (.lst ((kn A x).map (dG e)))), some (.val (dG e x))]) S := by
  have hz : A.length < PySem.sizeLine := small_lt (by omega)
  rcases snoc_cases A with c | ⟨B, r, c⟩
  · subst c
    have z0 : 0 < PySem.sizeLine := by decide
    unfold b_p_knitted_1
    simp [kn_nil, mTruQ, z0]
  · subst c
    rw [kn_snoc]
    have c2 : ∀ (a b : D) (l : List D), cutD (a :: b :: l) (some 2) none = l := fun a b l => cutD_from (a :: b :: l) 2
    have c1 : ∀ (a : D) (l : List D), cutD (a :: l) none (some 1) = [a] := fun a l => cutD_to (a :: l) 1
    have c3 : ∀ (a : D) (l : List D), cutD (a :: l) (some 1) none = l := fun a l => cutD_from (a :: l) 1
    have hix : ixN (B.map (dG e) ++ [dG e r]).length (-1) = some B.length := by rw [ix_last, List.length_map]
    have hix' : ixN (B.length + 1) (-1) = some B.length := by rw [← hix]; simp
    have hset' : ∀ d, ∀ y : D, (B.map (dG e) ++ [y]).set B.length d = B.map (dG e) ++ [d] := fun d y => by
      rw [List.set_append_right _ _ (by simp)]
      simp
    have hz2 : B.length + 1 < PySem.sizeLine := by simpa using hz
    have z3 : ∀ s, (e s).length + 1 + 1 ≤ PySem.sizeLine := fun s => small_le (by have := hn s; omega)
    have z4 : ∀ s, 1 + ((e s).length + 1) ≤ PySem.sizeLine := fun s => small_le (by have := hn s; omega)
    have hG : ∀ r : Int × Int × σ, dG e r = .tup (.int r.1 :: .int r.2.1 :: e r.2.2) := fun _ => rfl
    unfold b_p_knitted_1
    rw [List.map_append, List.map_singleton]
    by_cases h1 : r.2.1 + 1 = x.1
    · by_cases h2 : r.2.2 = x.2.2
      · rw [if_pos ⟨h1, h2⟩]
        simp [mTruQ, mIxO, mSlT, oSome, oNone, gCatT, mSetO, at_last, hG, c2, c1, c3, he, h1, h2, hix', hset', z3, z4]
      · rw [if_neg (fun h => h2 h.2)]
        simp [mTruQ, mIxO, mSlT, oSome, oNone, gCatT, mSetO, at_last, hG, c2, c1, c3, he, h1, h2, hz2]
    · rw [if_neg (fun h => h1 h.1)]
      have h1' : (r.2.1 + 1 = x.1) = False := eq_false h1
      simp [mTruQ, mIxO, mSlT, oSome, oNone, gCatT, mSetO, at_last, hG, c2, c1, c3, he, h1', hz2]
theorem knitted_okG {σ : Type} [DecidableEq σ] (en : σ → List D) (he : ∀ s t S, gEqA (.tup (en s)) (.tup (en t)) S = .ok (.bl (decide (s = t))) S) (hn : ∀ s, (en s).length ≤ 10) (xs : List (Int × Int × σ)) (hl : xs.length < 100000) (S : Store) : m_p_knitted [.lst (xs.map (dG en))] S = .ok (.tup ((knit xs).map (dG en))) S := by
  obtain ⟨ρ', S', e, ⟨z, rfl⟩, rfl⟩ := forL_inv (p := .nm 2) (mb := b_p_knitted_1) (enc := dG en) (fun d ρ S' => (∃ z, ρ = [some (.val (.lst (xs.map (dG en)))), some (.own (.lst ((knit d).map (dG en)))), z]) ∧ S' = S) xs (ρ := [some (.val (.lst (xs.map (dG en)))), some (.own (.lst [])), none]) (S := S) ⟨⟨_, rfl⟩, rfl⟩ (by
    rintro d x r ρ S' e ⟨⟨z, rfl⟩, rfl⟩
    have hd : d.length < 100000 := by rw [e] at hl; simp at hl; omega
    have := knitG_len d
    exact ⟨[(2, dG en x)], _, _, by simp, .inl (knitted_turn en he hn (A := knit d) (x := x) (by omega)), ⟨⟨_, by rw [knit_add]⟩, rfl⟩⟩)
  unfold m_p_knitted b_p_knitted
  have z0 : (0 : Nat) ≤ PySem.sizeLine := Nat.zero_le _
  simp [mDef_eq, e, z0]
theorem eqU (s t : Unit) (S : Store) : gEqA (.tup (eU s)) (.tup (eU t)) S = .ok (.bl (decide (s = t))) S := by
  rw [decide_eq_true rfl]
  exact gEqA_tup (eqD_of2 (p := .tuple []) (q := .tuple []) rfl rfl (shaped_of (by simp [PyData.canLay0, PyData.canLayAll0]) (by simp [PyData.depth, PyData.depthAll])) (shaped_of (by simp [PyData.canLay0, PyData.canLayAll0]) (by simp [PyData.depth, PyData.depthAll])) (by simp [PyData.eqv, PyData.eqvAll])) S
theorem knittedN_ok (xs : List Mo.Run) (hl : xs.length < 100000) (S : Store) : m_p_knitted [.lst (xs.map dN)] S = .ok (.tup ((knit xs).map dN)) S := knitted_okG eS eqS1 (fun _ => by simp [eS]) xs hl S
theorem knittedP_ok (xs : List Pr) (hl : xs.length < 100000) (S : Store) : m_p_knitted [.lst (xs.map dP)] S = .ok (.tup ((knit xs).map dP)) S := knitted_okG eU eqU (fun _ => by simp [eU]) xs hl S
theorem lot_held_ok (l : List Mo.Run) (hl : l.length < 100000) (S : Store) : m_p_lot_held [.tup (l.map dN)] S = .ok (.tup ((lotOf l).map dP)) S := by
  have e1 := lcL_map (p := .nm 1) (me := e_p_lot_held_1) (enc := dN) (f := fun r => dP (onS (fun _ => ()) r)) (ρ := [some (.val (.tup (l.map dN))), none]) (S := S) l (fun r _ => ⟨_, rfl, by
    have c1 := cutD_to [.int r.1, .int r.2.1, dS r.2.2] 2
    rw [show ((2 : Nat) : Int) = 2 from rfl] at c1
    unfold e_p_lot_held_1
    simp [dN, mSlT, oSome, oNone, c1, dP, onS]⟩)
  have em : (l.map fun r => dP (onS (fun _ => ()) r)) = (l.map (onS fun _ => ())).map dP := by rw [List.map_map]; rfl
  rw [em] at e1
  have e2 := knittedP_ok (l.map (onS fun _ => ())) (by rw [List.length_map]; exact hl) S
  have z1 : l.length ≤ PySem.sizeLine := small_le (by omega)
  unfold m_p_lot_held b_p_lot_held lotOf
  simp only [bind_ok_eq, bind_bad_eq, mVar_eq, mC_eq, m2_eq, mNil_eq, mPass_eq, mSeq_eq, mSet_eq, mRet_eq, mDrop_eq, mIf_eq, mB_eq, isB_eq, mAndT_eq, mOrT_eq, mNotT_eq, mAnd_eq, mOr_eq, mNot_eq, mIfE_eq, mChain_eq, aNil_eq, aCons_eq, mTup_eq, mDisp_eq, mLst_eq, mLoc_eq, mOwnL_eq, mCall_eq, mCallK_eq, mAsg_eq, mFor_eq, iSeq_eq, iSeqD_lst, iSeqD_tup, iLst_eq, seqD_lst, iLoc_eq, locD_eq, iScr_eq, scrD_eq, iRange1_eq, iRange2_eq, iEnumM_eq, mLc_eq, mYes_eq, mQ_eq, mQL_eq, mA_eq, mB1_eq, hLen_eq, hTup_eq, hList_eq, hAbs_eq, hInt_eq, hIntB_eq, hMax2_eq, hMin2_eq, gNeg_eq, gI_eq, gI0_eq, gIx_tup, gIx_lst, gIx_scr, gIx_loc, mSetC_eq, putC_eq, mApp_eq, mAppC_eq, qOwn_eq, gLen_tup, gLen_lst, gLen_scr, mDNewK_eq, mDGet2_eq, mDPut_eq, mDSet_eq, dictAt_eq, dictR_eq, keyD_int, keyD_str, mPar_eq, sNil_eq, sVal_eq, sOwnL_eq, setSl_nil, setSl_cons, setD_nil, setD_cons, pat_nm, pat_tp, pats_nil, pats_cons, wipeM_nil, wipeM_cons, forL_nil, lcL_nil, n2_eq, atI0, atI1, atI2, gNe_strs, gEq_strs, gNe_ints, gEq_ints, sz_1, sz_2, sz_3, sz_4, sz_5, sz_6, sz_7, sz_8, sz_9, sz_10, sz_11, sz_12, sz_13, sz_14, sz_15, sz_16, sz_17, sz_18, sz_19, sz_20, mLock_eq, nLock_eq, dictVar_eq, iKeysF_eq, keyV_inl, mRest_eq, restAt_eq, mExt_eq, iTup_eq, tupD_tup, mRetO_eq, gIsB_eq, gNotB_eq, gIsN_non, gIsN_int, gIsN_bl, gIsN_str, gIsN_tup, gIsN_lst, gIsN_loc, gNotN_non, gNotN_int, gNotN_bl, gNotN_str, gNotN_tup, gNotN_lst, gNotN_loc, iZip_eq, mAsg2_eq, mAug_eq, hSortedR_eq, mV_eq, mVL_eq, anyD_lst, anyD_tup, anyD_scr, anyD_loc, mIxO_eq, mSetO_eq, oNone_eq, oSome_eq, mSlT_eq, mSlQ_eq, mTruQ_eq, iRg1_eq, iRg2_eq, mNNew_eq, dictT_eq, mNGet1_eq, mNGet2_eq, gNGet_eq, gNIn_eq, putT_eq, setT_eq, mNPut_eq, mNSet_eq, mDGet1_eq, aStar_eq, mDCopy_eq, gDIn_eq, mIns_eq, mRevQ_eq, Nat.zero_le, Nat.zero_add, Nat.reduceAdd, and_self, mDef_eq, List.getElem?_cons_zero, List.getElem?_cons_succ, List.set, List.length_cons, List.length_nil, List.map_cons, List.map_nil, List.replicate, List.cons_append, List.nil_append, List.append_nil, if_true, if_false, ite_true, ite_false, Bool.false_eq_true, Bool.true_eq_false, Bool.not_true, Bool.not_false, List.zip_cons_cons, List.zip_nil_left, e1, List.length_map, z1, e2]
/-! ### gaps -/
theorem gaps_loop (x0 x1 : Option Slot) (S : Store) : ∀ (l : List Pr) (A : List Pr) (b : Int) (x4 x5 : Option Slot), A.length + l.length < 100000 → ∃ B b' x4' x5', mForL (.tp [.nm 4, .nm 5]) b_p_gaps_1 (l.map dP) [x0, x1, some (.own (.lst (A.map dP))), some (.val (.int b)), x4, x5] S = .ok (.nx [x0, x1, some (.own (.lst ((A ++ B).map dP))), some (.val (.int b')), x4', x5']) S ∧ B.length ≤ l.length ∧ ∀ e, gps l b e = B ++ (if b' ≤ e then [(b', e, ())] else [])
  | [], A, b, x4, x5, _ => ⟨[], b, x4, x5, by rw [List.append_nil]; rfl, Nat.le_refl _, fun e => rfl⟩
  | r :: l, A, b, x4, x5, hA => by
    rw [List.length_cons] at hA
    by_cases c : b < r.1
    · have z : A.length < PySem.sizeLine := small_lt (by omega)
      obtain ⟨B, b', y4, y5, e, hB, hg⟩ := gaps_loop x0 x1 S l (A ++ [(b, r.1 - 1, ())]) (r.2.1 + 1) (some (.val (.int r.1))) (some (.val (.int r.2.1))) (by rw [List.length_append, List.length_singleton]; omega)
      refine ⟨(b, r.1 - 1, ()) :: B, b', y4, y5, ?_, by rw [List.length_cons, List.length_cons]; omega, fun e => by rw [gps, if_pos c, hg]; rfl⟩
      rw [List.map_cons, forL_cons]
      have eb : b_p_gaps_1 [x0, x1, some (.own (.lst (A.map dP))), some (.val (.int b)), some (.val (.int r.1)), some (.val (.int r.2.1))] S = .ok (.nx [x0, x1, some (.own (.lst ((A ++ [(b, r.1 - 1, ())]).map dP))), some (.val (.int (r.2.1 + 1))), some (.val (.int r.1)), some (.val (.int r.2.1))]) S := by
        unfold b_p_gaps_1
        simp [c, z, dP]
      have ep : Pat.bind (.tp [.nm 4, .nm 5]) (dP r) = some [(4, .int r.1), (5, .int r.2.1)] := by simp [dP]
      rw [ep]
      dsimp only
      simp only [setD_cons, setD_nil, List.set]
      rw [eb, bind_ok_eq]
      dsimp only
      rw [e]
      simp
    · have c' : (b < r.1) = False := eq_false c
      obtain ⟨B, b', y4, y5, e, hB, hg⟩ := gaps_loop x0 x1 S l A (r.2.1 + 1) (some (.val (.int r.1))) (some (.val (.int r.2.1))) (by omega)
      refine ⟨B, b', y4, y5, ?_, by rw [List.length_cons]; omega, fun e => by rw [gps, if_neg c, hg]; rfl⟩
      rw [List.map_cons, forL_cons]
      have eb : b_p_gaps_1 [x0, x1, some (.own (.lst (A.map dP))), some (.val (.int b)), some (.val (.int r.1)), some (.val (.int r.2.1))] S = .ok (.nx [x0, x1, some (.own (.lst (A.map dP))), some (.val (.int (r.2.1 + 1))), some (.val (.int r.1)), some (.val (.int r.2.1))]) S := by
        unfold b_p_gaps_1
        simp [c']
      have ep : Pat.bind (.tp [.nm 4, .nm 5]) (dP r) = some [(4, .int r.1), (5, .int r.2.1)] := by simp [dP]
      rw [ep]
      dsimp only
      simp only [setD_cons, setD_nil, List.set]
      rw [eb, bind_ok_eq]
      dsimp only
      rw [e]
theorem gaps_ok (l : List Pr) (e : Int) (hl : l.length < 90000) (S : Store) : m_p_gaps [.tup (l.map dP), .int e] S = .ok (.tup ((gps l 0 e).map dP)) S := by
  obtain ⟨B, b', y4, y5, h1, hB, hg⟩ := gaps_loop (some (.val (.tup (l.map dP)))) (some (.val (.int e))) S l [] 0 none none (by simp; omega)
  rw [List.map_nil, List.nil_append] at h1
  have z : B.length < PySem.sizeLine := small_lt (by omega)
  have z' : B.length ≤ PySem.sizeLine := small_le (by omega)
  have z'' : B.length + 1 ≤ PySem.sizeLine := small_le (by omega)
  rw [hg]
  unfold m_p_gaps b_p_gaps
  by_cases c : b' ≤ e
  · rw [if_pos c]
    simp [mDef_eq, h1, c, z, z', z'', dP]
  · have c' : (b' ≤ e) = False := eq_false c
    rw [if_neg c]
    simp [mDef_eq, h1, c', z, z']
theorem common_ok (l m : List Pr) (hl : l.length ≤ 10000) (hm : m.length ≤ 10000) (S : Store) : m_p_common [.tup (l.map dP), .tup (m.map dP)] S = .ok (.tup ((commonL l m).map dP)) S := by
  have e0 := overlaps_PP l m hl hm S
  have hlen := meets_len l m 0 0
  have e1 := lcL_map (p := .nm 2) (me := e_p_common_1) (enc := dM) (f := fun e : Meet Unit Unit => dP (e.f, e.l, ())) (ρ := [some (.val (.tup (l.map dP))), some (.val (.tup (m.map dP))), none]) (S := S) (meets l m 0 0) (fun e _ => ⟨_, rfl, by
    have c1 := cutD_to [.int e.f, .int e.l, .int (e.i : Int), .int (e.j : Int)] 2
    rw [show ((2 : Nat) : Int) = 2 from rfl] at c1
    unfold e_p_common_1
    simp [dM, mSlT, oSome, oNone, c1, dP]⟩)
  have z1 : (meets l m 0 0).length ≤ PySem.sizeLine := small_le (by omega)
  unfold m_p_common b_p_common commonL
  rw [List.map_map]
  simp [mDef_eq, e0, e1, z1]
  try rfl
theorem eqP_nil (l : List Pr) (S : Store) : gEqA (.tup (l.map dP)) (.tup []) S = .ok (.bl l.isEmpty) S := by
  have tP : ∀ r : Pr, toP (dP r) = some (.tuple [.int r.1, .int r.2.1]) := fun _ => rfl
  refine gEqA_tup (eqD_of2 (p := .tuple (l.map fun r : Pr => .tuple [.int r.1, .int r.2.1])) (q := .tuple []) ?_ rfl ?_ ?_ ?_) S
  · rw [toP, toPs_map tP]; rfl
  · have := depthAll_map (g := fun r : Pr => PyData.tuple [.int r.1, .int r.2.1]) (k := 6) (xs := l) fun t _ => by simp [PyData.depth, PyData.depthAll]
    exact shaped_of (by simp [PyData.canLay0]; exact canLayAll_map (fun r => by simp [PyData.canLay0, PyData.canLayAll0]) l) (by simp only [PyData.depth]; omega)
  · exact shaped_of (by simp [PyData.canLay0, PyData.canLayAll0]) (by simp [PyData.depth, PyData.depthAll])
  · cases l <;> simp [PyData.eqv, PyData.eqvAll]
theorem eqNt_nil (l : List Mo.Run) (S : Store) : gEqA (.tup (l.map dN)) (.tup []) S = .ok (.bl l.isEmpty) S := by
  refine gEqA_tup (eqD_of2 (p := .tuple (l.map qN)) (q := .tuple []) ?_ rfl ?_ ?_ ?_) S
  · rw [toP, toPs_map toP_N]; rfl
  · have := depthAll_map (g := qN) (k := 14) (xs := l) fun t _ => depth_N t
    exact shaped_of (by simp [PyData.canLay0, canLayAll_map lay_N]) (by simp only [PyData.depth]; omega)
  · exact shaped_of (by simp [PyData.canLay0, PyData.canLayAll0]) (by simp [PyData.depth, PyData.depthAll])
  · cases l <;> simp [PyData.eqv, PyData.eqvAll]
theorem without_ok (l m : List Pr) (hl : l.length ≤ 5000) (hm : m.length ≤ 5000) (S : Store) : m_p_without [.tup (l.map dP), .tup (m.map dP)] S = .ok (.tup ((withoutL l m).map dP)) S := by
  have e0 := eqP_nil l S
  rcases snoc_cases l with c | ⟨A, r, c⟩
  · subst c
    unfold m_p_without b_p_without withoutL
    rw [List.map_nil] at e0
    simp [mDef_eq, e0]
  · have hne : l ≠ [] := by rw [c]; simp
    have hem : l.isEmpty = false := by rw [c]; simp
    have he : endL l = r.2.1 := by rw [c]; unfold endL; rw [List.getLast?_concat]
    rw [hem] at e0
    have e1 := gaps_ok m (endL l) (by omega) S
    have hg := gps_len m 0 (endL l)
    have e2 := common_ok l (gps m 0 (endL l)) (by omega) (by omega) S
    have ea : atI (l.map dP) (-1) = some (dP r) := by
      rw [c, List.map_append, List.map_singleton]; exact at_last
    have eb : ∀ S, gIx (dP r) (.int 1) S = .ok (.int r.2.1) S := fun S => by simp [dP]
    rw [he] at e1 e2
    unfold m_p_without b_p_without withoutL
    rw [if_neg hne, he]
    simp [mDef_eq, e0, ea, eb, e1, e2]
theorem held_of_ok (l : List Mo.Run) (m : List Pr) (hl : l.length ≤ 10000) (hm : m.length ≤ 10000) (S : Store) : m_p_held_of [.tup (l.map dN), .tup (m.map dP)] S = .ok (.tup ((heldOf l m).map dN)) S := by
  have e0 := overlaps_NP l m hl hm S
  have hlen := meets_len l m 0 0
  have e1 := lcL_map (p := .tp [.nm 2, .nm 3, .nm 4, .nm 5]) (me := e_p_held_of_1) (enc := dM) (f := fun e : Meet Slip Unit => dN (e.f, e.l, e.a)) (ρ := [some (.val (.tup (l.map dN))), some (.val (.tup (m.map dP))), none, none, none, none]) (S := S) (meets l m 0 0) (fun e he => ⟨_, by simp [dM]; rfl, by
    obtain ⟨i', j', a, b, h1, h2, h3, h4, h5, h6, h7, h8, h9⟩ := meets_mem he
    rw [Nat.zero_add] at h1
    rw [← h1] at h2
    have ea := at_map dN h2
    have eb : ∀ S, gIx (dN a) (.int 2) S = .ok (dS a.2.2) S := fun S => by simp [dN]
    unfold e_p_held_of_1
    simp [ea, eb, dN, h8]⟩)
  have z1 : (meets l m 0 0).length ≤ PySem.sizeLine := small_le (by omega)
  unfold m_p_held_of b_p_held_of heldOf
  rw [List.map_map]
  simp [mDef_eq, e0, e1, z1]
  try rfl
theorem lotOf_len (l : List Mo.Run) : (lotOf l).length ≤ l.length := by
  have := knitG_len (l.map (onS fun _ => ()))
  rw [List.length_map] at this
  exact this
theorem withoutL_len {σ τ : Type} [DecidableEq σ] [DecidableEq τ] (l : List (Int × Int × σ)) (m : List (Int × Int × τ)) : (withoutL l m).length ≤ l.length + m.length + 1 := by
  unfold withoutL
  split
  · simp
  · unfold commonL
    rw [List.length_map]
    have := meets_len l (gps m 0 (endL l)) 0 0
    have := gps_len m 0 (endL l)
    omega
theorem cut_ok (l : List Mo.Run) (m : List Pr) (hl : l.length ≤ 2000) (hm : m.length ≤ 2000) (S : Store) : m_p_cut [.tup (l.map dN), .tup (m.map dP)] S = .ok (.tup [.tup ((heldOf l m).map dN), .tup ((heldOf l (withoutL (lotOf l) m)).map dN)]) S := by
  have e0 := lot_held_ok l (by omega) S
  have hk := lotOf_len l
  have e1 := without_ok (lotOf l) m (by omega) (by omega) S
  have e2 := held_of_ok l m (by omega) (by omega) S
  have hw := withoutL_len (lotOf l) m
  have e3 := held_of_ok l (withoutL (lotOf l) m) (by omega) (by omega) S
  unfold m_p_cut b_p_cut
  simp [mDef_eq, e0, e1, e2, e3]
/-! ### sorted runs -/
theorem alikeAll_rows : ∀ xs ys : List Row, PySem.W.alikeAll (xs.map qR) (ys.map qR) = true
  | [], [] => by simp [PySem.W.alikeAll]
  | [], _ :: _ => by simp [PySem.W.alikeAll]
  | _ :: _, [] => by simp [PySem.W.alikeAll]
  | x :: xs, y :: ys => by rw [List.map_cons, List.map_cons, PySem.W.alikeAll, alike_R, alikeAll_rows xs ys]; rfl
theorem alike_N (a b : Mo.Run) : PySem.W.alike (qN a) (qN b) = true := by
  simp [qN, qS, qB, PySem.W.alike, PySem.W.alikeAll, alikeAll_rows]
theorem lt_N {a b : Mo.Run} (h : a.1 = b.1 → a = b) : PySem.W.dataLt (qN a) (qN b) = decide (a.1 < b.1) := by
  by_cases c : a.1 = b.1
  · have := h c
    subst this
    rw [show PySem.W.dataLt (qN a) (qN a) = false from PyProof.Rows.lex_irrefl _, decide_eq_false (by omega)]
  · unfold qN
    rw [PySem.W.dataLt_tuple, PySem.W.dataLt_cons (by simp [PySem.W.alike]), PySem.W.dataLt_int]
    simp [PyData.eqv, c]
theorem encD_N (t : Mo.Run) : encD (dN t) = qN t := by unfold encD; rw [toP_N]; rfl
theorem sortDR_N {l : List Mo.Run} (h : ∀ a ∈ l, ∀ b ∈ l, a.1 = b.1 → a = b) : sortDR false (l.map dN) = (srt l).map dN := by
  unfold sortDR srt
  refine (List.map_mergeSort fun a ha b hb => ?_).symm
  show _ = !PySem.W.dataLt (encD (dN b)) (encD (dN a))
  rw [encD_N, encD_N, lt_N (h b hb a ha), ← decide_not]
  exact decide_eq_decide.mpr (by omega)
theorem sortN_cond (l : List Mo.Run) : (l.map qN).all (fun x => (l.map qN).all (PySem.W.alike x)) = true ∧ sortableB (l.map qN) = true ∧ PyData.depthAll (l.map qN) ≤ 60 := by
  refine ⟨?_, ?_, depthAll_map fun t _ => by have := depth_N t; omega⟩
  · rw [List.all_eq_true]
    intro x hx
    rw [List.all_eq_true]
    intro y hy
    obtain ⟨a, _, ea⟩ := List.mem_map.mp hx
    obtain ⟨b, _, eb⟩ := List.mem_map.mp hy
    rw [← ea, ← eb, alike_N]
  · unfold sortableB
    rw [Bool.or_eq_true, List.all_eq_true]
    refine .inl fun x hx => ?_
    obtain ⟨a, _, ea⟩ := List.mem_map.mp hx
    rw [← ea]; rfl
theorem sorted_N {l : List Mo.Run} (h : ∀ a ∈ l, ∀ b ∈ l, a.1 = b.1 → a = b) (S : Store) : hSorted (l.map dN) S = .ok ((srt l).map dN) S := by
  unfold hSorted
  rw [toPs_map toP_N]
  dsimp only
  rw [if_pos (sortN_cond l)]
  exact congrArg (fun x => R.ok x S) (sortDR_N h)
theorem sortedB_N {l : List Mo.Run} (h : ∀ a ∈ l, ∀ b ∈ l, a.1 = b.1 → a = b) (S : Store) : hSortedB false (l.map dN) S = .ok ((srt l).map dN) S := by
  unfold hSortedB
  rw [toPs_map toP_N]
  dsimp only
  rw [if_pos (sortN_cond l)]
  exact congrArg (fun x => R.ok x S) (sortDR_N h)
theorem _root_.Mo.Apart.firsts {σ : Type} [DecidableEq σ] {l : List (Int × Int × σ)} (h : Apart l) : ∀ a ∈ l, ∀ b ∈ l, a.1 = b.1 → a = b := by
  induction l with
  | nil => intro a ha; cases ha
  | cons x l ih =>
    obtain ⟨h1, h2⟩ := h
    rw [List.pairwise_cons] at h1
    have hl : Apart l := ⟨h1.2, fun a ha => h2 a (List.mem_cons_of_mem _ ha)⟩
    have hx := h2 x List.mem_cons_self
    intro a ha b hb e
    rcases List.mem_cons.mp ha with p | p <;> rcases List.mem_cons.mp hb with q | q
    · rw [p, q]
    · have := h1.1 b q; have := hl.2 b q; subst p; omega
    · have := h1.1 a p; have := hl.2 a p; subst q; omega
    · exact ih hl a p b q e
/-! ### gathered -/
theorem lcL_mapS {α : Type} {p : Pat} {me : ME} {enc : α → D} {f : α → D} {ρ : MEnv} : ∀ (xs : List α) (S : Store), (∀ x ∈ xs, ∀ S, ∃ l S', p.bind (enc x) = some l ∧ me (setD ρ l) S = .ok (f x) S' ∧ Keeps S S') →
    ∃ S', mLcL p mYes me (xs.map enc) ρ S = .ok (xs.map f) S' ∧ Keeps S S'
  | [], S, _ => ⟨S, rfl, Keeps.refl S⟩
  | x :: xs, S, st => by
    obtain ⟨l, S1, hp, e, k1⟩ := st x List.mem_cons_self S
    obtain ⟨S2, e2, k2⟩ := lcL_mapS xs S1 (fun y hy => st y (List.mem_cons_of_mem _ hy))
    refine ⟨S2, ?_, k1.trans k2⟩
    rw [List.map_cons, lcL_cons, hp]
    dsimp only
    rw [mYes_eq, bind_ok_eq, if_pos rfl, e, bind_ok_eq, e2, bind_ok_eq, List.map_cons]
theorem keeps_later (x y : Slip) (S : Store) : Keeps S (laterS x y S) := by
  unfold laterS
  split
  · exact Keeps.refl S
  · exact Keeps.app S _
/-- the later one of two slips -/
def ltr (s t : Slip) : Slip := if laterB s t 0 = true then t else s
/-- slips that later can look at -/
def Fine (l : List Mo.Run) : Prop := ∀ r ∈ l, r.2.2.2.length ≤ 100 ∧ (r.2.2.2.map (·.1)).Nodup
theorem eqM_nil {σ τ : Type} (l : List (Meet σ τ)) (S : Store) : gEqA (.lst (l.map dM)) (.lst []) S = .ok (.bl l.isEmpty) S :=
  gEqA_lst (eqD_nil (f := dM) (g := fun e : Meet σ τ => PyData.tuple [.int e.f, .int e.l, .int (e.i : Int), .int (e.j : Int)]) (fun _ => rfl) (fun _ => by simp [PyData.canLay0, PyData.canLayAll0]) (fun _ => by simp [PyData.depth, PyData.depthAll]) l) S
theorem heldOf_len {σ τ : Type} [DecidableEq σ] [DecidableEq τ] (l : List (Int × Int × σ)) (m : List (Int × Int × τ)) : (heldOf l m).length ≤ l.length + m.length := by
  unfold heldOf
  rw [List.length_map]
  exact meets_len l m 0 0
theorem meets_isEmpty {α : Type} {l : List α} (h : l ≠ []) : l.isEmpty = false := by cases l <;> simp_all
theorem gathered_ok {l m : List Mo.Run} (h : Rise l) (g : Rise m) (h0 : ∀ r ∈ l, 0 ≤ r.1) (g0 : ∀ r ∈ m, 0 ≤ r.1) (hf : Fine l) (gf : Fine m) (hl : l.length ≤ 1000) (hm : m.length ≤ 1000) (S : Store) :
    ∃ S', m_p_gathered [.tup (l.map dN), .tup (m.map dN)] S = .ok (.tup ((gatherL ltr l m).map dN)) S' ∧ Keeps S S' := by
  have n1 := eqNt_nil l
  have n2 := eqNt_nil m
  have zc : l.length + m.length ≤ PySem.sizeLine := small_le (by omega)
  have zc' : (l.map dN).length + (m.map dN).length ≤ PySem.sizeLine := by rw [List.length_map, List.length_map]; exact zc
  have ec : ∀ S, gCatT (.tup (l.map dN)) (.tup (m.map dN)) S = .ok (.tup ((l ++ m).map dN)) S := fun S => by
    unfold gCatT
    dsimp only
    rw [if_pos zc', List.map_append]
  by_cases cl : l = []
  · refine ⟨S, ?_, Keeps.refl S⟩
    have n1' : ∀ S, gEqA (.tup (l.map dN)) (.tup []) S = .ok (.bl true) S := fun S => by rw [n1, cl]; rfl
    unfold m_p_gathered b_p_gathered gatherL
    rw [if_pos (.inl cl)]
    simp only [bind_ok_eq, bind_bad_eq, mVar_eq, mC_eq, m2_eq, mNil_eq, mPass_eq, mSeq_eq, mSet_eq, mRet_eq, mDrop_eq, mIf_eq, mB_eq, isB_eq, mAndT_eq, mOrT_eq, mNotT_eq, mAnd_eq, mOr_eq, mNot_eq, mIfE_eq, mChain_eq, aNil_eq, aCons_eq, mTup_eq, mDisp_eq, mLst_eq, mLoc_eq, mOwnL_eq, mCall_eq, mCallK_eq, mAsg_eq, mFor_eq, iSeq_eq, iSeqD_lst, iSeqD_tup, iLst_eq, seqD_lst, iLoc_eq, locD_eq, iScr_eq, scrD_eq, iRange1_eq, iRange2_eq, iEnumM_eq, mLc_eq, mYes_eq, mQ_eq, mQL_eq, mA_eq, mB1_eq, hLen_eq, hTup_eq, hList_eq, hAbs_eq, hInt_eq, hIntB_eq, hMax2_eq, hMin2_eq, gNeg_eq, gI_eq, gI0_eq, gIx_tup, gIx_lst, gIx_scr, gIx_loc, mSetC_eq, putC_eq, mApp_eq, mAppC_eq, qOwn_eq, gLen_tup, gLen_lst, gLen_scr, mDNewK_eq, mDGet2_eq, mDPut_eq, mDSet_eq, dictAt_eq, dictR_eq, keyD_int, keyD_str, mPar_eq, sNil_eq, sVal_eq, sOwnL_eq, setSl_nil, setSl_cons, setD_nil, setD_cons, pat_nm, pat_tp, pats_nil, pats_cons, wipeM_nil, wipeM_cons, forL_nil, lcL_nil, n2_eq, atI0, atI1, atI2, gNe_strs, gEq_strs, gNe_ints, gEq_ints, sz_1, sz_2, sz_3, sz_4, sz_5, sz_6, sz_7, sz_8, sz_9, sz_10, sz_11, sz_12, sz_13, sz_14, sz_15, sz_16, sz_17, sz_18, sz_19, sz_20, mLock_eq, nLock_eq, dictVar_eq, iKeysF_eq, keyV_inl, mRest_eq, restAt_eq, mExt_eq, iTup_eq, tupD_tup, mRetO_eq, gIsB_eq, gNotB_eq, gIsN_non, gIsN_int, gIsN_bl, gIsN_str, gIsN_tup, gIsN_lst, gIsN_loc, gNotN_non, gNotN_int, gNotN_bl, gNotN_str, gNotN_tup, gNotN_lst, gNotN_loc, iZip_eq, mAsg2_eq, mAug_eq, hSortedR_eq, mV_eq, mVL_eq, anyD_lst, anyD_tup, anyD_scr, anyD_loc, mIxO_eq, mSetO_eq, oNone_eq, oSome_eq, mSlT_eq, mSlQ_eq, mTruQ_eq, iRg1_eq, iRg2_eq, mNNew_eq, dictT_eq, mNGet1_eq, mNGet2_eq, gNGet_eq, gNIn_eq, putT_eq, setT_eq, mNPut_eq, mNSet_eq, mDGet1_eq, aStar_eq, mDCopy_eq, gDIn_eq, mIns_eq, mRevQ_eq, Nat.zero_le, Nat.zero_add, Nat.reduceAdd, and_self, mDef_eq, List.getElem?_cons_zero, List.getElem?_cons_succ, List.set, List.length_cons, List.length_nil, List.map_cons, List.map_nil, List.replicate, List.cons_append, List.nil_append, List.append_nil, if_true, if_false, ite_true, ite_false, Bool.false_eq_true, Bool.true_eq_false, Bool.not_true, Bool.not_false, List.zip_cons_cons, List.zip_nil_left, n1', n2, ec]
  by_cases cm : m = []
  · refine ⟨S, ?_, Keeps.refl S⟩
    have n1' : ∀ S, gEqA (.tup (l.map dN)) (.tup []) S = .ok (.bl false) S := fun S => by rw [n1, meets_isEmpty cl]
    have n2' : ∀ S, gEqA (.tup (m.map dN)) (.tup []) S = .ok (.bl true) S := fun S => by rw [n2, cm]; rfl
    unfold m_p_gathered b_p_gathered gatherL
    rw [if_pos (.inr cm)]
    simp only [bind_ok_eq, bind_bad_eq, mVar_eq, mC_eq, m2_eq, mNil_eq, mPass_eq, mSeq_eq, mSet_eq, mRet_eq, mDrop_eq, mIf_eq, mB_eq, isB_eq, mAndT_eq, mOrT_eq, mNotT_eq, mAnd_eq, mOr_eq, mNot_eq, mIfE_eq, mChain_eq, aNil_eq, aCons_eq, mTup_eq, mDisp_eq, mLst_eq, mLoc_eq, mOwnL_eq, mCall_eq, mCallK_eq, mAsg_eq, mFor_eq, iSeq_eq, iSeqD_lst, iSeqD_tup, iLst_eq, seqD_lst, iLoc_eq, locD_eq, iScr_eq, scrD_eq, iRange1_eq, iRange2_eq, iEnumM_eq, mLc_eq, mYes_eq, mQ_eq, mQL_eq, mA_eq, mB1_eq, hLen_eq, hTup_eq, hList_eq, hAbs_eq, hInt_eq, hIntB_eq, hMax2_eq, hMin2_eq, gNeg_eq, gI_eq, gI0_eq, gIx_tup, gIx_lst, gIx_scr, gIx_loc, mSetC_eq, putC_eq, mApp_eq, mAppC_eq, qOwn_eq, gLen_tup, gLen_lst, gLen_scr, mDNewK_eq, mDGet2_eq, mDPut_eq, mDSet_eq, dictAt_eq, dictR_eq, keyD_int, keyD_str, mPar_eq, sNil_eq, sVal_eq, sOwnL_eq, setSl_nil, setSl_cons, setD_nil, setD_cons, pat_nm, pat_tp, pats_nil, pats_cons, wipeM_nil, wipeM_cons, forL_nil, lcL_nil, n2_eq, atI0, atI1, atI2, gNe_strs, gEq_strs, gNe_ints, gEq_ints, sz_1, sz_2, sz_3, sz_4, sz_5, sz_6, sz_7, sz_8, sz_9, sz_10, sz_11, sz_12, sz_13, sz_14, sz_15, sz_16, sz_17, sz_18, sz_19, sz_20, mLock_eq, nLock_eq, dictVar_eq, iKeysF_eq, keyV_inl, mRest_eq, restAt_eq, mExt_eq, iTup_eq, tupD_tup, mRetO_eq, gIsB_eq, gNotB_eq, gIsN_non, gIsN_int, gIsN_bl, gIsN_str, gIsN_tup, gIsN_lst, gIsN_loc, gNotN_non, gNotN_int, gNotN_bl, gNotN_str, gNotN_tup, gNotN_lst, gNotN_loc, iZip_eq, mAsg2_eq, mAug_eq, hSortedR_eq, mV_eq, mVL_eq, anyD_lst, anyD_tup, anyD_scr, anyD_loc, mIxO_eq, mSetO_eq, oNone_eq, oSome_eq, mSlT_eq, mSlQ_eq, mTruQ_eq, iRg1_eq, iRg2_eq, mNNew_eq, dictT_eq, mNGet1_eq, mNGet2_eq, gNGet_eq, gNIn_eq, putT_eq, setT_eq, mNPut_eq, mNSet_eq, mDGet1_eq, aStar_eq, mDCopy_eq, gDIn_eq, mIns_eq, mRevQ_eq, Nat.zero_le, Nat.zero_add, Nat.reduceAdd, and_self, mDef_eq, List.getElem?_cons_zero, List.getElem?_cons_succ, List.set, List.length_cons, List.length_nil, List.map_cons, List.map_nil, List.replicate, List.cons_append, List.nil_append, List.append_nil, if_true, if_false, ite_true, ite_false, Bool.false_eq_true, Bool.true_eq_false, Bool.not_true, Bool.not_false, List.zip_cons_cons, List.zip_nil_left, n1', n2', ec]
  have n1' : ∀ S, gEqA (.tup (l.map dN)) (.tup []) S = .ok (.bl false) S := fun S => by rw [n1, meets_isEmpty cl]
  have n2' : ∀ S, gEqA (.tup (m.map dN)) (.tup []) S = .ok (.bl false) S := fun S => by rw [n2, meets_isEmpty cm]
  have e0 := overlaps_NN l m (by omega) (by omega)
  have n3 := fun S => eqM_nil (meets l m 0 0) S
  have hlen := meets_len l m 0 0
  by_cases cs : meets l m 0 0 = []
  · have n3' : ∀ S, gEqA (.lst ((meets l m 0 0).map dM)) (.lst []) S = .ok (.bl true) S := fun S => by rw [n3, cs]; rfl
    have d : ∀ p, rowAt l p = none ∨ rowAt m p = none := fun p => by
      have := rowAt_meets 0 0 h g p
      rw [cs] at this
      cases e1 : rowAt l p with
      | none => exact .inl rfl
      | some s =>
        cases e2 : rowAt m p with
        | none => exact .inr rfl
        | some t => rw [e1, e2] at this; cases this
    have ap := h.apart.app g.apart d
    have es := sortedB_N ap.firsts
    have ek := knittedN_ok (srt (l ++ m)) (by rw [(srt_perm _).length_eq, List.length_append]; omega)
    refine ⟨S, ?_, Keeps.refl S⟩
    unfold m_p_gathered b_p_gathered gatherL
    rw [if_neg (by rintro (z | z); exact cl z; exact cm z), if_pos cs]
    simp only [bind_ok_eq, bind_bad_eq, mVar_eq, mC_eq, m2_eq, mNil_eq, mPass_eq, mSeq_eq, mSet_eq, mRet_eq, mDrop_eq, mIf_eq, mB_eq, isB_eq, mAndT_eq, mOrT_eq, mNotT_eq, mAnd_eq, mOr_eq, mNot_eq, mIfE_eq, mChain_eq, aNil_eq, aCons_eq, mTup_eq, mDisp_eq, mLst_eq, mLoc_eq, mOwnL_eq, mCall_eq, mCallK_eq, mAsg_eq, mFor_eq, iSeq_eq, iSeqD_lst, iSeqD_tup, iLst_eq, seqD_lst, iLoc_eq, locD_eq, iScr_eq, scrD_eq, iRange1_eq, iRange2_eq, iEnumM_eq, mLc_eq, mYes_eq, mQ_eq, mQL_eq, mA_eq, mB1_eq, hLen_eq, hTup_eq, hList_eq, hAbs_eq, hInt_eq, hIntB_eq, hMax2_eq, hMin2_eq, gNeg_eq, gI_eq, gI0_eq, gIx_tup, gIx_lst, gIx_scr, gIx_loc, mSetC_eq, putC_eq, mApp_eq, mAppC_eq, qOwn_eq, gLen_tup, gLen_lst, gLen_scr, mDNewK_eq, mDGet2_eq, mDPut_eq, mDSet_eq, dictAt_eq, dictR_eq, keyD_int, keyD_str, mPar_eq, sNil_eq, sVal_eq, sOwnL_eq, setSl_nil, setSl_cons, setD_nil, setD_cons, pat_nm, pat_tp, pats_nil, pats_cons, wipeM_nil, wipeM_cons, forL_nil, lcL_nil, n2_eq, atI0, atI1, atI2, gNe_strs, gEq_strs, gNe_ints, gEq_ints, sz_1, sz_2, sz_3, sz_4, sz_5, sz_6, sz_7, sz_8, sz_9, sz_10, sz_11, sz_12, sz_13, sz_14, sz_15, sz_16, sz_17, sz_18, sz_19, sz_20, mLock_eq, nLock_eq, dictVar_eq, iKeysF_eq, keyV_inl, mRest_eq, restAt_eq, mExt_eq, iTup_eq, tupD_tup, mRetO_eq, gIsB_eq, gNotB_eq, gIsN_non, gIsN_int, gIsN_bl, gIsN_str, gIsN_tup, gIsN_lst, gIsN_loc, gNotN_non, gNotN_int, gNotN_bl, gNotN_str, gNotN_tup, gNotN_lst, gNotN_loc, iZip_eq, mAsg2_eq, mAug_eq, hSortedR_eq, mV_eq, mVL_eq, anyD_lst, anyD_tup, anyD_scr, anyD_loc, mIxO_eq, mSetO_eq, oNone_eq, oSome_eq, mSlT_eq, mSlQ_eq, mTruQ_eq, iRg1_eq, iRg2_eq, mNNew_eq, dictT_eq, mNGet1_eq, mNGet2_eq, gNGet_eq, gNIn_eq, putT_eq, setT_eq, mNPut_eq, mNSet_eq, mDGet1_eq, aStar_eq, mDCopy_eq, gDIn_eq, mIns_eq, mRevQ_eq, Nat.zero_le, Nat.zero_add, Nat.reduceAdd, and_self, mDef_eq, List.getElem?_cons_zero, List.getElem?_cons_succ, List.set, List.length_cons, List.length_nil, List.map_cons, List.map_nil, List.replicate, List.cons_append, List.nil_append, List.append_nil, if_true, if_false, ite_true, ite_false, Bool.false_eq_true, Bool.true_eq_false, Bool.not_true, Bool.not_false, List.zip_cons_cons, List.zip_nil_left, n1', n2', e0, n3', ec, es, ek]
  · have n3' : ∀ S, gEqA (.lst ((meets l m 0 0).map dM)) (.lst []) S = .ok (.bl false) S := fun S => by rw [n3, meets_isEmpty cs]
    obtain ⟨S1, e1, k1⟩ := lcL_mapS (p := .tp [.nm 7, .nm 8, .nm 9, .nm 10]) (me := e_p_gathered_1) (enc := dM) (f := fun e : Meet Slip Slip => dN (e.f, e.l, ltr e.a e.b)) (ρ := [some (.val (.tup (l.map dN))), some (.val (.tup (m.map dN))), some (.val (.lst ((meets l m 0 0).map dM))), none, none, none, none, none, none, none, none]) (meets l m 0 0) S (fun e he S => ⟨[(7, .int e.f), (8, .int e.l), (9, .int (e.i : Int)), (10, .int (e.j : Int))], laterS e.a e.b S, by simp [dM], by
      obtain ⟨i', j', a, b, h1, h2, h3, h4, h5, h6, h7, h8, h9⟩ := meets_mem he
      rw [Nat.zero_add] at h1 h3
      rw [← h1] at h2
      rw [← h3] at h4
      have fa := hf a (List.mem_of_getElem? h2)
      have fb := gf b (List.mem_of_getElem? h4)
      have ea := at_map dN h2
      have eb := at_map dN h4
      have ia : ∀ S, gIx (dN a) (.int 2) S = .ok (dS a.2.2) S := fun S => by simp [dN]
      have ib : ∀ S, gIx (dN b) (.int 2) S = .ok (dS b.2.2) S := fun S => by simp [dN]
      have el := laterF_ok a.2.2 b.2.2 fa.1 fb.1 fb.2 S
      unfold e_p_gathered_1
      rw [h8, h9]
      simp [ea, eb, ia, ib, el, dN, ltr], keeps_later _ _ _⟩)
    have el := lot_held_ok m (by omega)
    have el' := lot_held_ok l (by omega)
    have hk := lotOf_len l
    have hk' := lotOf_len m
    have ec1 := cut_ok l (lotOf m) (by omega) (by omega)
    have ec2 := cut_ok m (lotOf l) (by omega) (by omega)
    obtain ⟨ap, _⟩ := gatherL_apart ltr h g h0 g0
    have es := sorted_N ap.firsts
    have l1 := heldOf_len l (withoutL (lotOf l) (lotOf m))
    have l2 := heldOf_len m (withoutL (lotOf m) (lotOf l))
    have l3 := withoutL_len (lotOf l) (lotOf m)
    have l4 := withoutL_len (lotOf m) (lotOf l)
    have ek := knittedN_ok (srt (((meets l m 0 0).map fun e => (e.f, e.l, ltr e.a e.b)) ++ (heldOf l (withoutL (lotOf l) (lotOf m)) ++ heldOf m (withoutL (lotOf m) (lotOf l))))) (by rw [(srt_perm _).length_eq]; simp only [List.length_append, List.length_map]; omega)
    have em : ((meets l m 0 0).map fun e => dN (e.f, e.l, ltr e.a e.b)) = ((meets l m 0 0).map fun e => (e.f, e.l, ltr e.a e.b)).map dN := by rw [List.map_map]; rfl
    rw [em] at e1
    simp only [List.map_append] at es
    have z1 : (meets l m 0 0).length ≤ PySem.sizeLine := small_le (by omega)
    have z2 : (List.map dN (List.map (fun e => (e.f, e.l, ltr e.a e.b)) (meets l m 0 0)) ++ (List.map dN (heldOf l (withoutL (lotOf l) (lotOf m))) ++ List.map dN (heldOf m (withoutL (lotOf m) (lotOf l))))).length ≤ PySem.sizeLine := small_le (by simp only [List.length_append, List.length_map]; omega)
    refine ⟨S1, ?_, k1⟩
    unfold m_p_gathered b_p_gathered gatherL
    rw [if_neg (by rintro (z | z); exact cl z; exact cm z), if_neg cs]
    simp only [bind_ok_eq, bind_bad_eq, mVar_eq, mC_eq, m2_eq, mNil_eq, mPass_eq, mSeq_eq, mSet_eq, mRet_eq, mDrop_eq, mIf_eq, mB_eq, isB_eq, mAndT_eq, mOrT_eq, mNotT_eq, mAnd_eq, mOr_eq, mNot_eq, mIfE_eq, mChain_eq, aNil_eq, aCons_eq, mTup_eq, mDisp_eq, mLst_eq, mLoc_eq, mOwnL_eq, mCall_eq, mCallK_eq, mAsg_eq, mFor_eq, iSeq_eq, iSeqD_lst, iSeqD_tup, iLst_eq, seqD_lst, iLoc_eq, locD_eq, iScr_eq, scrD_eq, iRange1_eq, iRange2_eq, iEnumM_eq, mLc_eq, mYes_eq, mQ_eq, mQL_eq, mA_eq, mB1_eq, hLen_eq, hTup_eq, hList_eq, hAbs_eq, hInt_eq, hIntB_eq, hMax2_eq, hMin2_eq, gNeg_eq, gI_eq, gI0_eq, gIx_tup, gIx_lst, gIx_scr, gIx_loc, mSetC_eq, putC_eq, mApp_eq, mAppC_eq, qOwn_eq, gLen_tup, gLen_lst, gLen_scr, mDNewK_eq, mDGet2_eq, mDPut_eq, mDSet_eq, dictAt_eq, dictR_eq, keyD_int, keyD_str, mPar_eq, sNil_eq, sVal_eq, sOwnL_eq, setSl_nil, setSl_cons, setD_nil, setD_cons, pat_nm, pat_tp, pats_nil, pats_cons, wipeM_nil, wipeM_cons, forL_nil, lcL_nil, n2_eq, atI0, atI1, atI2, gNe_strs, gEq_strs, gNe_ints, gEq_ints, sz_1, sz_2, sz_3, sz_4, sz_5, sz_6, sz_7, sz_8, sz_9, sz_10, sz_11, sz_12, sz_13, sz_14, sz_15, sz_16, sz_17, sz_18, sz_19, sz_20, mLock_eq, nLock_eq, dictVar_eq, iKeysF_eq, keyV_inl, mRest_eq, restAt_eq, mExt_eq, iTup_eq, tupD_tup, mRetO_eq, gIsB_eq, gNotB_eq, gIsN_non, gIsN_int, gIsN_bl, gIsN_str, gIsN_tup, gIsN_lst, gIsN_loc, gNotN_non, gNotN_int, gNotN_bl, gNotN_str, gNotN_tup, gNotN_lst, gNotN_loc, iZip_eq, mAsg2_eq, mAug_eq, hSortedR_eq, mV_eq, mVL_eq, anyD_lst, anyD_tup, anyD_scr, anyD_loc, mIxO_eq, mSetO_eq, oNone_eq, oSome_eq, mSlT_eq, mSlQ_eq, mTruQ_eq, iRg1_eq, iRg2_eq, mNNew_eq, dictT_eq, mNGet1_eq, mNGet2_eq, gNGet_eq, gNIn_eq, putT_eq, setT_eq, mNPut_eq, mNSet_eq, mDGet1_eq, aStar_eq, mDCopy_eq, gDIn_eq, mIns_eq, mRevQ_eq, Nat.zero_le, Nat.zero_add, Nat.reduceAdd, and_self, mDef_eq, List.getElem?_cons_zero, List.getElem?_cons_succ, List.set, List.length_cons, List.length_nil, List.map_cons, List.map_nil, List.replicate, List.cons_append, List.nil_append, List.append_nil, if_true, if_false, ite_true, ite_false, Bool.false_eq_true, Bool.true_eq_false, Bool.not_true, Bool.not_false, List.zip_cons_cons, List.zip_nil_left, n1', n2', e0, n3', e1, List.length_map, z1, z2, el, el', ec1, ec2, es, ek]
    try rfl
end Pm
set_option maxRecDepth 100000
set_option maxHeartbeats 2000000
/-! lots: how many points; pieces between ends; points picked -/
namespace Mo
section
variable {σ τ : Type} [DecidableEq σ] [DecidableEq τ]
/-- how many points the rows have -/
def szL {σ : Type} (l : List (Int × Int × σ)) : Int := (l.map fun r => r.2.1 - r.1 + 1).sum
/-- how many of them below p -/
def cnt {σ : Type} : List (Int × Int × σ) → Int → Int
  | [], _ => 0
  | r :: l, p => max 0 (min (r.2.1 + 1) p - r.1) + cnt l p
theorem szL_cons (r : Int × Int × σ) (l : List (Int × Int × σ)) : szL (r :: l) = r.2.1 - r.1 + 1 + szL l := by simp [szL]
theorem szL_nil : szL ([] : List (Int × Int × σ)) = 0 := rfl
theorem cnt_pos {σ : Type} : ∀ (l : List (Int × Int × σ)) (p : Int), 0 ≤ cnt l p
  | [], _ => Int.le_refl _
  | r :: l, p => by have := cnt_pos l p; unfold cnt; omega
theorem cnt_low {σ : Type} {p : Int} : ∀ {l : List (Int × Int × σ)}, (∀ r ∈ l, p ≤ r.1) → cnt l p = 0
  | [], _ => rfl
  | r :: l, h => by
    have h1 := h r List.mem_cons_self
    have := cnt_low (p := p) (l := l) fun x hx => h x (List.mem_cons_of_mem _ hx)
    unfold cnt
    omega
theorem cnt_high {p : Int} : ∀ {l : List (Int × Int × σ)}, (∀ r ∈ l, r.1 ≤ r.2.1 ∧ r.2.1 < p) → cnt l p = szL l
  | [], _ => rfl
  | r :: l, h => by
    have h1 := h r List.mem_cons_self
    have := cnt_high (p := p) (l := l) fun x hx => h x (List.mem_cons_of_mem _ hx)
    rw [szL_cons]
    unfold cnt
    omega
theorem cnt_mono {σ : Type} {p q : Int} (h : p ≤ q) : ∀ l : List (Int × Int × σ), cnt l p ≤ cnt l q
  | [] => Int.le_refl _
  | r :: l => by have := cnt_mono h l; unfold cnt; omega
theorem cnt_step {p : Int} : ∀ {l : List (Int × Int × σ)}, Rise l → cnt l (p + 1) = cnt l p + if (rowAt l p).isSome = true then 1 else 0
  | [], _ => rfl
  | r :: l, h => by
    obtain ⟨h1, h2, h3⟩ := h.tail
    have ih := cnt_step (p := p) h1
    have hr : rowAt (r :: l) p = if r.1 ≤ p ∧ p ≤ r.2.1 then some r.2.2 else rowAt l p := rfl
    have u1 : cnt (r :: l) (p + 1) = max 0 (min (r.2.1 + 1) (p + 1) - r.1) + cnt l (p + 1) := rfl
    have u2 : cnt (r :: l) p = max 0 (min (r.2.1 + 1) p - r.1) + cnt l p := rfl
    rw [hr, u1, u2]
    by_cases c : p ≤ r.2.1
    · have e1 : cnt l p = 0 := cnt_low fun x hx => by have := h2 x hx; omega
      have e2 : cnt l (p + 1) = 0 := cnt_low fun x hx => by have := h2 x hx; omega
      have e3 : rowAt l p = none := rowAt_below (c := p) (fun x hx => by have := h2 x hx; omega) (Int.le_refl p)
      rw [e1, e2, e3]
      by_cases d : r.1 ≤ p
      · have z : (if r.1 ≤ p ∧ p ≤ r.2.1 then some r.2.2 else none : Option σ).isSome = true := by rw [if_pos ⟨d, c⟩]; rfl
        rw [if_pos z]; omega
      · have z : (if r.1 ≤ p ∧ p ≤ r.2.1 then some r.2.2 else none : Option σ).isSome = false := by rw [if_neg (fun q => d q.1)]; rfl
        rw [z, if_neg Bool.false_ne_true]; omega
    · have z : (if r.1 ≤ p ∧ p ≤ r.2.1 then some r.2.2 else rowAt l p) = rowAt l p := if_neg fun q => c q.2
      rw [z, ih]; omega
theorem cnt_upto {l : List (Int × Int × σ)} {m : List (Int × Int × τ)} (h : Rise l) (g : Rise m) (h0 : ∀ r ∈ l, 0 ≤ r.1) (g0 : ∀ r ∈ m, 0 ≤ r.1) : ∀ n : Nat, (∀ p : Int, 0 ≤ p → p < n → (rowAt l p).isSome = (rowAt m p).isSome) → cnt l n = cnt m n
  | 0, _ => by rw [show ((0 : Nat) : Int) = 0 from rfl, cnt_low h0, cnt_low g0]
  | n + 1, e => by
    have ih := cnt_upto h g h0 g0 n fun p a b => e p a (by omega)
    have e1 := e n (by omega) (by omega)
    rw [Int.natCast_add, Int.natCast_one, cnt_step h, cnt_step g, ih, e1]
theorem sz_eq {l : List (Int × Int × σ)} {m : List (Int × Int × τ)} (h : Rise l) (g : Rise m) (h0 : ∀ r ∈ l, 0 ≤ r.1) (g0 : ∀ r ∈ m, 0 ≤ r.1) (e : ∀ p, (rowAt l p).isSome = (rowAt m p).isSome) : szL l = szL m := by
  have a := cnt_upto h g h0 g0 ((max (endL l) (endL m)).toNat + 1) fun p _ _ => e p
  rw [cnt_high, cnt_high] at a
  · exact a
  · intro r hr; have := end_le g hr; exact ⟨g.2 r hr, by omega⟩
  · intro r hr; have := end_le h hr; exact ⟨h.2 r hr, by omega⟩
theorem cnt_le {l : List (Int × Int × σ)} (h : Rise l) (h0 : ∀ r ∈ l, 0 ≤ r.1) {p : Int} (hp : 0 ≤ p) : cnt l p ≤ p := by
  obtain ⟨n, rfl⟩ := Int.eq_ofNat_of_zero_le hp
  clear hp
  induction n with
  | zero => rw [show ((0 : Nat) : Int) = 0 from rfl, cnt_low h0]; exact Int.le_refl _
  | succ n ih =>
    rw [Int.natCast_add, Int.natCast_one, cnt_step h]
    split <;> omega
theorem sz_pos {l : List (Int × Int × σ)} (h : Rise l) : 0 ≤ szL l := by
  induction l with
  | nil => exact Int.le_refl _
  | cons r l ih => obtain ⟨h1, h2, h3⟩ := h.tail; have := ih h1; rw [szL_cons]; omega
theorem sz_len {l : List (Int × Int × σ)} (h : Rise l) : (l.length : Int) ≤ szL l := by
  induction l with
  | nil => exact Int.le_refl _
  | cons r l ih => obtain ⟨h1, h2, h3⟩ := h.tail; have := ih h1; rw [szL_cons, List.length_cons]; omega
/-! ### lots -/
abbrev Lot := List (Int × Int × Unit)
theorem unit_eq (x y : Option Unit) (h : x.isSome = y.isSome) : x = y := by
  cases x <;> cases y <;> simp_all
theorem lot_eq {l m : Lot} (h : Neat l) (g : Neat m) (e : ∀ p, (rowAt l p).isSome = (rowAt m p).isSome) : l = m := neat_eq h g fun p => unit_eq _ _ (e p)
theorem neat_two {l : Lot} (h : Neat l) {a b : Int × Int × Unit} (ha : a ∈ l) (hb : b ∈ l) {p q : Int} (h1 : a.1 ≤ p) (h2 : p ≤ a.2.1) (h3 : b.1 ≤ q) (h4 : q ≤ b.2.1) (h5 : q = p + 1) : a = b := by
  induction l with
  | nil => cases ha
  | cons r l ih =>
    obtain ⟨n1, n2, n3⟩ := h.tail
    rcases List.mem_cons.mp ha with u | u <;> rcases List.mem_cons.mp hb with v | v
    · rw [u, v]
    · have := n2 b v
      subst u
      exfalso
      apply this.2
      exact ⟨by omega, rfl⟩
    · have := n2 a u; subst v; omega
    · exact ih n1 u v
theorem common_ok {l : List (Int × Int × σ)} {m : List (Int × Int × τ)} (h : Rise l) (g : Rise m) : Rise (commonL l m) ∧ ∀ p, (rowAt (commonL l m) p).isSome = ((rowAt l p).isSome && (rowAt m p).isSome) := by
  obtain ⟨k1, k2⟩ := meets_on (fun _ _ => ()) h g 0 0
  refine ⟨k1, fun p => ?_⟩
  unfold commonL
  rw [k2]
  cases rowAt l p <;> cases rowAt m p <;> rfl
theorem common_neat {l m : Lot} (h : Neat l) (g : Neat m) : Neat (commonL l m) := by
  have k1 := (common_ok h.rise g.rise).1
  refine ⟨?_, k1.2⟩
  have key : ∀ x ∈ commonL l m, ∀ y ∈ commonL l m, x.2.1 + 1 = y.1 → x.1 = y.1 := fun x hx y hy e => by
    obtain ⟨e1, m1, r1⟩ := List.mem_map.mp hx
    obtain ⟨e2, m2, r2⟩ := List.mem_map.mp hy
    obtain ⟨a, ha, b, hb, f1, l1, w1, _⟩ := meets_mem2 m1
    obtain ⟨c, hc, d, hd, f2, l2, w2, _⟩ := meets_mem2 m2
    subst r1; subst r2
    dsimp only at e ⊢
    have q1 := neat_two h ha hc (p := e1.l) (q := e2.f) (by omega) (by omega) (by omega) (by omega) (by omega)
    have q2 := neat_two g hb hd (p := e1.l) (q := e2.f) (by omega) (by omega) (by omega) (by omega) (by omega)
    subst q1; subst q2
    omega
  refine k1.1.imp_of_mem fun {a b} ha hb lt => ⟨lt, fun z => ?_⟩
  have := key a ha b hb z.1
  have := k1.2 a ha
  omega
theorem gps_neat : ∀ {l : List (Int × Int × σ)} {b : Int} (e : Int), Rise l → (∀ r ∈ l, b ≤ r.1) → Neat (gps l b e) ∧ ∀ r ∈ gps l b e, b ≤ r.1
  | [], b, e, _, _ => by
    unfold gps
    split
    · rename_i c
      exact ⟨⟨List.pairwise_singleton _ _, fun a ha => by rw [List.mem_singleton.mp ha]; exact c⟩, fun a ha => by rw [List.mem_singleton.mp ha]; exact Int.le_refl _⟩
    · exact ⟨⟨.nil, fun _ h => nomatch h⟩, fun _ h => nomatch h⟩
  | r :: l, b, e, h, hb => by
    obtain ⟨h1, h2, h3⟩ := h.tail
    obtain ⟨i1, i2⟩ := gps_neat (l := l) (b := r.2.1 + 1) e h1 fun x hx => by have := h2 x hx; omega
    have hb1 := hb r List.mem_cons_self
    unfold gps
    by_cases c : b < r.1
    · rw [if_pos c]
      refine ⟨⟨List.pairwise_cons.mpr ⟨fun x hx => ?_, i1.1⟩, fun x hx => ?_⟩, fun x hx => ?_⟩
      · have := i2 x hx; exact ⟨by dsimp only; omega, fun z => by have := z.1; dsimp only at this; omega⟩
      · rcases List.mem_cons.mp hx with u | u
        · rw [u]; dsimp only; omega
        · exact i1.2 x u
      · rcases List.mem_cons.mp hx with u | u
        · rw [u]; exact Int.le_refl _
        · have := i2 x u; omega
    · rw [if_neg c]
      exact ⟨i1, fun x hx => by have := i2 x hx; omega⟩
theorem without_ok' {l m : Lot} (h : Neat l) (g : Rise m) (h0 : ∀ r ∈ l, 0 ≤ r.1) (g0 : ∀ r ∈ m, 0 ≤ r.1) : Neat (withoutL l m) ∧ ∀ p, (rowAt (withoutL l m) p).isSome = ((rowAt l p).isSome && !(rowAt m p).isSome) := by
  obtain ⟨k1, k2⟩ := withoutL_ok h.rise g h0 g0
  refine ⟨?_, fun p => ?_⟩
  · unfold withoutL
    split
    · exact ⟨.nil, fun _ h => nomatch h⟩
    · exact common_neat h (gps_neat _ g g0).1
  · rw [k2]
    cases rowAt m p <;> cases rowAt l p <;> rfl
def joinedL (l m : Lot) : Lot := if l = [] ∨ m = [] then l ++ m else knit (srt (l ++ withoutL m l))
theorem joined_apart {l m : Lot} (h : Neat l) (g : Neat m) (h0 : ∀ r ∈ l, 0 ≤ r.1) (g0 : ∀ r ∈ m, 0 ≤ r.1) : Apart (l ++ withoutL m l) := by
  obtain ⟨k1, k2⟩ := without_ok' g h.rise g0 h0
  refine h.rise.apart.app k1.rise.apart fun p => ?_
  have := k2 p
  cases e : rowAt l p with
  | none => exact .inl rfl
  | some s => rw [e] at this; exact .inr (by cases e2 : rowAt (withoutL m l) p with | none => rfl | some t => rw [e2] at this; simp at this)
theorem joined_ok {l m : Lot} (h : Neat l) (g : Neat m) (h0 : ∀ r ∈ l, 0 ≤ r.1) (g0 : ∀ r ∈ m, 0 ≤ r.1) : Neat (joinedL l m) ∧ ∀ p, (rowAt (joinedL l m) p).isSome = ((rowAt l p).isSome || (rowAt m p).isSome) := by
  unfold joinedL
  split
  · rename_i c
    rcases c with c | c
    · subst c; exact ⟨g, fun p => by rw [List.nil_append]; rfl⟩
    · subst c; rw [List.append_nil]; exact ⟨h, fun p => by rw [show rowAt ([] : Lot) p = none from rfl]; simp⟩
  · have ap := joined_apart h g h0 g0
    obtain ⟨k1, k2⟩ := without_ok' g h.rise g0 h0
    refine ⟨knit_neat (srt_rise ap), fun p => ?_⟩
    rw [rowAt_knit (srt_rise ap), rowAt_srt ap, rowAt_app]
    have := k2 p
    cases e1 : rowAt l p <;> cases e2 : rowAt m p <;> cases e3 : rowAt (withoutL m l) p <;> rw [e1, e2, e3] at this <;> simp_all
/-! ### points picked -/
def pickL : Lot → Int → Int → Lot
  | [], _, _ => []
  | r :: l, m, k => (if min (r.1 + k) (r.2.1 + 1) ≤ min r.2.1 (min (r.1 + k) (r.2.1 + 1) + m - 1) then [(min (r.1 + k) (r.2.1 + 1), min r.2.1 (min (r.1 + k) (r.2.1 + 1) + m - 1), ())] else []) ++
      pickL l (m - (min r.2.1 (min (r.1 + k) (r.2.1 + 1) + m - 1) - min (r.1 + k) (r.2.1 + 1) + 1)) (k - (min (r.1 + k) (r.2.1 + 1) - r.1))
theorem pick_len : ∀ (l : Lot) (m k : Int), (pickL l m k).length ≤ l.length
  | [], _, _ => Nat.le_refl _
  | r :: l, m, k => by
    unfold pickL
    rw [List.length_append, List.length_cons]
    have := pick_len l (m - (min r.2.1 (min (r.1 + k) (r.2.1 + 1) + m - 1) - min (r.1 + k) (r.2.1 + 1) + 1)) (k - (min (r.1 + k) (r.2.1 + 1) - r.1))
    split <;> simp <;> omega
/-- each picked row lies in a row -/
theorem pick_mem : ∀ {l : Lot} {m k : Int} {x : Int × Int × Unit}, (∀ r ∈ l, r.1 ≤ r.2.1) → 0 ≤ k → x ∈ pickL l m k → ∃ r ∈ l, r.1 ≤ x.1 ∧ x.1 ≤ x.2.1 ∧ x.2.1 ≤ r.2.1
  | [], _, _, _, _, _, h => nomatch h
  | r :: l, m, k, x, hl, hk, h => by
    have hr := hl r List.mem_cons_self
    unfold pickL at h
    rcases List.mem_append.mp h with u | u
    · split at u
      · rw [List.mem_singleton.mp u]
        exact ⟨r, List.mem_cons_self, by dsimp only; omega, by assumption, by dsimp only; omega⟩
      · cases u
    · obtain ⟨r', h1, h2⟩ := pick_mem (fun y hy => hl y (List.mem_cons_of_mem _ hy)) (by omega) u
      exact ⟨r', List.mem_cons_of_mem _ h1, h2⟩
theorem pick_neat : ∀ {l : Lot} (m k : Int), Neat l → 0 ≤ k → Neat (pickL l m k)
  | [], _, _, _, _ => ⟨.nil, fun _ h => nomatch h⟩
  | r :: l, m, k, h, hk => by
    obtain ⟨h1, h2, h3⟩ := h.tail
    have ih := pick_neat (l := l) (m - (min r.2.1 (min (r.1 + k) (r.2.1 + 1) + m - 1) - min (r.1 + k) (r.2.1 + 1) + 1)) (k - (min (r.1 + k) (r.2.1 + 1) - r.1)) h1 (by omega)
    unfold pickL
    split
    · rename_i c
      refine ⟨List.pairwise_cons.mpr ⟨fun x hx => ?_, ih.1⟩, fun x hx => ?_⟩
      · obtain ⟨r', u1, u2, u3, u4⟩ := pick_mem (fun y hy => h1.2 y hy) (by omega) hx
        have := h2 r' u1
        have n1 : ¬ r.2.1 + 1 = r'.1 := fun z => this.2 ⟨z, rfl⟩
        exact ⟨by dsimp only; omega, fun z => by have := z.1; dsimp only at this; omega⟩
      · rcases List.mem_cons.mp hx with u | u
        · rw [u]; exact c
        · exact ih.2 x u
    · exact ih
theorem pick_sz : ∀ {l : Lot} {m k : Int}, Rise l → 0 ≤ m → 0 ≤ k → szL (pickL l m k) = min m (max 0 (szL l - k))
  | [], m, k, _, hm, hk => by rw [szL_nil]; unfold pickL; rw [szL_nil]; omega
  | r :: l, m, k, h, hm, hk => by
    obtain ⟨h1, h2, h3⟩ := h.tail
    have ih := pick_sz (l := l) (m := m - (min r.2.1 (min (r.1 + k) (r.2.1 + 1) + m - 1) - min (r.1 + k) (r.2.1 + 1) + 1)) (k := k - (min (r.1 + k) (r.2.1 + 1) - r.1)) h1 (by omega) (by omega)
    have hp := sz_pos h1
    unfold pickL
    rw [szL_cons]
    split
    · rw [List.singleton_append, szL_cons, ih]; dsimp only; omega
    · rw [List.nil_append, ih]; omega
theorem pick_zero : ∀ {l : Lot} (k : Int), (∀ r ∈ l, r.1 ≤ r.2.1) → 0 ≤ k → pickL l 0 k = []
  | [], _, _, _ => rfl
  | r :: l, k, h, hk => by
    have h1 := h r List.mem_cons_self
    unfold pickL
    rw [if_neg (by omega), List.nil_append]
    rw [show (0 : Int) - (min r.2.1 (min (r.1 + k) (r.2.1 + 1) + 0 - 1) - min (r.1 + k) (r.2.1 + 1) + 1) = 0 by omega]
    exact pick_zero _ (fun x hx => h x (List.mem_cons_of_mem _ hx)) (by omega)
theorem pick_first : ∀ {l : Lot} {m k : Int} {t : Int × Int × Unit} {w : Lot}, Rise l → 0 ≤ m → 0 ≤ k → pickL l m k = t :: w → cnt l t.1 = k
  | [], _, _, _, _, _, _, _, e => by cases e
  | r :: l, m, k, t, w, h, hm, hk, e => by
    obtain ⟨h1, h2, h3⟩ := h.tail
    unfold pickL at e
    split at e
    · rename_i c
      rw [List.singleton_append] at e
      injection e with e1 e2
      rw [← e1]
      unfold cnt
      dsimp only
      rw [cnt_low fun x hx => by have := h2 x hx; omega]
      omega
    · rename_i c
      rw [List.nil_append] at e
      have ih := pick_first h1 (by omega) (by omega) e
      obtain ⟨r', u1, u2, u3, u4⟩ := pick_mem (fun y hy => h1.2 y hy) (by omega) (e ▸ List.mem_cons_self : t ∈ pickL l _ _)
      have hr := h2 r' u1
      by_cases d : k < r.2.1 - r.1 + 1
      · have m0 : m = 0 := by omega
        subst m0
        rw [show (0 : Int) - (min r.2.1 (min (r.1 + k) (r.2.1 + 1) + 0 - 1) - min (r.1 + k) (r.2.1 + 1) + 1) = 0 by omega, pick_zero _ (fun x hx => h1.2 x hx) (by omega)] at e
        cases e
      · rw [show cnt (r :: l) t.1 = max 0 (min (r.2.1 + 1) t.1 - r.1) + cnt l t.1 from rfl, ih]
        omega
theorem rowAt_pick : ∀ {l : Lot} {m k : Int}, Rise l → 0 ≤ m → 0 ≤ k → ∀ p, rowAt (pickL l m k) p = if k ≤ cnt l p ∧ cnt l p < k + m then rowAt l p else none
  | [], m, k, _, _, _, p => by unfold pickL; rw [rowAt]; split <;> rfl
  | r :: l, m, k, h, hm, hk, p => by
    obtain ⟨h1, h2, h3⟩ := h.tail
    have ih := rowAt_pick (l := l) (m := m - (min r.2.1 (min (r.1 + k) (r.2.1 + 1) + m - 1) - min (r.1 + k) (r.2.1 + 1) + 1)) (k := k - (min (r.1 + k) (r.2.1 + 1) - r.1)) h1 (by omega) (by omega) p
    have hc := cnt_pos l p
    unfold pickL
    rw [rowAt_app, ih]
    have hd : rowAt (if min (r.1 + k) (r.2.1 + 1) ≤ min r.2.1 (min (r.1 + k) (r.2.1 + 1) + m - 1) then [(min (r.1 + k) (r.2.1 + 1), min r.2.1 (min (r.1 + k) (r.2.1 + 1) + m - 1), ())] else []) p = if min (r.1 + k) (r.2.1 + 1) ≤ p ∧ p ≤ min r.2.1 (min (r.1 + k) (r.2.1 + 1) + m - 1) then some () else none := by
      split
      · rfl
      · rw [if_neg (by omega)]; rfl
    rw [hd]
    by_cases c : p ≤ r.2.1
    · have e1 : cnt l p = 0 := cnt_low fun x hx => by have := h2 x hx; omega
      have e3 : rowAt l p = none := rowAt_below (c := p) (fun x hx => by have := h2 x hx; omega) (Int.le_refl p)
      have e4 : cnt (r :: l) p = max 0 (min (r.2.1 + 1) p - r.1) := by rw [show cnt (r :: l) p = max 0 (min (r.2.1 + 1) p - r.1) + cnt l p from rfl, e1]; omega
      rw [e3, e4, rowAt, e3, ite_self]
      by_cases d : r.1 ≤ p
      · rw [if_pos (show r.1 ≤ p ∧ p ≤ r.2.1 from ⟨d, c⟩)]
        by_cases f : min (r.1 + k) (r.2.1 + 1) ≤ p ∧ p ≤ min r.2.1 (min (r.1 + k) (r.2.1 + 1) + m - 1)
        · rw [if_pos f, if_pos (by omega)]; rfl
        · rw [if_neg f, if_neg (by omega)]; rfl
      · rw [if_neg (show ¬ (r.1 ≤ p ∧ p ≤ r.2.1) from fun z => d z.1), if_neg (by omega), ite_self]; rfl
    · have e4 : cnt (r :: l) p = r.2.1 - r.1 + 1 + cnt l p := by rw [show cnt (r :: l) p = max 0 (min (r.2.1 + 1) p - r.1) + cnt l p from rfl]; omega
      rw [e4, rowAt, if_neg (show ¬ (r.1 ≤ p ∧ p ≤ r.2.1) from fun z => c z.2), if_neg (by omega)]
      by_cases f : k ≤ r.2.1 - r.1 + 1 + cnt l p ∧ r.2.1 - r.1 + 1 + cnt l p < k + m
      · rw [if_pos f, if_pos (by omega)]; rfl
      · rw [if_neg f, if_neg (by omega)]; rfl
/-- what is picked is all of the lot between its first and last point -/
theorem pick_between {l : Lot} {m k : Int} (h : Neat l) (hm : 0 ≤ m) (hk : 0 ≤ k) {t z : Int × Int × Unit} {w u : Lot} (e1 : pickL l m k = t :: w) (e2 : pickL l m k = u ++ [z]) : pickL l m k = commonL l [(t.1, z.2.1, ())] := by
  have n := pick_neat m k h hk
  have rp := rowAt_pick h.rise hm hk
  have tz : t.1 ≤ z.2.1 := by
    have a1 := n.rise
    have a2 := a1
    rw [e1] at a1
    have ht := a1.tail
    have hz : z ∈ t :: w := by rw [← e1, e2]; simp
    rcases List.mem_cons.mp hz with q | q
    · rw [q]; exact ht.2.2
    · have := ht.2.1 z q; have := a2.2 z (by rw [e2]; simp); omega
  have ns : Neat ([(t.1, z.2.1, ())] : Lot) := ⟨List.pairwise_singleton _ _, fun a ha => by rw [List.mem_singleton.mp ha]; exact tz⟩
  refine lot_eq n (common_neat h ns) fun p => ?_
  rw [(common_ok h.rise ns.rise).2]
  have f1 := pick_first h.rise hm hk e1
  have at_ : ∀ p, (rowAt (pickL l m k) p).isSome = true → t.1 ≤ p ∧ p ≤ z.2.1 := fun p hp => by
    cases e : rowAt (pickL l m k) p with
    | none => rw [e] at hp; cases hp
    | some s =>
      obtain ⟨r, hr, r1, r2, r3⟩ := rowAt_some e
      constructor
      · have a1 := n.rise
        rw [e1] at hr a1
        have ht := a1.tail
        rcases List.mem_cons.mp hr with q | q
        · rw [← q]; exact r1
        · have := ht.2.1 r q; omega
      · have a1 := n.rise
        rw [e2] at hr a1
        obtain ⟨_, i2, i3⟩ := a1.init
        rcases List.mem_append.mp hr with q | q
        · have := i2 r q; omega
        · rw [← List.mem_singleton.mp q]; exact r2
  have last : cnt l z.2.1 < k + m := by
    have hz : (rowAt (pickL l m k) z.2.1).isSome = true := by
      rw [rowAt_mem n.rise (r := z) (by rw [e2]; simp) (n.2 z (by rw [e2]; simp)) (Int.le_refl _)]; rfl
    rw [rp] at hz
    split at hz
    · rename_i c; exact c.2
    · cases hz
  have hs : (rowAt ([(t.1, z.2.1, ())] : Lot) p).isSome = decide (t.1 ≤ p ∧ p ≤ z.2.1) := by
    rw [rowAt]
    by_cases c : t.1 ≤ p ∧ p ≤ z.2.1
    · rw [if_pos c, decide_eq_true c]; rfl
    · rw [if_neg c, decide_eq_false c]; rfl
  rw [hs]
  by_cases c : t.1 ≤ p ∧ p ≤ z.2.1
  · rw [decide_eq_true c, Bool.and_true, rp]
    have c1 := cnt_mono c.1 l
    have c2 := cnt_mono c.2 l
    rw [if_pos ⟨by omega, by omega⟩]
  · rw [decide_eq_false c, Bool.and_false]
    cases e : (rowAt (pickL l m k) p).isSome with
    | false => rfl
    | true => exact absurd (at_ p e) c
/-- how many points are below c -/
theorem sz_below {l : Lot} (h : Rise l) (h0 : ∀ r ∈ l, 0 ≤ r.1) {c : Int} (hc : 0 < c) : szL (commonL l [((0 : Int), c - 1, ())]) = cnt l c := by
  have ns : Rise ([((0 : Int), c - 1, ())] : Lot) := ⟨List.pairwise_singleton _ _, fun a ha => by rw [List.mem_singleton.mp ha]; dsimp only; omega⟩
  obtain ⟨k1, k2⟩ := common_ok h ns
  have hin : ∀ r ∈ commonL l [((0 : Int), c - 1, ())], 0 ≤ r.1 ∧ r.1 ≤ r.2.1 ∧ r.2.1 < c := fun r hr => by
    obtain ⟨e1, m1, r1⟩ := List.mem_map.mp hr
    obtain ⟨a, ha, b, hb, f1, l1, w1, _⟩ := meets_mem2 m1
    rw [List.mem_singleton.mp hb] at f1 l1
    have := h0 a ha
    dsimp only at f1 l1
    rw [← r1]
    dsimp only
    omega
  rw [← cnt_high fun r hr => (hin r hr).2]
  have := cnt_upto k1 h (fun r hr => (hin r hr).1) h0 c.toNat fun p p0 p1 => by
    rw [k2, rowAt, if_pos (by dsimp only; omega)]; simp
  rw [Int.toNat_of_nonneg (by omega)] at this
  exact this
end
end Mo
set_option maxRecDepth 100000
set_option maxHeartbeats 2000000
/-! lots: the pieces between ends; the points one by one -/
namespace Mo
section
variable {σ τ : Type} [DecidableEq σ] [DecidableEq τ]
/-- what lies between neighbours -/
def pcs {β : Type} (f : Int → β) : List Int → List (Int × Int × β)
  | a :: b :: r => (a, b - 1, f a) :: pcs f (b :: r)
  | _ => []
theorem pcs_len {β : Type} (f : Int → β) : ∀ l : List Int, (pcs f l).length ≤ l.length
  | [] => by simp [pcs]
  | [a] => by simp [pcs]
  | a :: b :: r => by have := pcs_len f (b :: r); rw [pcs]; simp only [List.length_cons] at *; omega
theorem pcs_mem {β : Type} {f : Int → β} {x : Int × Int × β} : ∀ {l : List Int}, x ∈ pcs f l → ∃ pre a b suf, l = pre ++ a :: b :: suf ∧ x = (a, b - 1, f a)
  | [], h => by simp [pcs] at h
  | [a], h => by simp [pcs] at h
  | a :: b :: r, h => by
    rw [pcs] at h
    rcases List.mem_cons.mp h with e | e
    · exact ⟨[], a, b, r, rfl, e⟩
    · obtain ⟨pre, c, d, suf, e1, e2⟩ := pcs_mem e
      exact ⟨a :: pre, c, d, suf, by rw [e1]; rfl, e2⟩
theorem pcs_low {β : Type} {f : Int → β} : ∀ {l : List Int}, l.Pairwise (· < ·) → ∀ x ∈ pcs f l, x.1 ∈ l ∧ x.1 ≤ x.2.1 := fun {l} hl x hx => by
  obtain ⟨pre, a, b, suf, e1, e2⟩ := pcs_mem hx
  subst e2
  rw [e1] at hl ⊢
  have := (List.pairwise_append.mp hl).2.1
  have := (List.pairwise_cons.mp this).1 b (by simp)
  exact ⟨by simp, by dsimp only; omega⟩
theorem pcs_rise {f : Int → σ} : ∀ {l : List Int}, l.Pairwise (· < ·) → Rise (pcs f l)
  | [], _ => ⟨by simp [pcs], by simp [pcs]⟩
  | [a], _ => ⟨by simp [pcs], by simp [pcs]⟩
  | a :: b :: r, h => by
    rw [pcs]
    have h1 := (List.pairwise_cons.mp h)
    have hb := (List.pairwise_cons.mp h1.2)
    refine Rise.cons (pcs_rise h1.2) (fun x hx => ?_) (by have := h1.1 b (by simp); dsimp only; omega)
    have := (pcs_low h1.2 x hx).1
    rcases List.mem_cons.mp this with e | e
    · dsimp only; omega
    · have := hb.1 x.1 e; dsimp only; omega
theorem pcs_cover {β : Type} {f : Int → β} {p : Int} : ∀ {l : List Int}, l.Pairwise (· < ·) → ∀ x ∈ l, ∀ y ∈ l, x ≤ p → p < y → ∃ z ∈ pcs f l, z.1 ≤ p ∧ p ≤ z.2.1
  | [], _, x, hx, _, _, _, _ => nomatch hx
  | [a], _, x, hx, y, hy, h1, h2 => by
    rw [List.mem_singleton.mp hx] at h1
    rw [List.mem_singleton.mp hy] at h2
    omega
  | a :: b :: r, h, x, hx, y, hy, h1, h2 => by
    rw [pcs]
    have q := List.pairwise_cons.mp h
    have qb := List.pairwise_cons.mp q.2
    by_cases c : p < b
    · refine ⟨_, List.mem_cons_self, ?_, by dsimp only; omega⟩
      rcases List.mem_cons.mp hx with e | e
      · dsimp only; omega
      · have := q.1 x e; dsimp only; omega
    · have hy' : y ∈ b :: r := by
        rcases List.mem_cons.mp hy with e | e
        · have := q.1 b (by simp); omega
        · exact e
      obtain ⟨z, hz, z1, z2⟩ := pcs_cover (f := f) q.2 b (by simp) y hy' (by omega) h2
      exact ⟨z, List.mem_cons_of_mem _ hz, z1, z2⟩
/-- the ends of a lot are among the numbers -/
def EndsIn (l : List (Int × Int × σ)) (rows : List Int) : Prop := ∀ r ∈ l, r.1 ∈ rows ∧ r.2.1 + 1 ∈ rows
abbrev hasP {σ : Type} (l : List (Int × Int × σ)) (p : Int) : Bool := (rowAt l p).isSome
theorem hasP_iff {σ : Type} {l : List (Int × Int × σ)} {p : Int} : hasP l p = true ↔ ∃ r ∈ l, r.1 ≤ p ∧ p ≤ r.2.1 := by
  unfold hasP
  constructor
  · intro h
    cases e : rowAt l p with
    | none => rw [e] at h; cases h
    | some s => obtain ⟨r, hr, a, b, _⟩ := rowAt_some e; exact ⟨r, hr, a, b⟩
  · rintro ⟨r, hr, a, b⟩
    cases e : rowAt l p with
    | none => exact absurd ⟨a, b⟩ (rowAt_none.mp e r hr)
    | some s => rfl
theorem piece_has {β : Type} {f : Int → β} {l : List (Int × Int × σ)} {rows : List Int} (hp : rows.Pairwise (· < ·)) (he : EndsIn l rows) {x : Int × Int × β} (hx : x ∈ pcs f rows) {p : Int} (h1 : x.1 ≤ p) (h2 : p ≤ x.2.1) : hasP l p = hasP l x.1 := by
  obtain ⟨pre, a, b, suf, e1, e2⟩ := pcs_mem hx
  subst e2
  dsimp only at h1 h2 ⊢
  rw [e1, List.pairwise_append] at hp
  obtain ⟨p1, p2, p3⟩ := hp
  have q := List.pairwise_cons.mp p2
  have qb := List.pairwise_cons.mp q.2
  have between : ∀ y ∈ rows, ¬ (a < y ∧ y < b) := fun y hy z => by
    rw [e1] at hy
    rcases List.mem_append.mp hy with m | m
    · have := p3 y m a (by simp); omega
    · rcases List.mem_cons.mp m with m | m
      · omega
      · rcases List.mem_cons.mp m with m | m
        · omega
        · have := qb.1 y m; omega
  rw [Bool.eq_iff_iff, hasP_iff, hasP_iff]
  constructor
  · rintro ⟨r, hr, r1, r2⟩
    have := between r.1 (he r hr).1
    exact ⟨r, hr, by omega, by omega⟩
  · rintro ⟨r, hr, r1, r2⟩
    have := between (r.2.1 + 1) (he r hr).2
    exact ⟨r, hr, by omega, by omega⟩
def twoP (l m : Lot) (a : Int) : Bool × Bool := (hasP l a, hasP m a)
def selP (l m : Lot) (rows : List Int) (h : Bool × Bool → Bool) : Lot := ((pcs (twoP l m) rows).filter fun x => h x.2.2).map (onS fun _ => ())
theorem selP_ok {l m : Lot} {rows : List Int} (hp : rows.Pairwise (· < ·)) (he : EndsIn l rows) (hm : EndsIn m rows) (h : Bool × Bool → Bool) (hf : h (false, false) = false) :
    Rise (selP l m rows h) ∧ (∀ x ∈ selP l m rows h, x.1 ∈ rows) ∧ ∀ p, (rowAt (selP l m rows h) p).isSome = h (hasP l p, hasP m p) := by
  have r0 := pcs_rise (f := twoP l m) hp
  refine ⟨Rise.onS _ ⟨r0.1.filter _, fun a ha => r0.2 a (List.mem_filter.mp ha).1⟩, fun x hx => ?_, fun p => ?_⟩
  · obtain ⟨y, hy, e⟩ := List.mem_map.mp hx
    rw [← e]
    exact (pcs_low hp y (List.mem_filter.mp hy).1).1
  · show hasP _ p = _
    rw [Bool.eq_iff_iff, hasP_iff]
    have flags : ∀ x ∈ pcs (twoP l m) rows, x.1 ≤ p → p ≤ x.2.1 → x.2.2 = (hasP l p, hasP m p) := fun x hx a b => by
      obtain ⟨pre, c, d, suf, e1, e2⟩ := pcs_mem hx
      rw [piece_has hp he hx a b, piece_has hp hm hx a b, e2]
      rfl
    constructor
    · rintro ⟨r, hr, r1, r2⟩
      obtain ⟨y, hy, e⟩ := List.mem_map.mp hr
      obtain ⟨y1, y2⟩ := List.mem_filter.mp hy
      rw [← e] at r1 r2
      rw [← flags y y1 r1 r2]
      exact y2
    · intro hh
      have cov : ∃ z ∈ pcs (twoP l m) rows, z.1 ≤ p ∧ p ≤ z.2.1 := by
        by_cases c : hasP l p = true
        · obtain ⟨r, hr, r1, r2⟩ := hasP_iff.mp c
          exact pcs_cover hp r.1 (he r hr).1 (r.2.1 + 1) (he r hr).2 r1 (by omega)
        · by_cases d : hasP m p = true
          · obtain ⟨r, hr, r1, r2⟩ := hasP_iff.mp d
            exact pcs_cover hp r.1 (hm r hr).1 (r.2.1 + 1) (hm r hr).2 r1 (by omega)
          · rw [Bool.eq_false_iff.mpr c, Bool.eq_false_iff.mpr d, hf] at hh
            cases hh
      obtain ⟨z, hz, z1, z2⟩ := cov
      exact ⟨onS (fun _ => ()) z, List.mem_map.mpr ⟨z, List.mem_filter.mpr ⟨hz, by rw [flags z hz z1 z2]; exact hh⟩, rfl⟩, z1, z2⟩
/-! ### point by point -/
def ptsR (r : Int × Int × σ) : List Int := (List.range (r.2.1 - r.1 + 1).toNat).map fun k : Nat => r.1 + (k : Int)
def ptsL (l : List (Int × Int × σ)) : List Int := l.flatMap ptsR
theorem ptsR_mem {σ : Type} [DecidableEq σ] {r : Int × Int × σ} {p : Int} : p ∈ ptsR r ↔ r.1 ≤ p ∧ p ≤ r.2.1 := by
  unfold ptsR
  rw [List.mem_map]
  constructor
  · rintro ⟨k, hk, e⟩
    have := List.mem_range.mp hk
    omega
  · rintro ⟨a, b⟩
    exact ⟨(p - r.1).toNat, List.mem_range.mpr (by omega), by omega⟩
theorem ptsR_asc (r : Int × Int × σ) : (ptsR r).Pairwise (· < ·) := by
  unfold ptsR
  rw [List.pairwise_map]
  exact List.pairwise_lt_range.imp fun h => by omega
theorem ptsL_mem {l : List (Int × Int × σ)} {p : Int} : p ∈ ptsL l ↔ hasP l p = true := by
  unfold ptsL
  rw [List.mem_flatMap, hasP_iff]
  exact ⟨fun ⟨r, hr, h⟩ => ⟨r, hr, ptsR_mem.mp h⟩, fun ⟨r, hr, h⟩ => ⟨r, hr, ptsR_mem.mpr h⟩⟩
theorem ptsL_asc {l : List (Int × Int × σ)} (h : Rise l) : (ptsL l).Pairwise (· < ·) := by
  induction l with
  | nil => exact .nil
  | cons r l ih =>
    obtain ⟨h1, h2, h3⟩ := h.tail
    show (ptsR r ++ ptsL l).Pairwise _
    rw [List.pairwise_append]
    refine ⟨ptsR_asc r, ih h1, fun x hx y hy => ?_⟩
    have a := ptsR_mem.mp hx
    obtain ⟨r', hr', b⟩ := hasP_iff.mp (ptsL_mem.mp hy)
    have := h2 r' hr'
    omega
theorem ptsL_len {l : List (Int × Int × σ)} (h : Rise l) : ((ptsL l).length : Int) = szL l := by
  induction l with
  | nil => rfl
  | cons r l ih =>
    obtain ⟨h1, h2, h3⟩ := h.tail
    have e : (ptsL (r :: l)).length = (ptsR r).length + (ptsL l).length := by
      show (ptsR r ++ ptsL l).length = _
      rw [List.length_append]
    have e2 : (ptsR r).length = (r.2.1 - r.1 + 1).toNat := by unfold ptsR; rw [List.length_map, List.length_range]
    rw [e, szL_cons, Int.natCast_add, ih h1, e2]
    omega
def oneR (p : Int) : Int × Int × Unit := (p, p, ())
theorem ones_rise {ps : List Int} (h : ps.Pairwise (· < ·)) : Rise (ps.map oneR) :=
  ⟨by rw [List.pairwise_map]; exact h, fun a ha => by obtain ⟨p, _, e⟩ := List.mem_map.mp ha; rw [← e]; exact Int.le_refl _⟩
theorem ones_has {ps : List Int} {p : Int} : hasP (ps.map oneR) p = true ↔ p ∈ ps := by
  rw [hasP_iff]
  constructor
  · rintro ⟨r, hr, a, b⟩
    obtain ⟨q, hq, e⟩ := List.mem_map.mp hr
    rw [← e] at a b
    have : q = p := Int.le_antisymm a b
    rw [← this]; exact hq
  · intro h
    exact ⟨oneR p, List.mem_map.mpr ⟨p, h, rfl⟩, Int.le_refl _, Int.le_refl _⟩
theorem knit_ones {l : Lot} (h : Neat l) : knit ((ptsL l).map oneR) = l := by
  have r := ones_rise (ptsL_asc h.rise)
  refine lot_eq (knit_neat r) h fun p => ?_
  rw [rowAt_knit r]
  show hasP _ p = hasP _ p
  rw [Bool.eq_iff_iff, ones_has, ptsL_mem]
end
end Mo
set_option maxRecDepth 100000
set_option maxHeartbeats 4000000
namespace K02
open Mo L2 PySem Pm
/-! ### the pot -/
def Well (Z S : Store) (n : Nat) (b : Int) : Prop := (Z.length ≤ S.length ∧ ∀ i, i < Z.length → i ≠ n → S[i]? = Z[i]?) ∧ ∃ g m t, S[n]? = some (.lst [.int g, .int m, .int t]) ∧ 0 ≤ g ∧ 0 ≤ m ∧ m < 2 ^ 62 ∧ 0 ≤ t ∧ t ≤ b
theorem Well.lt {Z S : Store} {n : Nat} {b : Int} (h : Well Z S n b) : n < S.length := let ⟨_, _, _, _, e, _⟩ := h; lt_of_get e
theorem Well.mono {Z S : Store} {n : Nat} {b c : Int} (h : Well Z S n b) (hc : b ≤ c) : Well Z S n c := let ⟨z, g, m, t, e, h1, h2, h3, h4, h5⟩ := h; ⟨z, g, m, t, e, h1, h2, h3, h4, by omega⟩
theorem pick_run (S : Store) (n : Nat) (g m t k : Int) (hS : S[n]? = some (.lst [.int g, .int m, .int t])) (hg0 : 0 ≤ g) (hm0 : 0 ≤ m) (hm1 : m < 2 ^ 62) (ht0 : 0 ≤ t) (ht1 : t < 2 ^ 20) (hk0 : 0 < k) (hk1 : k < 2 ^ 50) :
    ∃ d g' m' t', m_l_pick [.loc n, .int k] S = .ok (.int d) (S.set n (.lst [.int g', .int m', .int t'])) ∧ 0 ≤ d ∧ d < k ∧ 0 ≤ g' ∧ 0 ≤ m' ∧ m' < 2 ^ 62 ∧ 0 ≤ t' ∧ t' ≤ t + 1 := by
  unfold m_l_pick b_l_pick
  by_cases hg : 0 < g
  · refine ⟨g % k, g / k, m, t, ?_, Int.emod_nonneg _ (by omega), Int.emod_lt_of_pos _ hk0, Int.ediv_nonneg hg0 (by omega), hm0, hm1, ht0, by omega⟩
    have c1 : cMod g k := hk0
    have c2 : cDiv g k := cDiv_nn hk0 (by omega)
    simp [mDef_eq, hS, hg, c1, c2, ixN]
  · have c1 : cMul 1442695040888963407 (t + 1) := cMul_nn (by omega) (by omega) (by omega) (by omega)
    have c2 : cMul m 6364136223846793005 := cMul_nn (by omega) (by omega) (by omega) (by omega)
    have c3 : ∀ x : Int, cMod x 2305843009213693951 := fun x => by unfold cMod; omega
    have c4 : ∀ x : Int, cMod x 1000003 := fun x => by unfold cMod; omega
    have c5 : cMul 7919 (t + 1) := cMul_nn (by omega) (by omega) (by omega) (by omega)
    have c6 : ∀ x : Int, cMul (x % 2305843009213693951) (x % 2305843009213693951 % 1000003 + 7919 * (t + 1)) := fun x => cMul_nn (by omega) (by omega) (by omega) (by omega)
    have c7 : ∀ x : Int, cMod x 2305843009213693921 := fun x => by unfold cMod; omega
    have c8 : ∀ x : Int, cDiv x 131071 := fun x => cDiv_nn (by omega) (by omega)
    have c9 : ∀ x : Int, cMod x k := fun x => hk0
    have hg' : (0 < g) = False := eq_false hg
    simp [mDef_eq, hS, hg', ixN, c1, c2, c3, c4, c5, c6, c7, c8, c9, List.getElem?_set_self']
    exact ⟨_, g, _, t + 1, ⟨rfl, rfl⟩, Int.emod_nonneg _ (by omega), Int.emod_lt_of_pos _ hk0, hg0, Int.emod_nonneg _ (by decide), by omega, by omega, by omega⟩
theorem pick_ok {Z S : Store} {n : Nat} {b k : Int} (h : Well Z S n b) (hb : b < 2 ^ 20) (hk0 : 0 < k) (hk1 : k < 2 ^ 50) : ∃ d S', m_l_pick [.loc n, .int k] S = .ok (.int d) S' ∧ 0 ≤ d ∧ d < k ∧ Well Z S' n (b + 1) := by
  have hl := h.lt
  obtain ⟨⟨z1, z2⟩, g, m, t, hS, h1, h2, h3, h4, h5⟩ := h
  obtain ⟨d, g', m', t', e, d0, d1, g0, m0, m1, t0, t1⟩ := pick_run S n g m t k hS h1 h2 h3 h4 (by omega) hk0 hk1
  exact ⟨d, _, e, d0, d1, ⟨by rw [List.length_set]; exact z1, fun i hi hn => by rw [List.getElem?_set_ne (Ne.symm hn)]; exact z2 i hi hn⟩, g', m', t', List.getElem?_set_self hl, g0, m0, m1, t0, by omega⟩
theorem pot_ok (ns : List Int) (k : Nat) (hk : k < 100) (S : Store) : ∃ S', m_l_pot [.scr ns, .int k] S = .ok (.loc S.length) S' ∧ Well S S' S.length 0 := by
  have hp : ∀ x : Int, cMod x 2305843009213693951 := fun x => by unfold cMod; omega
  have p1 : cPowW 10 60 := by decide +kernel
  have p2 : cPowW 10 18 := by decide +kernel
  have p3 : cPowW 10 30 := by decide +kernel
  have p4 : cPowW (10 ^ 60) 12 := by decide +kernel
  have e18 : (10 : Int) ^ (18 : Int).toNat = 10 ^ 18 := rfl
  have e30 : (10 : Int) ^ (30 : Int).toNat = 10 ^ 30 := rfl
  have e60 : (10 : Int) ^ (60 : Int).toNat = 10 ^ 60 := rfl
  have e12 : ((10 : Int) ^ 60) ^ (12 : Int).toNat = (10 ^ 60) ^ 12 := rfl
  generalize hX : ((10 : Int) ^ 60) = X at *
  have hX0 : 0 < X ^ 12 := by rw [← hX]; decide +kernel
  have hX1 : X ^ 12 < 2 ^ 2400 := by rw [← hX]; decide +kernel
  generalize hY : X ^ 12 = Y at *
  have big : ∀ x : Int, cMod x Y := fun x => hX0
  have bigm : ∀ x j : Int, (j = 0 ∨ j = 1) → cMul (x % Y) j := fun x j hj => by
    have a1 := Int.emod_nonneg x (show Y ≠ 0 by omega)
    have a2 := Int.emod_lt_of_pos x hX0
    have a := log2_le (k := 2400) a1 (Int.lt_trans a2 (Int.lt_trans hX1 (by decide +kernel)))
    have b : j.natAbs.log2 ≤ 1 := by rcases hj with rfl | rfl <;> decide
    unfold cMul
    omega
  have h30 : ∀ x : Int, 0 ≤ x % 10 ^ 30 ∧ x % 10 ^ 30 < 2 ^ 110 := fun x => ⟨Int.emod_nonneg x (by decide +kernel), Int.lt_trans (Int.emod_lt_of_pos x (by decide +kernel)) (by decide +kernel)⟩
  have m3 : ∀ x : Int, cMul (x % 10 ^ 30 + 7919 * k * k + 11) 1181783497276652981 := fun x => by
    have := h30 x
    have q : (7919 : Int) * k * k < 2 ^ 30 := by
      have : (7919 * (k : Int)) * k ≤ 7919 * (k : Int) * 100 := Int.mul_le_mul_of_nonneg_left (by omega) (by omega)
      omega
    have q0 : (0 : Int) ≤ 7919 * k * k := Int.mul_nonneg (by omega) (by omega)
    generalize (7919 : Int) * k * k = z at *
    generalize x % 10 ^ 30 = y at *
    exact cMul_nn (by omega) (by omega) (by omega) (by omega)
  have h30m : ∀ x : Int, cMod x (10 ^ 30) := fun x => by unfold cMod; decide +kernel
  have m4 : cMul 7919 k := cMul_nn (by omega) (by omega) (by omega) (by omega)
  have m5 : cMul (7919 * (k : Int)) k := cMul_nn (by omega) (by omega) (by omega) (by omega)
  have fin : ∀ (g m : Int), 0 ≤ g → 0 ≤ m → m < 2 ^ 62 → Well S (S ++ [.lst [.int g, .int m, .int 0]]) S.length 0 := fun g m h1 h2 h3 => ⟨⟨by rw [List.length_append]; omega, fun i hi _ => List.getElem?_append_left hi⟩, g, m, 0, List.getElem?_concat_length, h1, h2, h3, by omega, by omega⟩
  have z3 : 3 ≤ sizeLine := by decide
  have bits : ∀ (x : Int) (b : Bool), cMul (x % Y) (if b = true then 1 else 0) ∧ 0 ≤ x % Y * (if b = true then 1 else 0) := fun x b => by
    have a1 := Int.emod_nonneg x (show Y ≠ 0 by omega)
    cases b
    · exact ⟨bigm _ _ (.inl rfl), by simp⟩
    · exact ⟨bigm _ _ (.inr rfl), by simpa using a1⟩
  unfold m_l_pot b_l_pot
  by_cases hc : 0 < ns.length
  · have hcd : decide ((0 : Int) < ((ns.length : Nat) : Int)) = true := decide_eq_true (by omega)
    have hml : cMod (k : Int) (ns.length : Int) := by unfold cMod; omega
    have hkl : k % ns.length < ns.length := Nat.mod_lt _ hc
    have ea : atI ns ((k : Int) % (ns.length : Int)) = some ns[k % ns.length] := by
      rw [← Int.natCast_emod]; exact atI_nat (List.getElem?_eq_getElem hkl)
    obtain ⟨q1, q2⟩ := bits ns[k % ns.length] (decide (10 ^ 18 ≤ ns[k % ns.length]))
    simp only [bind_ok_eq, bind_bad_eq, mVar_eq, mC_eq, m2_eq, mNil_eq, mPass_eq, mSeq_eq, mSet_eq, mRet_eq, mDrop_eq, mIf_eq, mB_eq, isB_eq, mAndT_eq, mOrT_eq, mNotT_eq, mAnd_eq, mOr_eq, mNot_eq, mIfE_eq, mChain_eq, aNil_eq, aCons_eq, mTup_eq, mDisp_eq, mLst_eq, mLoc_eq, mOwnL_eq, mCall_eq, mCallK_eq, mAsg_eq, mFor_eq, iSeq_eq, iSeqD_lst, iSeqD_tup, iLst_eq, seqD_lst, iLoc_eq, locD_eq, iScr_eq, scrD_eq, iRange1_eq, iRange2_eq, iEnumM_eq, mLc_eq, mYes_eq, mQ_eq, mQL_eq, mA_eq, mB1_eq, hLen_eq, hTup_eq, hList_eq, hAbs_eq, hInt_eq, hIntB_eq, hMax2_eq, hMin2_eq, gNeg_eq, gI_eq, gI0_eq, gIx_tup, gIx_lst, gIx_scr, gIx_loc, mSetC_eq, putC_eq, mApp_eq, mAppC_eq, qOwn_eq, gLen_tup, gLen_lst, gLen_scr, mDNewK_eq, mDGet2_eq, mDPut_eq, mDSet_eq, dictAt_eq, dictR_eq, keyD_int, keyD_str, mPar_eq, sNil_eq, sVal_eq, sOwnL_eq, setSl_nil, setSl_cons, setD_nil, setD_cons, pat_nm, pat_tp, pats_nil, pats_cons, wipeM_nil, wipeM_cons, forL_nil, lcL_nil, n2_eq, atI0, atI1, atI2, gNe_strs, gEq_strs, gNe_ints, gEq_ints, sz_1, sz_2, sz_3, sz_4, sz_5, sz_6, sz_7, sz_8, sz_9, sz_10, sz_11, sz_12, sz_13, sz_14, sz_15, sz_16, sz_17, sz_18, sz_19, sz_20, mLock_eq, nLock_eq, dictVar_eq, iKeysF_eq, keyV_inl, mRest_eq, restAt_eq, mExt_eq, iTup_eq, tupD_tup, mRetO_eq, gIsB_eq, gNotB_eq, gIsN_non, gIsN_int, gIsN_bl, gIsN_str, gIsN_tup, gIsN_lst, gIsN_loc, gNotN_non, gNotN_int, gNotN_bl, gNotN_str, gNotN_tup, gNotN_lst, gNotN_loc, iZip_eq, mAsg2_eq, mAug_eq, hSortedR_eq, mV_eq, mVL_eq, anyD_lst, anyD_tup, anyD_scr, anyD_loc, mIxO_eq, mSetO_eq, oNone_eq, oSome_eq, mSlT_eq, mSlQ_eq, mTruQ_eq, iRg1_eq, iRg2_eq, mNNew_eq, dictT_eq, mNGet1_eq, mNGet2_eq, gNGet_eq, gNIn_eq, putT_eq, setT_eq, mNPut_eq, mNSet_eq, mDGet1_eq, aStar_eq, mDCopy_eq, gDIn_eq, mIns_eq, mRevQ_eq, mKeysL_eq, mItemsL_eq, mDPop_eq, mBad_eq, mAsgS_eq, mAsgSS_eq, hStrI_eq, gReprA_loc, gReprA_tup, gReprA_lst, gReprA_non, gReprA_bl, gReprA_int, gReprA_str, mRevT_eq, mUp_eq, mSeqX_eq, mIfX_eq, mRaise1_eq, mCallX_eq, mDropX_eq, mSetX_eq, mRetX_eq, mTryF_eq, mLc2_eq, hSortedDB_eq, mSortSet_eq, Nat.zero_le, Nat.zero_add, Nat.reduceAdd, and_self, mDef_eq, List.getElem?_cons_zero, List.getElem?_cons_succ, List.set, List.length_cons, List.length_nil, List.map_cons, List.map_nil, List.replicate, List.cons_append, List.nil_append, List.append_nil, if_true, if_false, ite_true, ite_false, Bool.false_eq_true, Bool.true_eq_false, Bool.not_true, Bool.not_false, List.zip_cons_cons, List.zip_nil_left, gLen_scr, gt_iff_lt, ge_iff_le, hcd, isB_eq, hml, ea, p1, p2, p3, p4, e18, e30, e60, hX, e12, hY, big, hp, h30m, m3, m4, m5, z3, q1]
    exact ⟨_, rfl, fin _ _ q2 (Int.emod_nonneg _ (by decide)) (by omega)⟩
  · have hcd : decide ((0 : Int) < ((ns.length : Nat) : Int)) = false := decide_eq_false (by omega)
    obtain ⟨q1, q2⟩ := bits 0 (decide ((10 : Int) ^ 18 ≤ 0))
    simp only [bind_ok_eq, bind_bad_eq, mVar_eq, mC_eq, m2_eq, mNil_eq, mPass_eq, mSeq_eq, mSet_eq, mRet_eq, mDrop_eq, mIf_eq, mB_eq, isB_eq, mAndT_eq, mOrT_eq, mNotT_eq, mAnd_eq, mOr_eq, mNot_eq, mIfE_eq, mChain_eq, aNil_eq, aCons_eq, mTup_eq, mDisp_eq, mLst_eq, mLoc_eq, mOwnL_eq, mCall_eq, mCallK_eq, mAsg_eq, mFor_eq, iSeq_eq, iSeqD_lst, iSeqD_tup, iLst_eq, seqD_lst, iLoc_eq, locD_eq, iScr_eq, scrD_eq, iRange1_eq, iRange2_eq, iEnumM_eq, mLc_eq, mYes_eq, mQ_eq, mQL_eq, mA_eq, mB1_eq, hLen_eq, hTup_eq, hList_eq, hAbs_eq, hInt_eq, hIntB_eq, hMax2_eq, hMin2_eq, gNeg_eq, gI_eq, gI0_eq, gIx_tup, gIx_lst, gIx_scr, gIx_loc, mSetC_eq, putC_eq, mApp_eq, mAppC_eq, qOwn_eq, gLen_tup, gLen_lst, gLen_scr, mDNewK_eq, mDGet2_eq, mDPut_eq, mDSet_eq, dictAt_eq, dictR_eq, keyD_int, keyD_str, mPar_eq, sNil_eq, sVal_eq, sOwnL_eq, setSl_nil, setSl_cons, setD_nil, setD_cons, pat_nm, pat_tp, pats_nil, pats_cons, wipeM_nil, wipeM_cons, forL_nil, lcL_nil, n2_eq, atI0, atI1, atI2, gNe_strs, gEq_strs, gNe_ints, gEq_ints, sz_1, sz_2, sz_3, sz_4, sz_5, sz_6, sz_7, sz_8, sz_9, sz_10, sz_11, sz_12, sz_13, sz_14, sz_15, sz_16, sz_17, sz_18, sz_19, sz_20, mLock_eq, nLock_eq, dictVar_eq, iKeysF_eq, keyV_inl, mRest_eq, restAt_eq, mExt_eq, iTup_eq, tupD_tup, mRetO_eq, gIsB_eq, gNotB_eq, gIsN_non, gIsN_int, gIsN_bl, gIsN_str, gIsN_tup, gIsN_lst, gIsN_loc, gNotN_non, gNotN_int, gNotN_bl, gNotN_str, gNotN_tup, gNotN_lst, gNotN_loc, iZip_eq, mAsg2_eq, mAug_eq, hSortedR_eq, mV_eq, mVL_eq, anyD_lst, anyD_tup, anyD_scr, anyD_loc, mIxO_eq, mSetO_eq, oNone_eq, oSome_eq, mSlT_eq, mSlQ_eq, mTruQ_eq, iRg1_eq, iRg2_eq, mNNew_eq, dictT_eq, mNGet1_eq, mNGet2_eq, gNGet_eq, gNIn_eq, putT_eq, setT_eq, mNPut_eq, mNSet_eq, mDGet1_eq, aStar_eq, mDCopy_eq, gDIn_eq, mIns_eq, mRevQ_eq, mKeysL_eq, mItemsL_eq, mDPop_eq, mBad_eq, mAsgS_eq, mAsgSS_eq, hStrI_eq, gReprA_loc, gReprA_tup, gReprA_lst, gReprA_non, gReprA_bl, gReprA_int, gReprA_str, mRevT_eq, mUp_eq, mSeqX_eq, mIfX_eq, mRaise1_eq, mCallX_eq, mDropX_eq, mSetX_eq, mRetX_eq, mTryF_eq, mLc2_eq, hSortedDB_eq, mSortSet_eq, Nat.zero_le, Nat.zero_add, Nat.reduceAdd, and_self, mDef_eq, List.getElem?_cons_zero, List.getElem?_cons_succ, List.set, List.length_cons, List.length_nil, List.map_cons, List.map_nil, List.replicate, List.cons_append, List.nil_append, List.append_nil, if_true, if_false, ite_true, ite_false, Bool.false_eq_true, Bool.true_eq_false, Bool.not_true, Bool.not_false, List.zip_cons_cons, List.zip_nil_left, gLen_scr, gt_iff_lt, ge_iff_le, hcd, isB_eq, p1, p2, p3, p4, e18, e30, e60, hX, e12, hY, big, hp, h30m, m3, m4, m5, z3, q1]
    exact ⟨_, rfl, fin _ _ q2 (Int.emod_nonneg _ (by decide)) (by omega)⟩
end K02
set_option maxRecDepth 100000
set_option maxHeartbeats 4000000
namespace K02
open Mo L2 PySem Pm
theorem eqPl_nil (l : List Pr) : eqD (.lst (l.map dP)) (.lst []) = some l.isEmpty :=
  eqD_nil (f := dP) (g := fun r : Pr => PyData.tuple [.int r.1, .int r.2.1]) (fun _ => rfl) (fun _ => by simp [PyData.canLay0, PyData.canLayAll0]) (fun _ => by simp [PyData.depth, PyData.depthAll]) l
/-- a lot as the law draws it -/
structure Good (l : Lot) (c : Nat) : Prop where
  neat : Neat l
  pos : ∀ r ∈ l, 0 ≤ r.1
  top : ∀ r ∈ l, r.2.1 < 2 ^ 41
  len : l.length ≤ c
theorem neat_snoc {A : Lot} {x : Int × Int × Unit} (h : Neat A) (h1 : ∀ a ∈ A, a.2.1 + 2 ≤ x.1) (h2 : x.1 ≤ x.2.1) : Neat (A ++ [x]) := by
  refine ⟨List.pairwise_append.mpr ⟨h.1, List.pairwise_singleton _ _, fun a ha b hb => ?_⟩, fun a ha => ?_⟩
  · rw [List.mem_singleton.mp hb]
    have := h1 a ha
    exact ⟨by omega, fun z => by have := z.1; omega⟩
  · rcases List.mem_append.mp ha with u | u
    · exact h.2 a u
    · rw [List.mem_singleton.mp u]; exact h2
theorem mul_bit {d e : Int} (h0 : 0 ≤ d) (h1 : d < 2) (h2 : 0 ≤ e) : 0 ≤ d * e ∧ d * e ≤ e := by
  have : d = 0 ∨ d = 1 := by omega
  rcases this with rfl | rfl
  · rw [Int.zero_mul]; omega
  · rw [Int.one_mul]; omega
theorem far_turn {Z S : Store} {n : Nat} {b : Int} (h : Well Z S n b) (hb : b < 2 ^ 19) {A : List Pr} {at_ : Int} {x3 : Option Slot} {x4 : Option Slot} (hA : A.length < 1000) :
    ∃ last at' S', b_l_far_lot_2 [some (.val (.loc n)), some (.own (.lst (A.map dP))), some (.val (.int at_)), x3, x4] S = .ok (.nx [some (.val (.loc n)), some (.own (.lst ((A ++ [(at_, last, ())]).map dP))), some (.val (.int at')), x3, some (.val (.int last))]) S' ∧
      at_ ≤ last ∧ last ≤ at_ + 4000000000 ∧ last + 2 ≤ at' ∧ at' ≤ last + 2 + 4000000000 ∧ Well Z S' n (b + 4) := by
  obtain ⟨d1, S1, e1, p1, q1, w1⟩ := pick_ok (k := 2) h (by omega) (by omega) (by omega)
  obtain ⟨d2, S2, e2, p2, q2, w2⟩ := pick_ok (k := 4000000000) w1 (by omega) (by omega) (by omega)
  obtain ⟨d3, S3, e3, p3, q3, w3⟩ := pick_ok (k := 2) w2 (by omega) (by omega) (by omega)
  obtain ⟨d4, S4, e4, p4, q4, w4⟩ := pick_ok (k := 4000000000) w3 (by omega) (by omega) (by omega)
  have c9 : cPowW 10 9 := by decide +kernel
  have t9 : (10 : Int) ^ (9 : Int).toNat = 1000000000 := by decide +kernel
  have c4 : cMul 4 1000000000 := cMul_nn (by omega) (by omega) (by omega) (by omega)
  have c12 : cMul d1 d2 := cMul_nn (by omega) (by omega) (by omega) (by omega)
  have c34 : cMul d3 d4 := cMul_nn (by omega) (by omega) (by omega) (by omega)
  have m12 := mul_bit p1 q1 p2
  have m34 := mul_bit p3 q3 p4
  have hz : A.length < PySem.sizeLine := small_lt (by omega)
  have t4 : (4 : Int) * 1000000000 = 4000000000 := rfl
  refine ⟨at_ + d1 * d2, at_ + d1 * d2 + 2 + d3 * d4, S4, ?_, by omega, by omega, by omega, by omega, w4.mono (by omega)⟩
  unfold b_l_far_lot_2
  simp only [bind_ok_eq, bind_bad_eq, mVar_eq, mC_eq, m2_eq, mNil_eq, mPass_eq, mSeq_eq, mSet_eq, mRet_eq, mDrop_eq, mIf_eq, mB_eq, isB_eq, mAndT_eq, mOrT_eq, mNotT_eq, mAnd_eq, mOr_eq, mNot_eq, mIfE_eq, mChain_eq, aNil_eq, aCons_eq, mTup_eq, mDisp_eq, mLst_eq, mLoc_eq, mOwnL_eq, mCall_eq, mCallK_eq, mAsg_eq, mFor_eq, iSeq_eq, iSeqD_lst, iSeqD_tup, iLst_eq, seqD_lst, iLoc_eq, locD_eq, iScr_eq, scrD_eq, iRange1_eq, iRange2_eq, iEnumM_eq, mLc_eq, mYes_eq, mQ_eq, mQL_eq, mA_eq, mB1_eq, hLen_eq, hTup_eq, hList_eq, hAbs_eq, hInt_eq, hIntB_eq, hMax2_eq, hMin2_eq, gNeg_eq, gI_eq, gI0_eq, gIx_tup, gIx_lst, gIx_scr, gIx_loc, mSetC_eq, putC_eq, mApp_eq, mAppC_eq, qOwn_eq, gLen_tup, gLen_lst, gLen_scr, mDNewK_eq, mDGet2_eq, mDPut_eq, mDSet_eq, dictAt_eq, dictR_eq, keyD_int, keyD_str, mPar_eq, sNil_eq, sVal_eq, sOwnL_eq, setSl_nil, setSl_cons, setD_nil, setD_cons, pat_nm, pat_tp, pats_nil, pats_cons, wipeM_nil, wipeM_cons, forL_nil, lcL_nil, n2_eq, atI0, atI1, atI2, gNe_strs, gEq_strs, gNe_ints, gEq_ints, sz_1, sz_2, sz_3, sz_4, sz_5, sz_6, sz_7, sz_8, sz_9, sz_10, sz_11, sz_12, sz_13, sz_14, sz_15, sz_16, sz_17, sz_18, sz_19, sz_20, mLock_eq, nLock_eq, dictVar_eq, iKeysF_eq, keyV_inl, mRest_eq, restAt_eq, mExt_eq, iTup_eq, tupD_tup, mRetO_eq, gIsB_eq, gNotB_eq, gIsN_non, gIsN_int, gIsN_bl, gIsN_str, gIsN_tup, gIsN_lst, gIsN_loc, gNotN_non, gNotN_int, gNotN_bl, gNotN_str, gNotN_tup, gNotN_lst, gNotN_loc, iZip_eq, mAsg2_eq, mAug_eq, hSortedR_eq, mV_eq, mVL_eq, anyD_lst, anyD_tup, anyD_scr, anyD_loc, mIxO_eq, mSetO_eq, oNone_eq, oSome_eq, mSlT_eq, mSlQ_eq, mTruQ_eq, iRg1_eq, iRg2_eq, mNNew_eq, dictT_eq, mNGet1_eq, mNGet2_eq, gNGet_eq, gNIn_eq, putT_eq, setT_eq, mNPut_eq, mNSet_eq, mDGet1_eq, aStar_eq, mDCopy_eq, gDIn_eq, mIns_eq, mRevQ_eq, mKeysL_eq, mItemsL_eq, mDPop_eq, mBad_eq, mAsgS_eq, mAsgSS_eq, hStrI_eq, gReprA_loc, gReprA_tup, gReprA_lst, gReprA_non, gReprA_bl, gReprA_int, gReprA_str, mRevT_eq, mUp_eq, mSeqX_eq, mIfX_eq, mRaise1_eq, mCallX_eq, mDropX_eq, mSetX_eq, mRetX_eq, mTryF_eq, mLc2_eq, hSortedDB_eq, mSortSet_eq, Nat.zero_le, Nat.zero_add, Nat.reduceAdd, and_self, mDef_eq, List.getElem?_cons_zero, List.getElem?_cons_succ, List.set, List.length_cons, List.length_nil, List.map_cons, List.map_nil, List.replicate, List.cons_append, List.nil_append, List.append_nil, if_true, if_false, ite_true, ite_false, Bool.false_eq_true, Bool.true_eq_false, Bool.not_true, Bool.not_false, List.zip_cons_cons, List.zip_nil_left, e1, e2, e3, e4, c9, t9, c4, t4, c12, c34, List.length_map, hz, List.map_append, dP]
theorem far_ok {Z S : Store} {n : Nat} {b : Int} (h : Well Z S n b) (hb : b < 2 ^ 18) : ∃ l S', m_l_far_lot [.loc n] S = .ok (.tup (l.map dP)) S' ∧ Good l 100 ∧ (∀ r ∈ l, r.2.1 < 2 ^ 40) ∧ Well Z S' n (b + 500) := by
  obtain ⟨d1, S1, e1, p1, q1, w1⟩ := pick_ok (k := 3) h (by omega) (by omega) (by omega)
  obtain ⟨d2, S2, e2, p2, q2, w2⟩ := pick_ok (k := 1000000000) w1 (by omega) (by omega) (by omega)
  obtain ⟨d3, S3, e3, p3, q3, w3⟩ := pick_ok (k := 101) w2 (by omega) (by omega) (by omega)
  have c9 : cPowW 10 9 := by decide +kernel
  have t9 : (10 : Int) ^ (9 : Int).toNat = 1000000000 := by decide +kernel
  have c12 : cMul d1 d2 := cMul_nn (by omega) (by omega) (by omega) (by omega)
  have b12 : 0 ≤ d1 * d2 ∧ d1 * d2 ≤ 2000000000 := by
    refine ⟨Int.mul_nonneg p1 p2, ?_⟩
    have : d1 * d2 ≤ 2 * d2 := Int.mul_le_mul_of_nonneg_right (by omega) p2
    omega
  have er : i_l_far_lot_1 [some (.val (.loc n)), some (.own (.lst [])), some (.val (.int (d1 * d2))), none, none] S2 = .ok ((List.range d3.toNat).map fun k : Nat => D.int (0 + (k : Nat))) S3 := by
    unfold i_l_far_lot_1
    exact iRange1_lit (j := d3) d3.toNat (by simp only [bind_ok_eq, bind_bad_eq, mVar_eq, mC_eq, m2_eq, mNil_eq, mPass_eq, mSeq_eq, mSet_eq, mRet_eq, mDrop_eq, mIf_eq, mB_eq, isB_eq, mAndT_eq, mOrT_eq, mNotT_eq, mAnd_eq, mOr_eq, mNot_eq, mIfE_eq, mChain_eq, aNil_eq, aCons_eq, mTup_eq, mDisp_eq, mLst_eq, mLoc_eq, mOwnL_eq, mCall_eq, mCallK_eq, mAsg_eq, mFor_eq, iSeq_eq, iSeqD_lst, iSeqD_tup, iLst_eq, seqD_lst, iLoc_eq, locD_eq, iScr_eq, scrD_eq, iEnumM_eq, mLc_eq, mYes_eq, mQ_eq, mQL_eq, mA_eq, mB1_eq, hLen_eq, hTup_eq, hList_eq, hAbs_eq, hInt_eq, hIntB_eq, gNeg_eq, gIx_tup, gIx_lst, gIx_scr, gIx_loc, mSetC_eq, putC_eq, mApp_eq, mAppC_eq, qOwn_eq, gLen_tup, gLen_lst, gLen_scr, mDNewK_eq, mDGet2_eq, mDPut_eq, mDSet_eq, dictAt_eq, dictR_eq, keyD_int, keyD_str, mPar_eq, sNil_eq, sVal_eq, sOwnL_eq, setSl_nil, setSl_cons, setD_nil, setD_cons, pat_nm, pat_tp, pats_nil, pats_cons, wipeM_nil, wipeM_cons, forL_nil, lcL_nil, n2_eq, atI0, atI1, atI2, gNe_strs, gEq_strs, gNe_ints, gEq_ints, sz_1, sz_2, sz_3, sz_4, sz_5, sz_6, sz_7, sz_8, sz_9, sz_10, sz_11, sz_12, sz_13, sz_14, sz_15, sz_16, sz_17, sz_18, sz_19, sz_20, mLock_eq, nLock_eq, dictVar_eq, iKeysF_eq, keyV_inl, mRest_eq, restAt_eq, mExt_eq, iTup_eq, tupD_tup, mRetO_eq, gIsB_eq, gNotB_eq, gIsN_non, gIsN_int, gIsN_bl, gIsN_str, gIsN_tup, gIsN_lst, gIsN_loc, gNotN_non, gNotN_int, gNotN_bl, gNotN_str, gNotN_tup, gNotN_lst, gNotN_loc, mAsg2_eq, mAug_eq, hSortedR_eq, mV_eq, mVL_eq, anyD_lst, anyD_tup, anyD_scr, anyD_loc, mIxO_eq, mSetO_eq, oNone_eq, oSome_eq, mSlT_eq, mSlQ_eq, mTruQ_eq, mNNew_eq, dictT_eq, mNGet1_eq, mNGet2_eq, gNGet_eq, gNIn_eq, putT_eq, setT_eq, mNPut_eq, mNSet_eq, mDGet1_eq, aStar_eq, mDCopy_eq, gDIn_eq, mIns_eq, mRevQ_eq, mKeysL_eq, mItemsL_eq, mDPop_eq, mBad_eq, mAsgS_eq, mAsgSS_eq, hStrI_eq, gReprA_loc, gReprA_tup, gReprA_lst, gReprA_non, gReprA_bl, gReprA_int, gReprA_str, mRevT_eq, mUp_eq, mSeqX_eq, mIfX_eq, mRaise1_eq, mCallX_eq, mDropX_eq, mSetX_eq, mRetX_eq, mTryF_eq, mLc2_eq, hSortedDB_eq, mSortSet_eq, Nat.zero_le, Nat.zero_add, Nat.reduceAdd, and_self, mDef_eq, List.getElem?_cons_zero, List.getElem?_cons_succ, List.set, List.length_cons, List.length_nil, List.map_cons, List.map_nil, List.replicate, List.cons_append, List.nil_append, List.append_nil, if_true, if_false, ite_true, ite_false, Bool.false_eq_true, Bool.true_eq_false, Bool.not_true, Bool.not_false, List.zip_cons_cons, List.zip_nil_left, e3]) (by omega) (by omega)
  obtain ⟨ρ', S', e, A, at_, x3, x4, rfl, i1, i2, i3, i4, i5, i6⟩ := forL_inv (p := .nm 3) (mb := b_l_far_lot_2) (enc := fun k : Nat => D.int (0 + (k : Nat))) (fun d ρ S' => ∃ (A : Lot) (at_ : Int) (x3 x4 : Option Slot), ρ = [some (.val (.loc n)), some (.own (.lst (A.map dP))), some (.val (.int at_)), x3, x4] ∧
      Neat A ∧ (∀ r ∈ A, 0 ≤ r.1 ∧ r.2.1 + 2 ≤ at_) ∧ 0 ≤ at_ ∧ at_ ≤ 2000000000 + d.length * 8000000002 ∧ A.length = d.length ∧ Well Z S' n (b + 3 + 4 * d.length)) (List.range d3.toNat) (ρ := [some (.val (.loc n)), some (.own (.lst [])), some (.val (.int (d1 * d2))), none, none]) (S := S3)
    ⟨[], d1 * d2, none, none, rfl, ⟨.nil, fun _ h => (nomatch h)⟩, (fun _ h => (nomatch h)), b12.1, by rw [List.length_nil]; omega, rfl, w3.mono (by rw [List.length_nil]; omega)⟩ (by
    rintro d x r ρ S e ⟨A, at_, x3, x4, rfl, i1, i2, i3, i4, i5, i6⟩
    have hd : d.length + 1 ≤ 100 := by
      have := congrArg List.length e
      rw [List.length_range, List.length_append, List.length_cons] at this
      omega
    obtain ⟨last, at', S', e', l1, l2, l3, l4, w'⟩ := far_turn i6 (by omega) (A := A) (at_ := at_) (x3 := some (.val (.int (0 + (x : Nat))))) (x4 := x4) (by omega)
    refine ⟨[(3, .int (0 + (x : Nat)))], _, S', by simp, .inl e', A ++ [(at_, last, ())], at', _, _, rfl, neat_snoc i1 (fun a ha => (i2 a ha).2) l1, fun r hr => ?_, by omega, ?_, ?_, w'.mono ?_⟩
    · rcases List.mem_append.mp hr with u | u
      · have := i2 r u; omega
      · rw [List.mem_singleton.mp u]; exact ⟨i3, l3⟩
    · rw [List.length_append, List.length_singleton]; omega
    · rw [List.length_append, List.length_append, i5]; rfl
    · rw [List.length_append, List.length_singleton]; omega)
  rw [List.length_range] at i4 i5 i6
  refine ⟨A, S', ?_, ⟨i1, fun r hr => (i2 r hr).1, fun r hr => ?_, by omega⟩, fun r hr => ?_, i6.mono (by omega)⟩
  · have hz : A.length ≤ PySem.sizeLine := small_le (by omega)
    have z0 : (0 : Nat) ≤ PySem.sizeLine := Nat.zero_le _
    unfold m_l_far_lot b_l_far_lot
    simp only [bind_ok_eq, bind_bad_eq, mVar_eq, mC_eq, m2_eq, mNil_eq, mPass_eq, mSeq_eq, mSet_eq, mRet_eq, mDrop_eq, mIf_eq, mB_eq, isB_eq, mAndT_eq, mOrT_eq, mNotT_eq, mAnd_eq, mOr_eq, mNot_eq, mIfE_eq, mChain_eq, aNil_eq, aCons_eq, mTup_eq, mDisp_eq, mLst_eq, mLoc_eq, mOwnL_eq, mCall_eq, mCallK_eq, mAsg_eq, mFor_eq, iSeq_eq, iSeqD_lst, iSeqD_tup, iLst_eq, seqD_lst, iLoc_eq, locD_eq, iScr_eq, scrD_eq, iRange1_eq, iRange2_eq, iEnumM_eq, mLc_eq, mYes_eq, mQ_eq, mQL_eq, mA_eq, mB1_eq, hLen_eq, hTup_eq, hList_eq, hAbs_eq, hInt_eq, hIntB_eq, hMax2_eq, hMin2_eq, gNeg_eq, gI_eq, gI0_eq, gIx_tup, gIx_lst, gIx_scr, gIx_loc, mSetC_eq, putC_eq, mApp_eq, mAppC_eq, qOwn_eq, gLen_tup, gLen_lst, gLen_scr, mDNewK_eq, mDGet2_eq, mDPut_eq, mDSet_eq, dictAt_eq, dictR_eq, keyD_int, keyD_str, mPar_eq, sNil_eq, sVal_eq, sOwnL_eq, setSl_nil, setSl_cons, setD_nil, setD_cons, pat_nm, pat_tp, pats_nil, pats_cons, wipeM_nil, wipeM_cons, forL_nil, lcL_nil, n2_eq, atI0, atI1, atI2, gNe_strs, gEq_strs, gNe_ints, gEq_ints, sz_1, sz_2, sz_3, sz_4, sz_5, sz_6, sz_7, sz_8, sz_9, sz_10, sz_11, sz_12, sz_13, sz_14, sz_15, sz_16, sz_17, sz_18, sz_19, sz_20, mLock_eq, nLock_eq, dictVar_eq, iKeysF_eq, keyV_inl, mRest_eq, restAt_eq, mExt_eq, iTup_eq, tupD_tup, mRetO_eq, gIsB_eq, gNotB_eq, gIsN_non, gIsN_int, gIsN_bl, gIsN_str, gIsN_tup, gIsN_lst, gIsN_loc, gNotN_non, gNotN_int, gNotN_bl, gNotN_str, gNotN_tup, gNotN_lst, gNotN_loc, iZip_eq, mAsg2_eq, mAug_eq, hSortedR_eq, mV_eq, mVL_eq, anyD_lst, anyD_tup, anyD_scr, anyD_loc, mIxO_eq, mSetO_eq, oNone_eq, oSome_eq, mSlT_eq, mSlQ_eq, mTruQ_eq, iRg1_eq, iRg2_eq, mNNew_eq, dictT_eq, mNGet1_eq, mNGet2_eq, gNGet_eq, gNIn_eq, putT_eq, setT_eq, mNPut_eq, mNSet_eq, mDGet1_eq, aStar_eq, mDCopy_eq, gDIn_eq, mIns_eq, mRevQ_eq, mKeysL_eq, mItemsL_eq, mDPop_eq, mBad_eq, mAsgS_eq, mAsgSS_eq, hStrI_eq, gReprA_loc, gReprA_tup, gReprA_lst, gReprA_non, gReprA_bl, gReprA_int, gReprA_str, mRevT_eq, mUp_eq, mSeqX_eq, mIfX_eq, mRaise1_eq, mCallX_eq, mDropX_eq, mSetX_eq, mRetX_eq, mTryF_eq, mLc2_eq, hSortedDB_eq, mSortSet_eq, Nat.zero_le, Nat.zero_add, Nat.reduceAdd, and_self, mDef_eq, List.getElem?_cons_zero, List.getElem?_cons_succ, List.set, List.length_cons, List.length_nil, List.map_cons, List.map_nil, List.replicate, List.cons_append, List.nil_append, List.append_nil, if_true, if_false, ite_true, ite_false, Bool.false_eq_true, Bool.true_eq_false, Bool.not_true, Bool.not_false, List.zip_cons_cons, List.zip_nil_left, e1, e2, c9, t9, c12, er, e, List.length_map, hz, z0]
  · have := (i2 r hr).2
    omega
  · have := (i2 r hr).2
    omega
/-! ### a lot near another -/
def freeOf (F : Lot) : Int := match F.getLast? with
  | none => 0
  | some r => r.2.1 + 2
theorem beside_turn {Z S : Store} {n : Nat} {b : Int} (h : Well Z S n b) (hb : b < 2 ^ 19) {F : Lot} {r : Int × Int × Unit} {x1 x5 x6 x7 : Option Slot} (hF : F.length < 1000) :
    ∃ f l y5 y6 y7 F' S', b_l_beside_1 [some (.val (.loc n)), x1, some (.own (.lst (F.map dP))), some (.val (.int r.1)), some (.val (.int r.2.1)), x5, x6, x7] S = .ok (.nx [some (.val (.loc n)), x1, some (.own (.lst (F'.map dP))), some (.val (.int r.1)), some (.val (.int r.2.1)), y5, y6, y7]) S' ∧
      (F' = F ∨ F' = F ++ [(f, l, ())] ∧ freeOf F ≤ f ∧ f ≤ l ∧ l ≤ r.2.1 + 1) ∧ Well Z S' n (b + 3) := by
  obtain ⟨d1, S1, e1, p1, q1, w1⟩ := pick_ok (k := 3) h (by omega) (by omega) (by omega)
  obtain ⟨d2, S2, e2, p2, q2, w2⟩ := pick_ok (k := 3) w1 (by omega) (by omega) (by omega)
  obtain ⟨d3, S3, e3, p3, q3, w3⟩ := pick_ok (k := 6) w2 (by omega) (by omega) (by omega)
  have hz : F.length < PySem.sizeLine := small_lt (by omega)
  have z0 : (0 : Nat) ≤ PySem.sizeLine := Nat.zero_le _
  have key : ∀ m : Int, m = (if r.1 + d1 - 1 < freeOf F then freeOf F else r.1 + d1 - 1) → ∃ (f l : Int) (F' : Lot) (S' : Store), (F' = F ∨ F' = F ++ [(f, l, ())] ∧ freeOf F ≤ f ∧ f ≤ l ∧ l ≤ r.2.1 + 1) ∧ Well Z S' n (b + 3) ∧
      (if m ≤ r.2.1 + d2 - 1 then (if 0 < d3 then F' = F ++ [(m, r.2.1 + d2 - 1, ())] ∧ S' = S3 else F' = F ∧ S' = S3) else F' = F ∧ S' = S2) := fun m hm => by
    by_cases c : m ≤ r.2.1 + d2 - 1
    · by_cases d : 0 < d3
      · exact ⟨m, r.2.1 + d2 - 1, F ++ [(m, r.2.1 + d2 - 1, ())], S3, .inr ⟨rfl, by rw [hm]; split <;> omega, c, by omega⟩, w3.mono (by omega), by rw [if_pos c, if_pos d]; exact ⟨rfl, rfl⟩⟩
      · exact ⟨0, 0, F, S3, .inl rfl, w3.mono (by omega), by rw [if_pos c, if_neg d]; exact ⟨rfl, rfl⟩⟩
    · exact ⟨0, 0, F, S2, .inl rfl, w2.mono (by omega), by rw [if_neg c]; exact ⟨rfl, rfl⟩⟩
  obtain ⟨f, l, F', S', hF', hw, hc⟩ := key _ rfl
  refine ⟨f, l, some (.val (.int (r.1 + d1 - 1))), some (.val (.int (r.2.1 + d2 - 1))), some (.val (.int (freeOf F))), F', S', ?_, hF', hw⟩
  have hdP : ∀ r : Pr, dP r = .tup [.int r.1, .int r.2.1] := fun _ => rfl
  rcases snoc_cases F with eF | ⟨B, x, eF⟩
  · subst eF
    have en : eqD (.lst []) (.lst []) = some true := eqPl_nil []
    have ef : freeOf [] = 0 := rfl
    rw [ef] at hc ⊢
    have z1 : 0 < PySem.sizeLine := by decide
    unfold b_l_beside_1
    by_cases c : (if r.1 + d1 - 1 < 0 then 0 else r.1 + d1 - 1) ≤ r.2.1 + d2 - 1
    · rw [if_pos c] at hc
      by_cases d : 0 < d3
      · rw [if_pos d] at hc
        obtain ⟨rfl, rfl⟩ := hc
        simp [mEqO, z0, z1, en, e1, e2, e3, c, d, hdP]
      · rw [if_neg d] at hc
        obtain ⟨rfl, rfl⟩ := hc
        have d' : (0 < d3) = False := eq_false d
        simp [mEqO, z0, z1, en, e1, e2, e3, c, d', hdP]
    · rw [if_neg c] at hc
      obtain ⟨rfl, rfl⟩ := hc
      have c' : ((if r.1 + d1 - 1 < 0 then 0 else r.1 + d1 - 1) ≤ r.2.1 + d2 - 1) = False := eq_false c
      simp [mEqO, z0, z1, en, e1, e2, c', hdP]
  · have en : eqD (.lst (B.map dP ++ [D.tup [.int x.1, .int x.2.1]])) (.lst []) = some false := by
      have := eqPl_nil (B ++ [x])
      rw [List.map_append, List.map_singleton] at this
      rw [hdP] at this
      rw [this]; simp
    have ef : freeOf F = x.2.1 + 2 := by rw [eF]; unfold freeOf; rw [List.getLast?_concat]
    rw [ef] at hc ⊢
    have hz2 : B.length + 1 < PySem.sizeLine := by rw [eF] at hz; simpa using hz
    subst eF
    unfold b_l_beside_1
    rw [List.map_append, List.map_singleton]
    by_cases c : (if r.1 + d1 - 1 < x.2.1 + 2 then x.2.1 + 2 else r.1 + d1 - 1) ≤ r.2.1 + d2 - 1
    · rw [if_pos c] at hc
      by_cases d : 0 < d3
      · rw [if_pos d] at hc
        obtain ⟨rfl, rfl⟩ := hc
        simp [mEqO, mIxO, z0, hz2, en, e1, e2, e3, c, d, hdP, at_last]
      · rw [if_neg d] at hc
        obtain ⟨rfl, rfl⟩ := hc
        have d' : (0 < d3) = False := eq_false d
        simp [mEqO, mIxO, z0, hz2, en, e1, e2, e3, c, d', hdP, at_last]
    · rw [if_neg c] at hc
      obtain ⟨rfl, rfl⟩ := hc
      have c' : ((if r.1 + d1 - 1 < x.2.1 + 2 then x.2.1 + 2 else r.1 + d1 - 1) ≤ r.2.1 + d2 - 1) = False := eq_false c
      simp [mEqO, mIxO, z0, hz2, en, e1, e2, c', hdP, at_last]
theorem beside_ok {Z S : Store} {n : Nat} {b : Int} (h : Well Z S n b) (hb : b < 2 ^ 18) {l : Lot} (g : Good l 100) (gt : ∀ r ∈ l, r.2.1 < 2 ^ 40) : ∃ l' S', m_l_beside [.loc n, .tup (l.map dP)] S = .ok (.tup (l'.map dP)) S' ∧ Good l' 100 ∧ Well Z S' n (b + 500) := by
  have hlen := g.len
  obtain ⟨ρ', S', e, F, x3, x4, x5, x6, x7, rfl, i1, i2, i3, i4⟩ := forL_inv (p := .tp [.nm 3, .nm 4]) (mb := b_l_beside_1) (enc := dP) (fun d ρ S' => ∃ (F : Lot) (x3 x4 x5 x6 x7 : Option Slot), ρ = [some (.val (.loc n)), some (.val (.tup (l.map dP))), some (.own (.lst (F.map dP))), x3, x4, x5, x6, x7] ∧
      Neat F ∧ (∀ r ∈ F, 0 ≤ r.1 ∧ r.2.1 < 2 ^ 41) ∧ F.length ≤ d.length ∧ Well Z S' n (b + 3 * d.length)) l (ρ := [some (.val (.loc n)), some (.val (.tup (l.map dP))), some (.own (.lst [])), none, none, none, none, none]) (S := S)
    ⟨[], none, none, none, none, none, rfl, ⟨.nil, fun _ h => (nomatch h)⟩, (fun _ h => (nomatch h)), Nat.le_refl _, h.mono (by rw [List.length_nil]; omega)⟩ (by
    rintro d x r ρ S e ⟨F, x3, x4, x5, x6, x7, rfl, i1, i2, i3, i4⟩
    have hd : d.length + 1 ≤ 100 := by
      have := congrArg List.length e
      rw [List.length_append, List.length_cons] at this
      omega
    obtain ⟨f, l', y5, y6, y7, F', S', e', hF, w'⟩ := beside_turn i4 (by omega) (F := F) (r := x) (x1 := some (.val (.tup (l.map dP)))) (x5 := x5) (x6 := x6) (x7 := x7) (by omega)
    refine ⟨[(3, .int x.1), (4, .int x.2.1)], _, S', by simp [dP], .inl e', F', _, _, y5, y6, y7, rfl, ?_, ?_, ?_, w'.mono (by rw [List.length_append, List.length_singleton]; omega)⟩
    · rcases hF with rfl | ⟨rfl, h1, h2, h3⟩
      · exact i1
      · refine neat_snoc i1 (fun a ha => ?_) h2
        dsimp only
        rcases snoc_cases F with c | ⟨B, y, c⟩
        · rw [c] at ha; cases ha
        · have ef : freeOf F = y.2.1 + 2 := by rw [c]; unfold freeOf; rw [List.getLast?_concat]
          have := end_le i1.rise ha
          have e2 : endL F = y.2.1 := by rw [c]; unfold endL; rw [List.getLast?_concat]
          omega
    · rcases hF with rfl | ⟨rfl, h1, h2, h3⟩
      · exact i2
      · intro r hr
        rcases List.mem_append.mp hr with u | u
        · exact i2 r u
        · rw [List.mem_singleton.mp u]
          have hx : x ∈ l := by rw [e]; simp
          have ht := gt x hx
          have f0 : 0 ≤ freeOf F := by
            rcases snoc_cases F with c | ⟨B, y, c⟩
            · rw [c]; exact Int.le_refl _
            · have ef : freeOf F = y.2.1 + 2 := by rw [c]; unfold freeOf; rw [List.getLast?_concat]
              have hy : y ∈ F := by rw [c]; simp
              have := (i2 y hy).1
              have := i1.2 y hy
              omega
          exact ⟨by dsimp only; omega, by dsimp only; omega⟩
    · rcases hF with rfl | ⟨rfl, h1, h2, h3⟩
      · rw [List.length_append]; omega
      · rw [List.length_append, List.length_append, List.length_singleton, List.length_singleton]; omega)
  refine ⟨F, S', ?_, ⟨i1, fun r hr => (i2 r hr).1, fun r hr => (i2 r hr).2, by omega⟩, i4.mono (by omega)⟩
  have hz : F.length ≤ PySem.sizeLine := small_le (by omega)
  have z0 : (0 : Nat) ≤ PySem.sizeLine := Nat.zero_le _
  unfold m_l_beside b_l_beside
  simp only [bind_ok_eq, bind_bad_eq, mVar_eq, mC_eq, m2_eq, mNil_eq, mPass_eq, mSeq_eq, mSet_eq, mRet_eq, mDrop_eq, mIf_eq, mB_eq, isB_eq, mAndT_eq, mOrT_eq, mNotT_eq, mAnd_eq, mOr_eq, mNot_eq, mIfE_eq, mChain_eq, aNil_eq, aCons_eq, mTup_eq, mDisp_eq, mLst_eq, mLoc_eq, mOwnL_eq, mCall_eq, mCallK_eq, mAsg_eq, mFor_eq, iSeq_eq, iSeqD_lst, iSeqD_tup, iLst_eq, seqD_lst, iLoc_eq, locD_eq, iScr_eq, scrD_eq, iRange1_eq, iRange2_eq, iEnumM_eq, mLc_eq, mYes_eq, mQ_eq, mQL_eq, mA_eq, mB1_eq, hLen_eq, hTup_eq, hList_eq, hAbs_eq, hInt_eq, hIntB_eq, hMax2_eq, hMin2_eq, gNeg_eq, gI_eq, gI0_eq, gIx_tup, gIx_lst, gIx_scr, gIx_loc, mSetC_eq, putC_eq, mApp_eq, mAppC_eq, qOwn_eq, gLen_tup, gLen_lst, gLen_scr, mDNewK_eq, mDGet2_eq, mDPut_eq, mDSet_eq, dictAt_eq, dictR_eq, keyD_int, keyD_str, mPar_eq, sNil_eq, sVal_eq, sOwnL_eq, setSl_nil, setSl_cons, setD_nil, setD_cons, pat_nm, pat_tp, pats_nil, pats_cons, wipeM_nil, wipeM_cons, forL_nil, lcL_nil, n2_eq, atI0, atI1, atI2, gNe_strs, gEq_strs, gNe_ints, gEq_ints, sz_1, sz_2, sz_3, sz_4, sz_5, sz_6, sz_7, sz_8, sz_9, sz_10, sz_11, sz_12, sz_13, sz_14, sz_15, sz_16, sz_17, sz_18, sz_19, sz_20, mLock_eq, nLock_eq, dictVar_eq, iKeysF_eq, keyV_inl, mRest_eq, restAt_eq, mExt_eq, iTup_eq, tupD_tup, mRetO_eq, gIsB_eq, gNotB_eq, gIsN_non, gIsN_int, gIsN_bl, gIsN_str, gIsN_tup, gIsN_lst, gIsN_loc, gNotN_non, gNotN_int, gNotN_bl, gNotN_str, gNotN_tup, gNotN_lst, gNotN_loc, iZip_eq, mAsg2_eq, mAug_eq, hSortedR_eq, mV_eq, mVL_eq, anyD_lst, anyD_tup, anyD_scr, anyD_loc, mIxO_eq, mSetO_eq, oNone_eq, oSome_eq, mSlT_eq, mSlQ_eq, mTruQ_eq, iRg1_eq, iRg2_eq, mNNew_eq, dictT_eq, mNGet1_eq, mNGet2_eq, gNGet_eq, gNIn_eq, putT_eq, setT_eq, mNPut_eq, mNSet_eq, mDGet1_eq, aStar_eq, mDCopy_eq, gDIn_eq, mIns_eq, mRevQ_eq, mKeysL_eq, mItemsL_eq, mDPop_eq, mBad_eq, mAsgS_eq, mAsgSS_eq, hStrI_eq, gReprA_loc, gReprA_tup, gReprA_lst, gReprA_non, gReprA_bl, gReprA_int, gReprA_str, mRevT_eq, mUp_eq, mSeqX_eq, mIfX_eq, mRaise1_eq, mCallX_eq, mDropX_eq, mSetX_eq, mRetX_eq, mTryF_eq, mLc2_eq, hSortedDB_eq, mSortSet_eq, Nat.zero_le, Nat.zero_add, Nat.reduceAdd, and_self, mDef_eq, List.getElem?_cons_zero, List.getElem?_cons_succ, List.set, List.length_cons, List.length_nil, List.map_cons, List.map_nil, List.replicate, List.cons_append, List.nil_append, List.append_nil, if_true, if_false, ite_true, ite_false, Bool.false_eq_true, Bool.true_eq_false, Bool.not_true, Bool.not_false, List.zip_cons_cons, List.zip_nil_left, e, List.length_map, hz, z0]
end K02
set_option maxRecDepth 100000
set_option maxHeartbeats 4000000
namespace K02
open Mo L2 PySem Pm
/-! ### the ends -/
def tk (ks : List Int) : List (Key × D) := ks.map fun j => ((.inl j : Key), D.bl true)
def endK (ks : List Int) (r : Pr) : List Int := addK (addK ks r.1) (r.2.1 + 1)
def endsL (l : List Pr) : List Int := l.foldl endK []
theorem endsL_add (l : List Pr) (r : Pr) : endsL (l ++ [r]) = endK (endsL l) r := by unfold endsL; rw [List.foldl_append]; rfl
theorem addK_mem {ks : List Int} {k x : Int} : x ∈ addK ks k ↔ x ∈ ks ∨ x = k := by
  unfold addK
  split
  · rename_i h; exact ⟨.inl, fun z => z.elim id fun e => e ▸ h⟩
  · rw [List.mem_append, List.mem_singleton]
theorem addK_nodup {ks : List Int} {k : Int} (h : ks.Nodup) : (addK ks k).Nodup := by
  unfold addK
  split
  · exact h
  · rename_i hk
    rw [List.nodup_append]
    exact ⟨h, by simp, fun a ha b hb => by rw [List.mem_singleton.mp hb]; exact fun e => hk (e ▸ ha)⟩
theorem addK_len (ks : List Int) (k : Int) : (addK ks k).length ≤ ks.length + 1 := by unfold addK; split <;> simp
theorem endsL_ok (l : List Pr) : (endsL l).Nodup ∧ (endsL l).length ≤ 2 * l.length ∧ ∀ x, x ∈ endsL l ↔ ∃ r ∈ l, x = r.1 ∨ x = r.2.1 + 1 := by
  refine snoc_induct (P := fun l => (endsL l).Nodup ∧ (endsL l).length ≤ 2 * l.length ∧ ∀ x, x ∈ endsL l ↔ ∃ r ∈ l, x = r.1 ∨ x = r.2.1 + 1) ⟨List.nodup_nil, Nat.le_refl _, fun x => ⟨fun h => (nomatch h), fun ⟨r, hr, _⟩ => (nomatch hr)⟩⟩ (fun l r ih => ?_) l
  obtain ⟨h1, h2, h3⟩ := ih
  rw [endsL_add]
  refine ⟨addK_nodup (addK_nodup h1), ?_, fun x => ?_⟩
  · have := addK_len (endsL l) r.1
    have := addK_len (addK (endsL l) r.1) (r.2.1 + 1)
    unfold endK
    rw [List.length_append, List.length_singleton]
    omega
  · unfold endK
    rw [addK_mem, addK_mem, h3]
    constructor
    · rintro ((⟨a, ha, q⟩ | q) | q)
      · exact ⟨a, by simp [ha], q⟩
      · exact ⟨r, by simp, .inl q⟩
      · exact ⟨r, by simp, .inr q⟩
    · rintro ⟨a, ha, q⟩
      rcases List.mem_append.mp ha with u | u
      · exact .inl (.inl ⟨a, u, q⟩)
      · rw [List.mem_singleton.mp u] at q
        rcases q with q | q
        · exact .inl (.inr q)
        · exact .inr q
theorem put_tk (ks : List Int) (k : Int) : putA (tk ks) (.inl k) (.bl true) = tk (addK ks k) := by
  unfold tk
  rw [putA_map ks (fun _ => .bl true)]
  simp
theorem tk_len (ks : List Int) : (tk ks).length = ks.length := by unfold tk; rw [List.length_map]
theorem ends_turn {S0 : Store} {ks : List Int} {x0 x1 x5 x6 x7 x8 x9 x10 x11 : Option Slot} {r : Pr} (hk : ks.length < 100000) :
    b_l_pieces_1 [x0, x1, some (.val (.loc S0.length)), some (.val (.int r.1)), some (.val (.int r.2.1)), x5, x6, x7, x8, x9, x10, x11] (S0 ++ [.dK (tk ks)]) = .ok (.nx [x0, x1, some (.val (.loc S0.length)), some (.val (.int r.1)), some (.val (.int r.2.1)), x5, x6, x7, x8, x9, x10, x11]) (S0 ++ [.dK (tk (endK ks r))]) := by
  have z1 : ks.length < PySem.sizeLine := small_lt (by omega)
  have z2 : (addK ks r.1).length < PySem.sizeLine := small_lt (by have := addK_len ks r.1; omega)
  have g1 : ∀ c : Cell, (S0 ++ [c])[S0.length]? = some c := fun c => List.getElem?_concat_length
  have g2 : ∀ c c' : Cell, (S0 ++ [c]).set S0.length c' = S0 ++ [c'] := fun c c' => by rw [List.set_append_right _ _ (Nat.le_refl _)]; simp
  unfold b_l_pieces_1 endK
  simp only [bind_ok_eq, bind_bad_eq, mVar_eq, mC_eq, m2_eq, mNil_eq, mPass_eq, mSeq_eq, mSet_eq, mRet_eq, mDrop_eq, mIf_eq, mB_eq, isB_eq, mAndT_eq, mOrT_eq, mNotT_eq, mAnd_eq, mOr_eq, mNot_eq, mIfE_eq, mChain_eq, aNil_eq, aCons_eq, mTup_eq, mDisp_eq, mLst_eq, mLoc_eq, mOwnL_eq, mCall_eq, mCallK_eq, mAsg_eq, mFor_eq, iSeq_eq, iSeqD_lst, iSeqD_tup, iLst_eq, seqD_lst, iLoc_eq, locD_eq, iScr_eq, scrD_eq, iRange1_eq, iRange2_eq, iEnumM_eq, mLc_eq, mYes_eq, mQ_eq, mQL_eq, mA_eq, mB1_eq, hLen_eq, hTup_eq, hList_eq, hAbs_eq, hInt_eq, hIntB_eq, hMax2_eq, hMin2_eq, gNeg_eq, gI_eq, gI0_eq, gIx_tup, gIx_lst, gIx_scr, gIx_loc, mSetC_eq, putC_eq, mApp_eq, mAppC_eq, qOwn_eq, gLen_tup, gLen_lst, gLen_scr, mDNewK_eq, mDGet2_eq, mDPut_eq, mDSet_eq, dictAt_eq, dictR_eq, keyD_int, keyD_str, mPar_eq, sNil_eq, sVal_eq, sOwnL_eq, setSl_nil, setSl_cons, setD_nil, setD_cons, pat_nm, pat_tp, pats_nil, pats_cons, wipeM_nil, wipeM_cons, forL_nil, lcL_nil, n2_eq, atI0, atI1, atI2, gNe_strs, gEq_strs, gNe_ints, gEq_ints, sz_1, sz_2, sz_3, sz_4, sz_5, sz_6, sz_7, sz_8, sz_9, sz_10, sz_11, sz_12, sz_13, sz_14, sz_15, sz_16, sz_17, sz_18, sz_19, sz_20, mLock_eq, nLock_eq, dictVar_eq, iKeysF_eq, keyV_inl, mRest_eq, restAt_eq, mExt_eq, iTup_eq, tupD_tup, mRetO_eq, gIsB_eq, gNotB_eq, gIsN_non, gIsN_int, gIsN_bl, gIsN_str, gIsN_tup, gIsN_lst, gIsN_loc, gNotN_non, gNotN_int, gNotN_bl, gNotN_str, gNotN_tup, gNotN_lst, gNotN_loc, iZip_eq, mAsg2_eq, mAug_eq, hSortedR_eq, mV_eq, mVL_eq, anyD_lst, anyD_tup, anyD_scr, anyD_loc, mIxO_eq, mSetO_eq, oNone_eq, oSome_eq, mSlT_eq, mSlQ_eq, mTruQ_eq, iRg1_eq, iRg2_eq, mNNew_eq, dictT_eq, mNGet1_eq, mNGet2_eq, gNGet_eq, gNIn_eq, putT_eq, setT_eq, mNPut_eq, mNSet_eq, mDGet1_eq, aStar_eq, mDCopy_eq, gDIn_eq, mIns_eq, mRevQ_eq, mKeysL_eq, mItemsL_eq, mDPop_eq, mBad_eq, mAsgS_eq, mAsgSS_eq, hStrI_eq, gReprA_loc, gReprA_tup, gReprA_lst, gReprA_non, gReprA_bl, gReprA_int, gReprA_str, mRevT_eq, mUp_eq, mSeqX_eq, mIfX_eq, mRaise1_eq, mCallX_eq, mDropX_eq, mSetX_eq, mRetX_eq, mTryF_eq, mLc2_eq, hSortedDB_eq, mSortSet_eq, Nat.zero_le, Nat.zero_add, Nat.reduceAdd, and_self, mDef_eq, List.getElem?_cons_zero, List.getElem?_cons_succ, List.set, List.length_cons, List.length_nil, List.map_cons, List.map_nil, List.replicate, List.cons_append, List.nil_append, List.append_nil, if_true, if_false, ite_true, ite_false, Bool.false_eq_true, Bool.true_eq_false, Bool.not_true, Bool.not_false, List.zip_cons_cons, List.zip_nil_left, putDict, g1, g2, tk_len, z1, z2, put_tk]
/-! ### the pointers -/
theorem while_run {c : MT} {mb : MS} {at0 : Nat} {l : Lot} {q : Int} {S : Store} (st : Nat → MEnv) (hc : ∀ i, c (st i) S = .ok (match l[i]? with
    | some r => decide (r.2.1 < q)
    | none => false) S) (hb : ∀ i, mb (st i) S = .ok (.nx (st (i + 1))) S) : ∀ (u : Nat) (i : Nat), l.length - i < u → i ≤ l.length → (∀ j r, j < i → l[j]? = some r → r.2.1 < q) →
    ∃ i', mWhileN c mb u (st i) S = .ok (.nx (st i')) S ∧ i' ≤ l.length ∧ (∀ j r, j < i' → l[j]? = some r → r.2.1 < q) ∧ ∀ r, l[i']? = some r → q ≤ r.2.1
  | 0, i, hu, _, _ => by omega
  | u + 1, i, hu, hi, hj => by
    unfold mWhileN
    rw [hc i]
    cases e : l[i]? with
    | none =>
      exact ⟨i, rfl, hi, hj, fun r hr => by rw [e] at hr; cases hr⟩
    | some r =>
      have hil := lt_of_get e
      by_cases d : r.2.1 < q
      · obtain ⟨i', h1, h2, h3, h4⟩ := while_run (at0 := at0) st hc hb u (i + 1) (by omega) (by omega) (fun j r' hj' hr' => by
          by_cases k : j = i
          · subst k; rw [e] at hr'; cases hr'; exact d
          · exact hj j r' (by omega) hr')
        refine ⟨i', ?_, h2, h3, h4⟩
        dsimp only
        rw [bind_ok_eq, decide_eq_true d, if_pos rfl, hb i, bind_ok_eq]
        exact h1
      · refine ⟨i, ?_, hi, hj, fun r' hr' => by rw [e] at hr'; cases hr'; omega⟩
        dsimp only
        rw [bind_ok_eq, decide_eq_false d, if_neg Bool.false_ne_true]
/-- what stands at the pointer tells whether the lot has the point -/
theorem flag_ok {l : Lot} (h : Rise l) {i : Nat} {q : Int} (hi : i ≤ l.length) (h1 : ∀ j r, j < i → l[j]? = some r → r.2.1 < q) (h2 : ∀ r, l[i]? = some r → q ≤ r.2.1) : hasP l q = (match l[i]? with
    | some r => decide (r.1 ≤ q)
    | none => false) := by
  cases e : l[i]? with
  | none =>
    dsimp only
    rw [Bool.eq_false_iff]
    intro z
    obtain ⟨r, hr, a, b⟩ := hasP_iff.mp z
    obtain ⟨j, hj⟩ := List.mem_iff_getElem?.mp hr
    have hjl := lt_of_get hj
    have hil : l.length ≤ i := by
      rcases Nat.lt_or_ge i l.length with c | c
      · rw [List.getElem?_eq_getElem c] at e; cases e
      · exact c
    have := h1 j r (by omega) hj
    omega
  | some r =>
    dsimp only
    have hq := h2 r e
    rw [Bool.eq_iff_iff, hasP_iff, decide_eq_true_eq]
    constructor
    · rintro ⟨r', hr', a, b⟩
      obtain ⟨j, hj⟩ := List.mem_iff_getElem?.mp hr'
      by_cases c1 : j < i
      · have := h1 j r' c1 hj; omega
      · by_cases c2 : j = i
        · subst c2; rw [e] at hj; cases hj; exact a
        · have hil := lt_of_get e
          have hjl := lt_of_get hj
          rw [List.getElem?_eq_getElem hil] at e
          rw [List.getElem?_eq_getElem hjl] at hj
          cases e; cases hj
          have := List.pairwise_iff_getElem.mp h.1 i j hil hjl (by omega)
          omega
    · intro a
      exact ⟨r, List.mem_of_getElem? e, a, hq⟩
def dQ (x : Int × Int × (Bool × Bool)) : D := .tup [.int x.1, .int x.2.1, .bl x.2.2.1, .bl x.2.2.2]
abbrev rhoP (L R : Lot) (x2 x3 x4 x5 : Option Slot) (F : List (Int × Int × (Bool × Bool))) (i j : Nat) (a b : Int) (x11 : Option Slot) : MEnv := [some (.val (.tup (L.map dP))), some (.val (.tup (R.map dP))), x2, x3, x4, x5, some (.own (.lst (F.map dQ))), some (.val (.int (i : Int))), some (.val (.int (j : Int))), some (.val (.int a)), some (.val (.int b)), x11]
theorem test_ok (l : Lot) (i : Nat) (q : Int) (S : Store) (mi ml mq : ME) (ρ : MEnv) (h1 : mi ρ S = .ok (.int (i : Int)) S) (h2 : ml ρ S = .ok (.tup (l.map dP)) S) (h3 : mq ρ S = .ok (.int q) S) :
    mAndT (mB (m2 gLt mi (mB1 gLen ml))) (mB (m2 gLt (m2 gIx (m2 gIx ml mi) (mC (.int 1))) mq)) ρ S = .ok (match l[i]? with
    | some r => decide (r.2.1 < q)
    | none => false) S := by
  cases e : l[i]? with
  | none =>
    have hil : ¬ (i : Int) < (l.length : Int) := by
      intro c
      rw [List.getElem?_eq_getElem (by omega)] at e; cases e
    simp [h1, h2, eq_false hil]
    try omega
  | some r =>
    have hil : (i : Int) < (l.length : Int) := by have := lt_of_get e; omega
    have ea := at_map dP e
    simp [h1, h2, h3, hil, ea, dP]
    try omega
theorem mine_ok (l : Lot) (i : Nat) (q : Int) (S : Store) (mi ml mq : ME) (ρ : MEnv) (h1 : mi ρ S = .ok (.int (i : Int)) S) (h2 : ml ρ S = .ok (.tup (l.map dP)) S) (h3 : mq ρ S = .ok (.int q) S) :
    mAnd (m2 gLt mi (mB1 gLen ml)) (m2 gLe (m2 gIx (m2 gIx ml mi) (mC (.int 0))) mq) ρ S = .ok (.bl (match l[i]? with
    | some r => decide (r.1 ≤ q)
    | none => false)) S := by
  cases e : l[i]? with
  | none =>
    have hil : ¬ (i : Int) < (l.length : Int) := by
      intro c
      rw [List.getElem?_eq_getElem (by omega)] at e; cases e
    simp [h1, h2, eq_false hil]
    try omega
  | some r =>
    have hil : (i : Int) < (l.length : Int) := by have := lt_of_get e; omega
    have ea := at_map dP e
    simp [h1, h2, h3, hil, ea, dP]
    try omega
theorem piece_turn {L R : Lot} (hL : Rise L) (hR : Rise R) (nL : L.length < 1000) (nR : R.length < 1000) {x2 x3 x4 x5 x11 : Option Slot} {F : List (Int × Int × (Bool × Bool))} (hF : F.length < 10000) {i j : Nat} {a b : Int} {S : Store}
    (hi : i ≤ L.length) (hj : j ≤ R.length) (pi : ∀ k r, k < i → L[k]? = some r → r.2.1 < a) (pj : ∀ k r, k < j → R[k]? = some r → r.2.1 < a) :
    ∃ i' j' y11, b_l_pieces_6 (rhoP L R x2 x3 x4 x5 F i j a b x11) S = .ok (.nx (rhoP L R x2 x3 x4 x5 (F ++ [(a, b - 1, twoP L R a)]) i' j' a b y11)) S ∧ i' ≤ L.length ∧ j' ≤ R.length ∧ (∀ k r, k < i' → L[k]? = some r → r.2.1 < a) ∧ (∀ k r, k < j' → R[k]? = some r → r.2.1 < a) := by
  obtain ⟨i', e1, i1, i2, i3⟩ := while_run (at0 := 0) (l := L) (q := a) (S := S) (c := t_l_pieces_2) (mb := b_l_pieces_3) (fun i => rhoP L R x2 x3 x4 x5 F i j a b x11) (fun i => test_ok L i a S _ _ _ _ rfl rfl rfl) (fun i => by unfold b_l_pieces_3; simp) 2000 i (by omega) hi pi
  obtain ⟨j', e2, j1, j2, j3⟩ := while_run (at0 := 0) (l := R) (q := a) (S := S) (c := t_l_pieces_4) (mb := b_l_pieces_5) (fun j => rhoP L R x2 x3 x4 x5 F i' j a b x11) (fun j => test_ok R j a S _ _ _ _ rfl rfl rfl) (fun j => by unfold b_l_pieces_5; simp) 2000 j (by omega) hj pj
  have e1' := mWhileN_more (m := manyTurns) (by decide) e1
  have e2' := mWhileN_more (m := manyTurns) (by decide) e2
  have f1 := flag_ok hL i1 i2 i3
  have f2 := flag_ok hR j1 j2 j3
  have z : F.length < PySem.sizeLine := small_lt (by omega)
  refine ⟨i', j', some (.val (.bl (hasP L a))), ?_, i1, j1, i2, j2⟩
  have g1 := mine_ok L i' a S (mVar 7) (mVar 0) (mVar 9) (rhoP L R x2 x3 x4 x5 F i' j' a b x11) rfl rfl rfl
  have g2 := mine_ok R j' a S (mVar 8) (mVar 1) (mVar 9) (rhoP L R x2 x3 x4 x5 F i' j' a b (some (.val (.bl (hasP L a))))) rfl rfl rfl
  rw [← f1] at g1
  rw [← f2] at g2
  have mw : ∀ c b ρ S, mWhile c b ρ S = mWhileN c b manyTurns ρ S := fun _ _ _ _ => rfl
  unfold b_l_pieces_6
  rw [mSeq_eq, mw, e1', bind_ok_eq]
  dsimp only
  rw [mSeq_eq, mw, e2', bind_ok_eq]
  dsimp only
  rw [mSeq_eq, mSet_eq, g1, bind_ok_eq, bind_ok_eq]
  dsimp only [List.set]
  simp only [bind_ok_eq, bind_bad_eq, mVar_eq, mC_eq, m2_eq, mNil_eq, mPass_eq, mSeq_eq, mSet_eq, mRet_eq, mDrop_eq, mIf_eq, mB_eq, isB_eq, mAndT_eq, mOrT_eq, mNotT_eq, mAnd_eq, mOr_eq, mNot_eq, mIfE_eq, mChain_eq, aNil_eq, aCons_eq, mTup_eq, mDisp_eq, mLst_eq, mLoc_eq, mOwnL_eq, mCall_eq, mCallK_eq, mAsg_eq, mFor_eq, iSeq_eq, iSeqD_lst, iSeqD_tup, iLst_eq, seqD_lst, iLoc_eq, locD_eq, iScr_eq, scrD_eq, iRange1_eq, iRange2_eq, iEnumM_eq, mLc_eq, mYes_eq, mQ_eq, mQL_eq, mA_eq, mB1_eq, hLen_eq, hTup_eq, hList_eq, hAbs_eq, hInt_eq, hIntB_eq, gNeg_eq, gI_eq, gI0_eq, gIx_tup, gIx_lst, gIx_scr, gIx_loc, mSetC_eq, putC_eq, mApp_eq, mAppC_eq, qOwn_eq, gLen_tup, gLen_lst, gLen_scr, mDNewK_eq, mDGet2_eq, mDPut_eq, mDSet_eq, dictAt_eq, dictR_eq, keyD_int, keyD_str, mPar_eq, sNil_eq, sVal_eq, sOwnL_eq, setSl_nil, setSl_cons, setD_nil, setD_cons, pat_nm, pat_tp, pats_nil, pats_cons, wipeM_nil, wipeM_cons, forL_nil, lcL_nil, n2_eq, atI0, atI1, atI2, gNe_strs, gEq_strs, gNe_ints, gEq_ints, sz_1, sz_2, sz_3, sz_4, sz_5, sz_6, sz_7, sz_8, sz_9, sz_10, sz_11, sz_12, sz_13, sz_14, sz_15, sz_16, sz_17, sz_18, sz_19, sz_20, mLock_eq, nLock_eq, dictVar_eq, iKeysF_eq, keyV_inl, mRest_eq, restAt_eq, mExt_eq, iTup_eq, tupD_tup, mRetO_eq, gIsB_eq, gNotB_eq, gIsN_non, gIsN_int, gIsN_bl, gIsN_str, gIsN_tup, gIsN_lst, gIsN_loc, gNotN_non, gNotN_int, gNotN_bl, gNotN_str, gNotN_tup, gNotN_lst, gNotN_loc, iZip_eq, mAsg2_eq, mAug_eq, hSortedR_eq, mV_eq, mVL_eq, anyD_lst, anyD_tup, anyD_scr, anyD_loc, mIxO_eq, mSetO_eq, oNone_eq, oSome_eq, mSlT_eq, mSlQ_eq, mTruQ_eq, iRg1_eq, iRg2_eq, mNNew_eq, dictT_eq, mNGet1_eq, mNGet2_eq, gNGet_eq, gNIn_eq, putT_eq, setT_eq, mNPut_eq, mNSet_eq, mDGet1_eq, aStar_eq, mDCopy_eq, gDIn_eq, mIns_eq, mRevQ_eq, mKeysL_eq, mItemsL_eq, mDPop_eq, mBad_eq, mAsgS_eq, mAsgSS_eq, hStrI_eq, gReprA_loc, gReprA_tup, gReprA_lst, gReprA_non, gReprA_bl, gReprA_int, gReprA_str, mRevT_eq, mUp_eq, mSeqX_eq, mIfX_eq, mRaise1_eq, mCallX_eq, mDropX_eq, mSetX_eq, mRetX_eq, mTryF_eq, mLc2_eq, hSortedDB_eq, mSortSet_eq, Nat.zero_le, Nat.zero_add, Nat.reduceAdd, and_self, mDef_eq, List.getElem?_cons_zero, List.getElem?_cons_succ, List.set, List.length_cons, List.length_nil, List.map_cons, List.map_nil, List.replicate, List.cons_append, List.nil_append, List.append_nil, if_true, if_false, ite_true, ite_false, Bool.false_eq_true, Bool.true_eq_false, Bool.not_true, Bool.not_false, List.zip_cons_cons, List.zip_nil_left, g2, List.length_map, z, List.map_append, dQ, twoP, -mAnd_eq]
  simp only [rhoP, List.map_append, List.map_cons, List.map_nil, dQ]
theorem pcs_zip {β : Type} (f : Int → β) : ∀ l : List Int, pcs f l = (l.zip (l.drop 1)).map fun p => (p.1, p.2 - 1, f p.1)
  | [] => by simp [pcs]
  | [a] => by simp [pcs]
  | a :: b :: r => by rw [pcs, pcs_zip f (b :: r)]; simp
/-- the ends in order -/
def rowsL (L R : Lot) : List Int := sortI (endsL (L ++ R))
theorem rows_asc (L R : Lot) : (rowsL L R).Pairwise (· < ·) :=
  lt_of_le_nodup _ (sortI_sorted _) ((sortI_perm _).nodup_iff.mpr (endsL_ok _).1)
theorem rows_mem {L R : Lot} {x : Int} : x ∈ rowsL L R ↔ ∃ r ∈ L ++ R, x = r.1 ∨ x = r.2.1 + 1 := by
  unfold rowsL
  rw [(sortI_perm _).mem_iff, (endsL_ok _).2.2]
theorem rows_left (L R : Lot) : EndsIn L (rowsL L R) := fun r hr => ⟨rows_mem.mpr ⟨r, List.mem_append_left _ hr, .inl rfl⟩, rows_mem.mpr ⟨r, List.mem_append_left _ hr, .inr rfl⟩⟩
theorem rows_right (L R : Lot) : EndsIn R (rowsL L R) := fun r hr => ⟨rows_mem.mpr ⟨r, List.mem_append_right _ hr, .inl rfl⟩, rows_mem.mpr ⟨r, List.mem_append_right _ hr, .inr rfl⟩⟩
theorem rows_len (L R : Lot) : (rowsL L R).length ≤ 2 * (L.length + R.length) := by
  have := (endsL_ok (L ++ R)).2.1
  rw [List.length_append] at this
  unfold rowsL
  rw [(sortI_perm _).length_eq]
  exact this
theorem pieces_ok {L R : Lot} (hL : Rise L) (hR : Rise R) (nL : L.length < 300) (nR : R.length < 300) (S : Store) : ∃ S', m_l_pieces [.tup (L.map dP), .tup (R.map dP)] S = .ok (.lst ((pcs (twoP L R) (rowsL L R)).map dQ)) S' ∧ Keeps S S' := by
  have zc : L.length + R.length ≤ PySem.sizeLine := small_le (by omega)
  obtain ⟨ρ1, S1, e1, x3, x4, rfl, rfl⟩ := forL_inv (p := .tp [.nm 3, .nm 4]) (mb := b_l_pieces_1) (enc := dP) (fun d ρ S' => ∃ (x3 x4 : Option Slot), ρ = [some (.val (.tup (L.map dP))), some (.val (.tup (R.map dP))), some (.val (.loc S.length)), x3, x4, none, none, none, none, none, none, none] ∧ S' = S ++ [.dK (tk (endsL d))]) (L ++ R)
    (ρ := [some (.val (.tup (L.map dP))), some (.val (.tup (R.map dP))), some (.val (.loc S.length)), none, none, none, none, none, none, none, none, none]) (S := S ++ [.dK []]) ⟨none, none, rfl, rfl⟩ (by
    rintro d x r ρ S' e ⟨x3, x4, rfl, rfl⟩
    have hd : d.length < 600 := by
      have := congrArg List.length e
      rw [List.length_append, List.length_append, List.length_cons] at this
      omega
    have := (endsL_ok d).2.1
    exact ⟨[(3, .int x.1), (4, .int x.2.1)], _, _, by simp [dP], .inl (ends_turn (by omega)), _, _, rfl, by rw [endsL_add]⟩)
  have hks := (endsL_ok (L ++ R)).2.1
  have hlen : (endsL (L ++ R)).length ≤ 100000 := by rw [List.length_append] at hks; omega
  have g1 : (S ++ [Cell.dK (tk (endsL (L ++ R)))])[S.length]? = some (.dK (tk (endsL (L ++ R)))) := List.getElem?_concat_length
  have es : hSortedDB (.loc S.length) (S ++ [.dK (tk (endsL (L ++ R)))]) = .ok ((rowsL L R).map .int) (S ++ [.dK (tk (endsL (L ++ R)))]) := by
    rw [hSortedDB_eq, dictR_eq, g1]
    dsimp only
    rw [show intKeys (tk (endsL (L ++ R))) = some (endsL (L ++ R)) from intKeys_map _ _]
    dsimp only
    rw [if_pos hlen]
    rfl
  have hrl := rows_len L R
  obtain ⟨ρ2, S2, e2, i, j, a, b, x9, x10, x11, rfl, rfl, i1, i2⟩ := forL_inv (p := .tp [.nm 9, .nm 10]) (mb := b_l_pieces_6) (enc := fun p : Int × Int => .tup [.int p.1, .int p.2]) (fun d ρ S' => ∃ (i j : Nat) (a b : Int) (x9 x10 x11 : Option Slot), ρ = [some (.val (.tup (L.map dP))), some (.val (.tup (R.map dP))), some (.val (.loc S.length)), x3, x4, some (.val (.lst ((rowsL L R).map .int))), some (.own (.lst ((d.map fun p => (p.1, p.2 - 1, twoP L R p.1)).map dQ))), some (.val (.int (i : Int))), some (.val (.int (j : Int))), x9, x10, x11] ∧
      S' = S ++ [.dK (tk (endsL (L ++ R)))] ∧ (i ≤ L.length ∧ ∀ q, (∀ p ∈ d, p.1 ≤ q) → ∀ k r, k < i → L[k]? = some r → r.2.1 < q) ∧ (j ≤ R.length ∧ ∀ q, (∀ p ∈ d, p.1 ≤ q) → ∀ k r, k < j → R[k]? = some r → r.2.1 < q)) ((rowsL L R).zip ((rowsL L R).drop 1))
    (ρ := [some (.val (.tup (L.map dP))), some (.val (.tup (R.map dP))), some (.val (.loc S.length)), x3, x4, some (.val (.lst ((rowsL L R).map .int))), some (.own (.lst [])), some (.val (.int 0)), some (.val (.int 0)), none, none, none]) (S := S ++ [.dK (tk (endsL (L ++ R)))])
    ⟨0, 0, 0, 0, none, none, none, rfl, rfl, ⟨Nat.zero_le _, fun _ _ k r hk => by omega⟩, ⟨Nat.zero_le _, fun _ _ k r hk => by omega⟩⟩ (by
    rintro d x r ρ S' e ⟨i, j, a, b, x9, x10, x11, rfl, rfl, ⟨i1, i2⟩, ⟨j1, j2⟩⟩
    have hdl : d.length < 2000 := by
      have := congrArg List.length e
      rw [List.length_append, List.length_cons, List.length_zip] at this
      omega
    have asc : ∀ p ∈ d, p.1 ≤ x.1 := fun p hp => by
      have r0 := pcs_rise (f := fun _ => ()) (rows_asc L R)
      rw [pcs_zip, e, List.map_append, List.map_cons] at r0
      have h1 := (List.pairwise_append.mp r0.1).2.2 (p.1, p.2 - 1, ()) (List.mem_map.mpr ⟨p, hp, rfl⟩) (x.1, x.2 - 1, ()) (by simp)
      have h2 := r0.2 (p.1, p.2 - 1, ()) (List.mem_append_left _ (List.mem_map.mpr ⟨p, hp, rfl⟩))
      dsimp only at h1 h2
      omega
    obtain ⟨i', j', y11, e', i3, j3, i4, j4⟩ := piece_turn hL hR (by omega) (by omega) (x2 := some (.val (.loc S.length))) (x3 := x3) (x4 := x4) (x5 := some (.val (.lst ((rowsL L R).map .int)))) (x11 := x11) (F := d.map fun p => (p.1, p.2 - 1, twoP L R p.1)) (by rw [List.length_map]; omega) (a := x.1) (b := x.2) (S := S ++ [.dK (tk (endsL (L ++ R)))]) i1 j1 (i2 x.1 asc) (j2 x.1 asc)
    refine ⟨[(9, .int x.1), (10, .int x.2)], _, _, rfl, .inl e', i', j', x.1, x.2, some (.val (.int x.1)), some (.val (.int x.2)), y11, by simp, rfl, ⟨i3, fun q hq k r hk hr => ?_⟩, ⟨j3, fun q hq k r hk hr => ?_⟩⟩
    · have := i4 k r hk hr; have := hq x (by simp); omega
    · have := j4 k r hk hr; have := hq x (by simp); omega)
  refine ⟨S ++ [.dK (tk (endsL (L ++ R)))], ?_, Keeps.app S _⟩
  have ez : zipD ((rowsL L R).map D.int) (((rowsL L R).drop 1).map D.int) = ((rowsL L R).zip ((rowsL L R).drop 1)).map fun p => .tup [.int p.1, .int p.2] := zipD_map D.int D.int _ _
  have cz : cutD ((rowsL L R).map D.int) (some 1) none = ((rowsL L R).drop 1).map D.int := by
    have := cutD_from ((rowsL L R).map D.int) 1
    rw [show ((1 : Nat) : Int) = 1 from rfl] at this
    rw [this, List.map_drop]
  have zr : ((rowsL L R).drop 1).length ≤ PySem.sizeLine := small_le (by rw [List.length_drop]; omega)
  have ec : gCatT (.tup (L.map dP)) (.tup (R.map dP)) S = .ok (.tup ((L ++ R).map dP)) S := by rw [catT_ok _ _ _ (by simp only [List.length_map]; omega), List.map_append]
  have ec' : ∀ S, gCatT (.tup (L.map dP)) (.tup (R.map dP)) S = .ok (.tup ((L ++ R).map dP)) S := fun S => by rw [catT_ok _ _ _ (by simp only [List.length_map]; omega), List.map_append]
  rw [pcs_zip]
  unfold m_l_pieces b_l_pieces
  have z0 : (0 : Nat) ≤ PySem.sizeLine := Nat.zero_le _
  simp only [bind_ok_eq, bind_bad_eq, mVar_eq, mC_eq, m2_eq, mNil_eq, mPass_eq, mSeq_eq, mSet_eq, mRet_eq, mDrop_eq, mIf_eq, mB_eq, isB_eq, mAndT_eq, mOrT_eq, mNotT_eq, mAnd_eq, mOr_eq, mNot_eq, mIfE_eq, mChain_eq, aNil_eq, aCons_eq, mTup_eq, mDisp_eq, mLst_eq, mLoc_eq, mOwnL_eq, mCall_eq, mCallK_eq, mAsg_eq, mFor_eq, iSeq_eq, iSeqD_lst, iSeqD_tup, iLst_eq, seqD_lst, iLoc_eq, locD_eq, iScr_eq, scrD_eq, iRange1_eq, iRange2_eq, iEnumM_eq, mLc_eq, mYes_eq, mQ_eq, mQL_eq, mA_eq, mB1_eq, hLen_eq, hTup_eq, hList_eq, hAbs_eq, hInt_eq, hIntB_eq, hMax2_eq, hMin2_eq, gNeg_eq, gI_eq, gI0_eq, gIx_tup, gIx_lst, gIx_scr, gIx_loc, mSetC_eq, putC_eq, mApp_eq, mAppC_eq, qOwn_eq, gLen_tup, gLen_lst, gLen_scr, mDNewK_eq, mDGet2_eq, mDPut_eq, mDSet_eq, dictAt_eq, dictR_eq, keyD_int, keyD_str, mPar_eq, sNil_eq, sVal_eq, sOwnL_eq, setSl_nil, setSl_cons, setD_nil, setD_cons, pat_nm, pat_tp, pats_nil, pats_cons, wipeM_nil, wipeM_cons, forL_nil, lcL_nil, n2_eq, atI0, atI1, atI2, gNe_strs, gEq_strs, gNe_ints, gEq_ints, sz_1, sz_2, sz_3, sz_4, sz_5, sz_6, sz_7, sz_8, sz_9, sz_10, sz_11, sz_12, sz_13, sz_14, sz_15, sz_16, sz_17, sz_18, sz_19, sz_20, mLock_eq, nLock_eq, dictVar_eq, iKeysF_eq, keyV_inl, mRest_eq, restAt_eq, mExt_eq, iTup_eq, tupD_tup, mRetO_eq, gIsB_eq, gNotB_eq, gIsN_non, gIsN_int, gIsN_bl, gIsN_str, gIsN_tup, gIsN_lst, gIsN_loc, gNotN_non, gNotN_int, gNotN_bl, gNotN_str, gNotN_tup, gNotN_lst, gNotN_loc, iZip_eq, mAsg2_eq, mAug_eq, hSortedR_eq, mV_eq, mVL_eq, anyD_lst, anyD_tup, anyD_scr, anyD_loc, mIxO_eq, mSetO_eq, oNone_eq, oSome_eq, mSlT_eq, mSlQ_eq, mTruQ_eq, iRg1_eq, iRg2_eq, mNNew_eq, dictT_eq, mNGet1_eq, mNGet2_eq, gNGet_eq, gNIn_eq, putT_eq, setT_eq, mNPut_eq, mNSet_eq, mDGet1_eq, aStar_eq, mDCopy_eq, gDIn_eq, mIns_eq, mRevQ_eq, mKeysL_eq, mItemsL_eq, mDPop_eq, mBad_eq, mAsgS_eq, mAsgSS_eq, hStrI_eq, gReprA_loc, gReprA_tup, gReprA_lst, gReprA_non, gReprA_bl, gReprA_int, gReprA_str, mRevT_eq, mUp_eq, mSeqX_eq, mIfX_eq, mRaise1_eq, mCallX_eq, mDropX_eq, mSetX_eq, mRetX_eq, mTryF_eq, mLc2_eq, hSortedDB_eq, mSortSet_eq, Nat.zero_le, Nat.zero_add, Nat.reduceAdd, and_self, mDef_eq, List.getElem?_cons_zero, List.getElem?_cons_succ, List.set, List.length_cons, List.length_nil, List.map_cons, List.map_nil, List.replicate, List.cons_append, List.nil_append, List.append_nil, if_true, if_false, ite_true, ite_false, Bool.false_eq_true, Bool.true_eq_false, Bool.not_true, Bool.not_false, List.zip_cons_cons, List.zip_nil_left, ec', e1, es, e2, ez, cz, zr, List.length_map, z0, -hSortedDB_eq]
end K02
set_option maxRecDepth 100000
set_option maxHeartbeats 4000000
namespace Pm
open Mo L2 PySem
/-! ### the program's lots -/
theorem size_ok (l : List Pr) (hl : l.length ≤ 10000) (S : Store) : m_p_size [.tup (l.map dP)] S = .ok (.int (szL l)) S := by
  have e1 := lcL_map (p := .tp [.nm 1, .nm 2]) (me := e_p_size_1) (enc := dP) (f := fun r : Pr => D.int (r.2.1 - r.1 + 1)) (ρ := [some (.val (.tup (l.map dP))), none, none]) (S := S) l (fun r _ => ⟨[(1, .int r.1), (2, .int r.2.1)], by simp [dP], by
    unfold e_p_size_1
    simp⟩)
  have em : (l.map fun r : Pr => D.int (r.2.1 - r.1 + 1)) = (l.map fun r : Pr => r.2.1 - r.1 + 1).map .int := by rw [List.map_map]; rfl
  rw [em] at e1
  have e2 := hSum_ints (l.map fun r : Pr => r.2.1 - r.1 + 1) S
  have z : (l.map fun r : Pr => r.2.1 - r.1 + 1).length ≤ sizeLine := small_le (by rw [List.length_map]; omega)
  unfold m_p_size b_p_size szL
  simp only [bind_ok_eq, bind_bad_eq, mVar_eq, mC_eq, m2_eq, mNil_eq, mPass_eq, mSeq_eq, mSet_eq, mRet_eq, mDrop_eq, mIf_eq, mB_eq, isB_eq, mAndT_eq, mOrT_eq, mNotT_eq, mAnd_eq, mOr_eq, mNot_eq, mIfE_eq, mChain_eq, aNil_eq, aCons_eq, mTup_eq, mDisp_eq, mLst_eq, mLoc_eq, mOwnL_eq, mCall_eq, mCallK_eq, mAsg_eq, mFor_eq, iSeq_eq, iSeqD_lst, iSeqD_tup, iLst_eq, seqD_lst, iLoc_eq, locD_eq, iScr_eq, scrD_eq, iRange1_eq, iRange2_eq, iEnumM_eq, mLc_eq, mYes_eq, mQ_eq, mQL_eq, mA_eq, mB1_eq, hLen_eq, hTup_eq, hList_eq, hAbs_eq, hInt_eq, hIntB_eq, hMax2_eq, hMin2_eq, gNeg_eq, gI_eq, gI0_eq, gIx_tup, gIx_lst, gIx_scr, gIx_loc, mSetC_eq, putC_eq, mApp_eq, mAppC_eq, qOwn_eq, gLen_tup, gLen_lst, gLen_scr, mDNewK_eq, mDGet2_eq, mDPut_eq, mDSet_eq, dictAt_eq, dictR_eq, keyD_int, keyD_str, mPar_eq, sNil_eq, sVal_eq, sOwnL_eq, setSl_nil, setSl_cons, setD_nil, setD_cons, pat_nm, pat_tp, pats_nil, pats_cons, wipeM_nil, wipeM_cons, forL_nil, lcL_nil, n2_eq, atI0, atI1, atI2, gNe_strs, gEq_strs, gNe_ints, gEq_ints, sz_1, sz_2, sz_3, sz_4, sz_5, sz_6, sz_7, sz_8, sz_9, sz_10, sz_11, sz_12, sz_13, sz_14, sz_15, sz_16, sz_17, sz_18, sz_19, sz_20, mLock_eq, nLock_eq, dictVar_eq, iKeysF_eq, keyV_inl, mRest_eq, restAt_eq, mExt_eq, iTup_eq, tupD_tup, mRetO_eq, gIsB_eq, gNotB_eq, gIsN_non, gIsN_int, gIsN_bl, gIsN_str, gIsN_tup, gIsN_lst, gIsN_loc, gNotN_non, gNotN_int, gNotN_bl, gNotN_str, gNotN_tup, gNotN_lst, gNotN_loc, iZip_eq, mAsg2_eq, mAug_eq, hSortedR_eq, mV_eq, mVL_eq, anyD_lst, anyD_tup, anyD_scr, anyD_loc, mIxO_eq, mSetO_eq, oNone_eq, oSome_eq, mSlT_eq, mSlQ_eq, mTruQ_eq, iRg1_eq, iRg2_eq, mNNew_eq, dictT_eq, mNGet1_eq, mNGet2_eq, gNGet_eq, gNIn_eq, putT_eq, setT_eq, mNPut_eq, mNSet_eq, mDGet1_eq, aStar_eq, mDCopy_eq, gDIn_eq, mIns_eq, mRevQ_eq, mKeysL_eq, mItemsL_eq, mDPop_eq, mBad_eq, mAsgS_eq, mAsgSS_eq, hStrI_eq, gReprA_loc, gReprA_tup, gReprA_lst, gReprA_non, gReprA_bl, gReprA_int, gReprA_str, mRevT_eq, mUp_eq, mSeqX_eq, mIfX_eq, mRaise1_eq, mCallX_eq, mDropX_eq, mSetX_eq, mRetX_eq, mTryF_eq, mLc2_eq, hSortedDB_eq, mSortSet_eq, Nat.zero_le, Nat.zero_add, Nat.reduceAdd, and_self, mDef_eq, List.getElem?_cons_zero, List.getElem?_cons_succ, List.set, List.length_cons, List.length_nil, List.map_cons, List.map_nil, List.replicate, List.cons_append, List.nil_append, List.append_nil, if_true, if_false, ite_true, ite_false, Bool.false_eq_true, Bool.true_eq_false, Bool.not_true, Bool.not_false, List.zip_cons_cons, List.zip_nil_left, e1, List.length_map] at e2 z ⊢
  simp only [z, if_true, bind_ok_eq, e2]
def runOk (r : Pr) : Bool := pairB (r.1, r.2.1) && decide (r.1 ≤ r.2.1)
theorem run_ok (r : Pr) (S : Store) : m_p_is_run [dP r] S = .ok (.bl (runOk r)) S := by
  have h2 := pair_ok (r.1, r.2.1)
  unfold dB at h2
  have hd : dP r = .tup [.int r.1, .int r.2.1] := rfl
  unfold m_p_is_run b_p_is_run runOk
  rw [hd]
  cases q : pairB (r.1, r.2.1) <;> simp [mDef_eq, h2, q]
theorem is_lot_ok {l : Lot} (h : Neat l) (h0 : ∀ r ∈ l, 0 ≤ r.1) (hl : l.length ≤ 10000) (S : Store) : m_p_is_lot [.tup (l.map dP)] S = .ok (.bl true) S := by
  have i1 := hIsi_of (.tup (l.map dP)) "tuple" S (by simp) rfl
  rw [show isTy (.tup (l.map dP)) "tuple" = true from rfl] at i1
  have e1 := lcL_map (p := .nm 1) (me := e_p_is_lot_1) (enc := dP) (f := fun r => D.bl (runOk r)) (ρ := [some (.val (.tup (l.map dP))), none, none, none]) (S := S) l (fun r hm => ⟨_, rfl, by
    have := run_ok r S
    unfold e_p_is_lot_1
    simp [this]⟩)
  have e2 := lcL_map (p := .tp [.nm 2, .nm 3]) (me := e_p_is_lot_2) (enc := fun p : Pr × Pr => D.tup [dP p.1, dP p.2]) (f := fun p : Pr × Pr => D.bl (decide (p.1.2.1 + 1 < p.2.1))) (ρ := [some (.val (.tup (l.map dP))), none, none, none]) (S := S) (l.zip l.tail) (fun p _ => ⟨_, by simp; rfl, by
    unfold e_p_is_lot_2
    simp [dP]⟩)
  have z1 : (l.map fun r => D.bl (runOk r)).length ≤ sizeLine := small_le (by rw [List.length_map]; omega)
  have z2 : ((l.zip l.tail).map fun p : Pr × Pr => D.bl (decide (p.1.2.1 + 1 < p.2.1))).length ≤ sizeLine := small_le (by rw [List.length_map, List.length_zip]; omega)
  have a1 : hAll (l.map fun r => D.bl (runOk r)) S = .ok (.bl true) S := by
    have := hAll_bls (l.map runOk) S
    rw [List.map_map] at this
    rw [show (l.map fun r => D.bl (runOk r)) = l.map (D.bl ∘ runOk) from rfl, this]
    congr 2
    rw [List.all_eq_true]
    intro b hb
    obtain ⟨r, hr, e⟩ := List.mem_map.mp hb
    rw [← e]
    have := h.2 r hr
    have := h0 r hr
    unfold runOk pairB
    simp
    omega
  have a2 : hAll ((l.zip l.tail).map fun p : Pr × Pr => D.bl (decide (p.1.2.1 + 1 < p.2.1))) S = .ok (.bl true) S := by
    have := hAll_bls ((l.zip l.tail).map fun p : Pr × Pr => decide (p.1.2.1 + 1 < p.2.1)) S
    rw [List.map_map] at this
    rw [show ((l.zip l.tail).map fun p : Pr × Pr => D.bl (decide (p.1.2.1 + 1 < p.2.1))) = (l.zip l.tail).map (D.bl ∘ fun p : Pr × Pr => decide (p.1.2.1 + 1 < p.2.1)) from rfl, this]
    congr 2
    rw [List.all_eq_true]
    intro b hb
    obtain ⟨p, hp, e⟩ := List.mem_map.mp hb
    rw [← e]
    obtain ⟨i, hi⟩ := List.mem_iff_getElem?.mp hp
    rw [List.getElem?_zip_eq_some] at hi
    obtain ⟨h1, h2⟩ := hi
    rw [List.getElem?_tail] at h2
    have l1 := lt_of_get h1
    have l2 := lt_of_get h2
    rw [List.getElem?_eq_getElem l1] at h1
    rw [List.getElem?_eq_getElem l2] at h2
    rw [← Option.some.inj h1, ← Option.some.inj h2]
    have := List.pairwise_iff_getElem.mp h.1 i (i + 1) l1 l2 (by omega)
    have n1 : ¬ (l[i].2.1 + 1 = (l[i + 1]).1) := fun z => this.2 ⟨z, rfl⟩
    simp
    omega
  have ez : zipD (l.map dP) (l.tail.map dP) = (l.zip l.tail).map fun p : Pr × Pr => D.tup [dP p.1, dP p.2] := zipD_map dP dP _ _
  have cz : cutD (l.map dP) (some 1) none = l.tail.map dP := by
    have := cutD_from (l.map dP) 1
    rw [show ((1 : Nat) : Int) = 1 from rfl] at this
    rw [this, ← List.map_drop, List.drop_one]
  unfold m_p_is_lot b_p_is_lot
  simp only [bind_ok_eq, bind_bad_eq, mVar_eq, mC_eq, m2_eq, mNil_eq, mPass_eq, mSeq_eq, mSet_eq, mRet_eq, mDrop_eq, mIf_eq, mB_eq, isB_eq, mAndT_eq, mOrT_eq, mNotT_eq, mAnd_eq, mOr_eq, mNot_eq, mIfE_eq, mChain_eq, aNil_eq, aCons_eq, mTup_eq, mDisp_eq, mLst_eq, mLoc_eq, mOwnL_eq, mCall_eq, mCallK_eq, mAsg_eq, mFor_eq, iSeq_eq, iSeqD_lst, iSeqD_tup, iLst_eq, seqD_lst, iLoc_eq, locD_eq, iScr_eq, scrD_eq, iRange1_eq, iRange2_eq, iEnumM_eq, mLc_eq, mYes_eq, mQ_eq, mQL_eq, mA_eq, mB1_eq, hLen_eq, hTup_eq, hList_eq, hAbs_eq, hInt_eq, hIntB_eq, hMax2_eq, hMin2_eq, gNeg_eq, gI_eq, gI0_eq, gIx_tup, gIx_lst, gIx_scr, mSetC_eq, mApp_eq, mAppC_eq, qOwn_eq, gLen_tup, gLen_lst, gLen_scr, mDNewK_eq, mDGet2_eq, mDPut_eq, mDSet_eq, dictAt_eq, dictR_eq, keyD_int, keyD_str, mPar_eq, sNil_eq, sVal_eq, sOwnL_eq, setSl_nil, setSl_cons, setD_nil, setD_cons, pat_nm, pat_tp, pats_nil, pats_cons, wipeM_nil, wipeM_cons, forL_nil, lcL_nil, n2_eq, atI0, atI1, atI2, gNe_strs, gEq_strs, gNe_ints, gEq_ints, sz_1, sz_2, sz_3, sz_4, sz_5, sz_6, sz_7, sz_8, sz_9, sz_10, sz_11, sz_12, sz_13, sz_14, sz_15, sz_16, sz_17, sz_18, sz_19, sz_20, mLock_eq, nLock_eq, dictVar_eq, iKeysF_eq, keyV_inl, mRest_eq, restAt_eq, mExt_eq, iTup_eq, tupD_tup, mRetO_eq, gIsB_eq, gNotB_eq, gIsN_non, gIsN_int, gIsN_bl, gIsN_str, gIsN_tup, gIsN_lst, gIsN_loc, gNotN_non, gNotN_int, gNotN_bl, gNotN_str, gNotN_tup, gNotN_lst, gNotN_loc, iZip_eq, mAsg2_eq, mAug_eq, hSortedR_eq, mV_eq, mVL_eq, anyD_lst, anyD_tup, anyD_scr, anyD_loc, mIxO_eq, mSetO_eq, oNone_eq, oSome_eq, mSlT_eq, mSlQ_eq, mTruQ_eq, iRg1_eq, iRg2_eq, mNNew_eq, dictT_eq, mNGet1_eq, mNGet2_eq, gNGet_eq, gNIn_eq, putT_eq, setT_eq, mNPut_eq, mNSet_eq, mDGet1_eq, aStar_eq, mDCopy_eq, gDIn_eq, mIns_eq, mRevQ_eq, mKeysL_eq, mItemsL_eq, mDPop_eq, mBad_eq, mAsgS_eq, mAsgSS_eq, hStrI_eq, gReprA_loc, gReprA_tup, gReprA_lst, gReprA_non, gReprA_bl, gReprA_int, gReprA_str, mRevT_eq, mUp_eq, mSeqX_eq, mIfX_eq, mRaise1_eq, mCallX_eq, mDropX_eq, mSetX_eq, mRetX_eq, mTryF_eq, mLc2_eq, hSortedDB_eq, mSortSet_eq, Nat.zero_le, Nat.zero_add, Nat.reduceAdd, and_self, mDef_eq, List.getElem?_cons_zero, List.getElem?_cons_succ, List.set, List.length_cons, List.length_nil, List.map_cons, List.map_nil, List.replicate, List.cons_append, List.nil_append, List.append_nil, if_true, if_false, ite_true, ite_false, Bool.false_eq_true, Bool.true_eq_false, Bool.not_true, Bool.not_false, List.zip_cons_cons, List.zip_nil_left, i1, e1, z1, a1, mSlT, oSome, oNone, cz, ez, e2, z2, a2]
/-! ### runs in order -/
def qW (r : Pr) : PyData := .tuple [.int r.1, .int r.2.1]
theorem toP_W (r : Pr) : toP (dP r) = some (qW r) := rfl
theorem encD_W (r : Pr) : encD (dP r) = qW r := by unfold encD; rw [toP_W]; rfl
theorem lt_W {a b : Pr} (h : a.1 = b.1 → a = b) : PySem.W.dataLt (qW a) (qW b) = decide (a.1 < b.1) := by
  by_cases c : a.1 = b.1
  · have := h c
    subst this
    rw [show PySem.W.dataLt (qW a) (qW a) = false from PyProof.Rows.lex_irrefl _, decide_eq_false (by omega)]
  · unfold qW
    rw [PySem.W.dataLt_tuple, PySem.W.dataLt_cons (by simp [PySem.W.alike]), PySem.W.dataLt_int]
    simp [PyData.eqv, c]
theorem sortDR_P {l : List Pr} (h : ∀ a ∈ l, ∀ b ∈ l, a.1 = b.1 → a = b) : sortDR false (l.map dP) = (srt l).map dP := by
  unfold sortDR srt
  refine (List.map_mergeSort fun a ha b hb => ?_).symm
  show _ = !PySem.W.dataLt (encD (dP b)) (encD (dP a))
  rw [encD_W, encD_W, lt_W (h b hb a ha), ← decide_not]
  exact decide_eq_decide.mpr (by omega)
theorem sortedB_P {l : List Pr} (h : ∀ a ∈ l, ∀ b ∈ l, a.1 = b.1 → a = b) (S : Store) : hSortedB false (l.map dP) S = .ok ((srt l).map dP) S := by
  unfold hSortedB
  rw [toPs_map toP_W]
  dsimp only
  rw [if_pos]
  · exact congrArg (fun x => R.ok x S) (sortDR_P h)
  · refine ⟨?_, ?_, depthAll_map fun t _ => by simp [qW, PyData.depth, PyData.depthAll]⟩
    · rw [List.all_eq_true]
      intro x hx
      rw [List.all_eq_true]
      intro y hy
      obtain ⟨a, _, ea⟩ := List.mem_map.mp hx
      obtain ⟨b, _, eb⟩ := List.mem_map.mp hy
      rw [← ea, ← eb]
      simp [qW, PySem.W.alike, PySem.W.alikeAll]
    · unfold sortableB
      rw [Bool.or_eq_true, List.all_eq_true]
      refine .inl fun x hx => ?_
      obtain ⟨a, _, ea⟩ := List.mem_map.mp hx
      rw [← ea]; rfl
theorem joined_run {l m : Lot} (h : Neat l) (g : Neat m) (h0 : ∀ r ∈ l, 0 ≤ r.1) (g0 : ∀ r ∈ m, 0 ≤ r.1) (hl : l.length ≤ 1000) (hm : m.length ≤ 1000) (S : Store) : m_p_joined [.tup (l.map dP), .tup (m.map dP)] S = .ok (.tup ((joinedL l m).map dP)) S := by
  have n1 := fun S => eqP_nil l S
  have n2 := fun S => eqP_nil m S
  have cat : ∀ S, gCatT (.tup (l.map dP)) (.tup (m.map dP)) S = .ok (.tup ((l ++ m).map dP)) S := fun S => by rw [catT_ok _ _ _ (by simp only [List.length_map]; omega), List.map_append]
  unfold m_p_joined b_p_joined joinedL
  by_cases cl : l = []
  · have n1' : ∀ S, gEqA (.tup (l.map dP)) (.tup []) S = .ok (.bl true) S := fun S => by rw [n1, cl]; rfl
    rw [if_pos (.inl cl)]
    simp only [bind_ok_eq, bind_bad_eq, mVar_eq, mC_eq, m2_eq, mNil_eq, mPass_eq, mSeq_eq, mSet_eq, mRet_eq, mDrop_eq, mIf_eq, mB_eq, isB_eq, mAndT_eq, mOrT_eq, mNotT_eq, mAnd_eq, mOr_eq, mNot_eq, mIfE_eq, mChain_eq, aNil_eq, aCons_eq, mTup_eq, mDisp_eq, mLst_eq, mLoc_eq, mOwnL_eq, mCall_eq, mCallK_eq, mAsg_eq, mFor_eq, iSeq_eq, iSeqD_lst, iSeqD_tup, iLst_eq, seqD_lst, iLoc_eq, locD_eq, iScr_eq, scrD_eq, iRange1_eq, iRange2_eq, iEnumM_eq, mLc_eq, mYes_eq, mQ_eq, mQL_eq, mA_eq, mB1_eq, hLen_eq, hTup_eq, hList_eq, hAbs_eq, hInt_eq, hIntB_eq, hMax2_eq, hMin2_eq, gNeg_eq, gI_eq, gI0_eq, gIx_tup, gIx_lst, gIx_scr, gIx_loc, mSetC_eq, putC_eq, mApp_eq, mAppC_eq, qOwn_eq, gLen_tup, gLen_lst, gLen_scr, mDNewK_eq, mDGet2_eq, mDPut_eq, mDSet_eq, dictAt_eq, dictR_eq, keyD_int, keyD_str, mPar_eq, sNil_eq, sVal_eq, sOwnL_eq, setSl_nil, setSl_cons, setD_nil, setD_cons, pat_nm, pat_tp, pats_nil, pats_cons, wipeM_nil, wipeM_cons, forL_nil, lcL_nil, n2_eq, atI0, atI1, atI2, gNe_strs, gEq_strs, gNe_ints, gEq_ints, sz_1, sz_2, sz_3, sz_4, sz_5, sz_6, sz_7, sz_8, sz_9, sz_10, sz_11, sz_12, sz_13, sz_14, sz_15, sz_16, sz_17, sz_18, sz_19, sz_20, mLock_eq, nLock_eq, dictVar_eq, iKeysF_eq, keyV_inl, mRest_eq, restAt_eq, mExt_eq, iTup_eq, tupD_tup, mRetO_eq, gIsB_eq, gNotB_eq, gIsN_non, gIsN_int, gIsN_bl, gIsN_str, gIsN_tup, gIsN_lst, gIsN_loc, gNotN_non, gNotN_int, gNotN_bl, gNotN_str, gNotN_tup, gNotN_lst, gNotN_loc, iZip_eq, mAsg2_eq, mAug_eq, hSortedR_eq, mV_eq, mVL_eq, anyD_lst, anyD_tup, anyD_scr, anyD_loc, mIxO_eq, mSetO_eq, oNone_eq, oSome_eq, mSlT_eq, mSlQ_eq, mTruQ_eq, iRg1_eq, iRg2_eq, mNNew_eq, dictT_eq, mNGet1_eq, mNGet2_eq, gNGet_eq, gNIn_eq, putT_eq, setT_eq, mNPut_eq, mNSet_eq, mDGet1_eq, aStar_eq, mDCopy_eq, gDIn_eq, mIns_eq, mRevQ_eq, mKeysL_eq, mItemsL_eq, mDPop_eq, mBad_eq, mAsgS_eq, mAsgSS_eq, hStrI_eq, gReprA_loc, gReprA_tup, gReprA_lst, gReprA_non, gReprA_bl, gReprA_int, gReprA_str, mRevT_eq, mUp_eq, mSeqX_eq, mIfX_eq, mRaise1_eq, mCallX_eq, mDropX_eq, mSetX_eq, mRetX_eq, mTryF_eq, mLc2_eq, hSortedDB_eq, mSortSet_eq, Nat.zero_le, Nat.zero_add, Nat.reduceAdd, and_self, mDef_eq, List.getElem?_cons_zero, List.getElem?_cons_succ, List.set, List.length_cons, List.length_nil, List.map_cons, List.map_nil, List.replicate, List.cons_append, List.nil_append, List.append_nil, if_true, if_false, ite_true, ite_false, Bool.false_eq_true, Bool.true_eq_false, Bool.not_true, Bool.not_false, List.zip_cons_cons, List.zip_nil_left, n1', n2, cat]
  · have n1' : ∀ S, gEqA (.tup (l.map dP)) (.tup []) S = .ok (.bl false) S := fun S => by rw [n1, meets_isEmpty cl]
    by_cases cm : m = []
    · have n2' : ∀ S, gEqA (.tup (m.map dP)) (.tup []) S = .ok (.bl true) S := fun S => by rw [n2, cm]; rfl
      rw [if_pos (.inr cm)]
      simp only [bind_ok_eq, bind_bad_eq, mVar_eq, mC_eq, m2_eq, mNil_eq, mPass_eq, mSeq_eq, mSet_eq, mRet_eq, mDrop_eq, mIf_eq, mB_eq, isB_eq, mAndT_eq, mOrT_eq, mNotT_eq, mAnd_eq, mOr_eq, mNot_eq, mIfE_eq, mChain_eq, aNil_eq, aCons_eq, mTup_eq, mDisp_eq, mLst_eq, mLoc_eq, mOwnL_eq, mCall_eq, mCallK_eq, mAsg_eq, mFor_eq, iSeq_eq, iSeqD_lst, iSeqD_tup, iLst_eq, seqD_lst, iLoc_eq, locD_eq, iScr_eq, scrD_eq, iRange1_eq, iRange2_eq, iEnumM_eq, mLc_eq, mYes_eq, mQ_eq, mQL_eq, mA_eq, mB1_eq, hLen_eq, hTup_eq, hList_eq, hAbs_eq, hInt_eq, hIntB_eq, hMax2_eq, hMin2_eq, gNeg_eq, gI_eq, gI0_eq, gIx_tup, gIx_lst, gIx_scr, gIx_loc, mSetC_eq, putC_eq, mApp_eq, mAppC_eq, qOwn_eq, gLen_tup, gLen_lst, gLen_scr, mDNewK_eq, mDGet2_eq, mDPut_eq, mDSet_eq, dictAt_eq, dictR_eq, keyD_int, keyD_str, mPar_eq, sNil_eq, sVal_eq, sOwnL_eq, setSl_nil, setSl_cons, setD_nil, setD_cons, pat_nm, pat_tp, pats_nil, pats_cons, wipeM_nil, wipeM_cons, forL_nil, lcL_nil, n2_eq, atI0, atI1, atI2, gNe_strs, gEq_strs, gNe_ints, gEq_ints, sz_1, sz_2, sz_3, sz_4, sz_5, sz_6, sz_7, sz_8, sz_9, sz_10, sz_11, sz_12, sz_13, sz_14, sz_15, sz_16, sz_17, sz_18, sz_19, sz_20, mLock_eq, nLock_eq, dictVar_eq, iKeysF_eq, keyV_inl, mRest_eq, restAt_eq, mExt_eq, iTup_eq, tupD_tup, mRetO_eq, gIsB_eq, gNotB_eq, gIsN_non, gIsN_int, gIsN_bl, gIsN_str, gIsN_tup, gIsN_lst, gIsN_loc, gNotN_non, gNotN_int, gNotN_bl, gNotN_str, gNotN_tup, gNotN_lst, gNotN_loc, iZip_eq, mAsg2_eq, mAug_eq, hSortedR_eq, mV_eq, mVL_eq, anyD_lst, anyD_tup, anyD_scr, anyD_loc, mIxO_eq, mSetO_eq, oNone_eq, oSome_eq, mSlT_eq, mSlQ_eq, mTruQ_eq, iRg1_eq, iRg2_eq, mNNew_eq, dictT_eq, mNGet1_eq, mNGet2_eq, gNGet_eq, gNIn_eq, putT_eq, setT_eq, mNPut_eq, mNSet_eq, mDGet1_eq, aStar_eq, mDCopy_eq, gDIn_eq, mIns_eq, mRevQ_eq, mKeysL_eq, mItemsL_eq, mDPop_eq, mBad_eq, mAsgS_eq, mAsgSS_eq, hStrI_eq, gReprA_loc, gReprA_tup, gReprA_lst, gReprA_non, gReprA_bl, gReprA_int, gReprA_str, mRevT_eq, mUp_eq, mSeqX_eq, mIfX_eq, mRaise1_eq, mCallX_eq, mDropX_eq, mSetX_eq, mRetX_eq, mTryF_eq, mLc2_eq, hSortedDB_eq, mSortSet_eq, Nat.zero_le, Nat.zero_add, Nat.reduceAdd, and_self, mDef_eq, List.getElem?_cons_zero, List.getElem?_cons_succ, List.set, List.length_cons, List.length_nil, List.map_cons, List.map_nil, List.replicate, List.cons_append, List.nil_append, List.append_nil, if_true, if_false, ite_true, ite_false, Bool.false_eq_true, Bool.true_eq_false, Bool.not_true, Bool.not_false, List.zip_cons_cons, List.zip_nil_left, n1', n2', cat]
    · have n2' : ∀ S, gEqA (.tup (m.map dP)) (.tup []) S = .ok (.bl false) S := fun S => by rw [n2, meets_isEmpty cm]
      have hw := withoutL_len m l
      have e1 := without_ok m l (by omega) (by omega)
      have ap := joined_apart h g h0 g0
      have cat2 : ∀ S, gCatT (.tup (l.map dP)) (.tup ((withoutL m l).map dP)) S = .ok (.tup ((l ++ withoutL m l).map dP)) S := fun S => by rw [catT_ok _ _ _ (by simp only [List.length_map]; omega), List.map_append]
      have es := sortedB_P ap.firsts
      have ek := knittedP_ok (srt (l ++ withoutL m l)) (by rw [(srt_perm _).length_eq, List.length_append]; omega)
      rw [if_neg (by rintro (z | z); exact cl z; exact cm z)]
      simp only [bind_ok_eq, bind_bad_eq, mVar_eq, mC_eq, m2_eq, mNil_eq, mPass_eq, mSeq_eq, mSet_eq, mRet_eq, mDrop_eq, mIf_eq, mB_eq, isB_eq, mAndT_eq, mOrT_eq, mNotT_eq, mAnd_eq, mOr_eq, mNot_eq, mIfE_eq, mChain_eq, aNil_eq, aCons_eq, mTup_eq, mDisp_eq, mLst_eq, mLoc_eq, mOwnL_eq, mCall_eq, mCallK_eq, mAsg_eq, mFor_eq, iSeq_eq, iSeqD_lst, iSeqD_tup, iLst_eq, seqD_lst, iLoc_eq, locD_eq, iScr_eq, scrD_eq, iRange1_eq, iRange2_eq, iEnumM_eq, mLc_eq, mYes_eq, mQ_eq, mQL_eq, mA_eq, mB1_eq, hLen_eq, hTup_eq, hList_eq, hAbs_eq, hInt_eq, hIntB_eq, hMax2_eq, hMin2_eq, gNeg_eq, gI_eq, gI0_eq, gIx_tup, gIx_lst, gIx_scr, gIx_loc, mSetC_eq, putC_eq, mApp_eq, mAppC_eq, qOwn_eq, gLen_tup, gLen_lst, gLen_scr, mDNewK_eq, mDGet2_eq, mDPut_eq, mDSet_eq, dictAt_eq, dictR_eq, keyD_int, keyD_str, mPar_eq, sNil_eq, sVal_eq, sOwnL_eq, setSl_nil, setSl_cons, setD_nil, setD_cons, pat_nm, pat_tp, pats_nil, pats_cons, wipeM_nil, wipeM_cons, forL_nil, lcL_nil, n2_eq, atI0, atI1, atI2, gNe_strs, gEq_strs, gNe_ints, gEq_ints, sz_1, sz_2, sz_3, sz_4, sz_5, sz_6, sz_7, sz_8, sz_9, sz_10, sz_11, sz_12, sz_13, sz_14, sz_15, sz_16, sz_17, sz_18, sz_19, sz_20, mLock_eq, nLock_eq, dictVar_eq, iKeysF_eq, keyV_inl, mRest_eq, restAt_eq, mExt_eq, iTup_eq, tupD_tup, mRetO_eq, gIsB_eq, gNotB_eq, gIsN_non, gIsN_int, gIsN_bl, gIsN_str, gIsN_tup, gIsN_lst, gIsN_loc, gNotN_non, gNotN_int, gNotN_bl, gNotN_str, gNotN_tup, gNotN_lst, gNotN_loc, iZip_eq, mAsg2_eq, mAug_eq, hSortedR_eq, mV_eq, mVL_eq, anyD_lst, anyD_tup, anyD_scr, anyD_loc, mIxO_eq, mSetO_eq, oNone_eq, oSome_eq, mSlT_eq, mSlQ_eq, mTruQ_eq, iRg1_eq, iRg2_eq, mNNew_eq, dictT_eq, mNGet1_eq, mNGet2_eq, gNGet_eq, gNIn_eq, putT_eq, setT_eq, mNPut_eq, mNSet_eq, mDGet1_eq, aStar_eq, mDCopy_eq, gDIn_eq, mIns_eq, mRevQ_eq, mKeysL_eq, mItemsL_eq, mDPop_eq, mBad_eq, mAsgS_eq, mAsgSS_eq, hStrI_eq, gReprA_loc, gReprA_tup, gReprA_lst, gReprA_non, gReprA_bl, gReprA_int, gReprA_str, mRevT_eq, mUp_eq, mSeqX_eq, mIfX_eq, mRaise1_eq, mCallX_eq, mDropX_eq, mSetX_eq, mRetX_eq, mTryF_eq, mLc2_eq, hSortedDB_eq, mSortSet_eq, Nat.zero_le, Nat.zero_add, Nat.reduceAdd, and_self, mDef_eq, List.getElem?_cons_zero, List.getElem?_cons_succ, List.set, List.length_cons, List.length_nil, List.map_cons, List.map_nil, List.replicate, List.cons_append, List.nil_append, List.append_nil, if_true, if_false, ite_true, ite_false, Bool.false_eq_true, Bool.true_eq_false, Bool.not_true, Bool.not_false, List.zip_cons_cons, List.zip_nil_left, n1', n2', e1, cat2, es, ek]
theorem is_within_ok (l m : Lot) (hl : l.length ≤ 1000) (hm : m.length ≤ 1000) (S : Store) : m_p_is_within [.tup (l.map dP), .tup (m.map dP)] S = .ok (.bl (withoutL l m).isEmpty) S := by
  have e1 := without_ok l m (by omega) (by omega)
  have e2 := fun S => eqP_nil (withoutL l m) S
  unfold m_p_is_within b_p_is_within
  simp only [bind_ok_eq, bind_bad_eq, mVar_eq, mC_eq, m2_eq, mNil_eq, mPass_eq, mSeq_eq, mSet_eq, mRet_eq, mDrop_eq, mIf_eq, mB_eq, isB_eq, mAndT_eq, mOrT_eq, mNotT_eq, mAnd_eq, mOr_eq, mNot_eq, mIfE_eq, mChain_eq, aNil_eq, aCons_eq, mTup_eq, mDisp_eq, mLst_eq, mLoc_eq, mOwnL_eq, mCall_eq, mCallK_eq, mAsg_eq, mFor_eq, iSeq_eq, iSeqD_lst, iSeqD_tup, iLst_eq, seqD_lst, iLoc_eq, locD_eq, iScr_eq, scrD_eq, iRange1_eq, iRange2_eq, iEnumM_eq, mLc_eq, mYes_eq, mQ_eq, mQL_eq, mA_eq, mB1_eq, hLen_eq, hTup_eq, hList_eq, hAbs_eq, hInt_eq, hIntB_eq, hMax2_eq, hMin2_eq, gNeg_eq, gI_eq, gI0_eq, gIx_tup, gIx_lst, gIx_scr, gIx_loc, mSetC_eq, putC_eq, mApp_eq, mAppC_eq, qOwn_eq, gLen_tup, gLen_lst, gLen_scr, mDNewK_eq, mDGet2_eq, mDPut_eq, mDSet_eq, dictAt_eq, dictR_eq, keyD_int, keyD_str, mPar_eq, sNil_eq, sVal_eq, sOwnL_eq, setSl_nil, setSl_cons, setD_nil, setD_cons, pat_nm, pat_tp, pats_nil, pats_cons, wipeM_nil, wipeM_cons, forL_nil, lcL_nil, n2_eq, atI0, atI1, atI2, gNe_strs, gEq_strs, gNe_ints, gEq_ints, sz_1, sz_2, sz_3, sz_4, sz_5, sz_6, sz_7, sz_8, sz_9, sz_10, sz_11, sz_12, sz_13, sz_14, sz_15, sz_16, sz_17, sz_18, sz_19, sz_20, mLock_eq, nLock_eq, dictVar_eq, iKeysF_eq, keyV_inl, mRest_eq, restAt_eq, mExt_eq, iTup_eq, tupD_tup, mRetO_eq, gIsB_eq, gNotB_eq, gIsN_non, gIsN_int, gIsN_bl, gIsN_str, gIsN_tup, gIsN_lst, gIsN_loc, gNotN_non, gNotN_int, gNotN_bl, gNotN_str, gNotN_tup, gNotN_lst, gNotN_loc, iZip_eq, mAsg2_eq, mAug_eq, hSortedR_eq, mV_eq, mVL_eq, anyD_lst, anyD_tup, anyD_scr, anyD_loc, mIxO_eq, mSetO_eq, oNone_eq, oSome_eq, mSlT_eq, mSlQ_eq, mTruQ_eq, iRg1_eq, iRg2_eq, mNNew_eq, dictT_eq, mNGet1_eq, mNGet2_eq, gNGet_eq, gNIn_eq, putT_eq, setT_eq, mNPut_eq, mNSet_eq, mDGet1_eq, aStar_eq, mDCopy_eq, gDIn_eq, mIns_eq, mRevQ_eq, mKeysL_eq, mItemsL_eq, mDPop_eq, mBad_eq, mAsgS_eq, mAsgSS_eq, hStrI_eq, gReprA_loc, gReprA_tup, gReprA_lst, gReprA_non, gReprA_bl, gReprA_int, gReprA_str, mRevT_eq, mUp_eq, mSeqX_eq, mIfX_eq, mRaise1_eq, mCallX_eq, mDropX_eq, mSetX_eq, mRetX_eq, mTryF_eq, mLc2_eq, hSortedDB_eq, mSortSet_eq, Nat.zero_le, Nat.zero_add, Nat.reduceAdd, and_self, mDef_eq, List.getElem?_cons_zero, List.getElem?_cons_succ, List.set, List.length_cons, List.length_nil, List.map_cons, List.map_nil, List.replicate, List.cons_append, List.nil_append, List.append_nil, if_true, if_false, ite_true, ite_false, Bool.false_eq_true, Bool.true_eq_false, Bool.not_true, Bool.not_false, List.zip_cons_cons, List.zip_nil_left, e1, e2]
/-! ### points picked -/
theorem picked_turn (x0 : Option Slot) (r : Pr) (A : Lot) (m k : Int) (x6 x7 : Option Slot) (S : Store) (hA : A.length < 100000) :
    ∃ y6 y7, b_p_picked_1 [x0, some (.val (.int m)), some (.val (.int k)), some (.own (.lst (A.map dP))), some (.val (.int r.1)), some (.val (.int r.2.1)), x6, x7] S = .ok (.nx [x0, some (.val (.int (m - (min r.2.1 (min (r.1 + k) (r.2.1 + 1) + m - 1) - min (r.1 + k) (r.2.1 + 1) + 1)))), some (.val (.int (k - (min (r.1 + k) (r.2.1 + 1) - r.1)))),
      some (.own (.lst ((A ++ (if min (r.1 + k) (r.2.1 + 1) ≤ min r.2.1 (min (r.1 + k) (r.2.1 + 1) + m - 1) then [(min (r.1 + k) (r.2.1 + 1), min r.2.1 (min (r.1 + k) (r.2.1 + 1) + m - 1), ())] else [])).map dP))), some (.val (.int r.1)), some (.val (.int r.2.1)), y6, y7]) S := by
  have z : A.length < PySem.sizeLine := small_lt (by omega)
  refine ⟨some (.val (.int (min (r.1 + k) (r.2.1 + 1)))), some (.val (.int (min r.2.1 (min (r.1 + k) (r.2.1 + 1) + m - 1)))), ?_⟩
  have h1 : (if r.2.1 + 1 < r.1 + k then r.2.1 + 1 else r.1 + k) = min (r.1 + k) (r.2.1 + 1) := by split <;> omega
  generalize min (r.1 + k) (r.2.1 + 1) = b at h1 ⊢
  have h2 : (if b + m - 1 < r.2.1 then b + m - 1 else r.2.1) = min r.2.1 (b + m - 1) := by split <;> omega
  generalize min r.2.1 (b + m - 1) = e at h2 ⊢
  have hd : ∀ r : Pr, dP r = .tup [.int r.1, .int r.2.1] := fun _ => rfl
  unfold b_p_picked_1
  by_cases c : b ≤ e
  · simp only [if_pos c]
    simp only [bind_ok_eq, bind_bad_eq, mVar_eq, mC_eq, m2_eq, mNil_eq, mPass_eq, mSeq_eq, mSet_eq, mRet_eq, mDrop_eq, mIf_eq, mB_eq, isB_eq, mAndT_eq, mOrT_eq, mNotT_eq, mAnd_eq, mOr_eq, mNot_eq, mIfE_eq, mChain_eq, aNil_eq, aCons_eq, mTup_eq, mDisp_eq, mLst_eq, mLoc_eq, mOwnL_eq, mCall_eq, mCallK_eq, mAsg_eq, mFor_eq, iSeq_eq, iSeqD_lst, iSeqD_tup, iLst_eq, seqD_lst, iLoc_eq, locD_eq, iScr_eq, scrD_eq, iRange1_eq, iRange2_eq, iEnumM_eq, mLc_eq, mYes_eq, mQ_eq, mQL_eq, mA_eq, mB1_eq, hLen_eq, hTup_eq, hList_eq, hAbs_eq, hInt_eq, hIntB_eq, hMax2_eq, hMin2_eq, gNeg_eq, gI_eq, gI0_eq, gIx_tup, gIx_lst, gIx_scr, gIx_loc, mSetC_eq, putC_eq, mApp_eq, mAppC_eq, qOwn_eq, gLen_tup, gLen_lst, gLen_scr, mDNewK_eq, mDGet2_eq, mDPut_eq, mDSet_eq, dictAt_eq, dictR_eq, keyD_int, keyD_str, mPar_eq, sNil_eq, sVal_eq, sOwnL_eq, setSl_nil, setSl_cons, setD_nil, setD_cons, pat_nm, pat_tp, pats_nil, pats_cons, wipeM_nil, wipeM_cons, forL_nil, lcL_nil, n2_eq, atI0, atI1, atI2, gNe_strs, gEq_strs, gNe_ints, gEq_ints, sz_1, sz_2, sz_3, sz_4, sz_5, sz_6, sz_7, sz_8, sz_9, sz_10, sz_11, sz_12, sz_13, sz_14, sz_15, sz_16, sz_17, sz_18, sz_19, sz_20, mLock_eq, nLock_eq, dictVar_eq, iKeysF_eq, keyV_inl, mRest_eq, restAt_eq, mExt_eq, iTup_eq, tupD_tup, mRetO_eq, gIsB_eq, gNotB_eq, gIsN_non, gIsN_int, gIsN_bl, gIsN_str, gIsN_tup, gIsN_lst, gIsN_loc, gNotN_non, gNotN_int, gNotN_bl, gNotN_str, gNotN_tup, gNotN_lst, gNotN_loc, iZip_eq, mAsg2_eq, mAug_eq, hSortedR_eq, mV_eq, mVL_eq, anyD_lst, anyD_tup, anyD_scr, anyD_loc, mIxO_eq, mSetO_eq, oNone_eq, oSome_eq, mSlT_eq, mSlQ_eq, mTruQ_eq, iRg1_eq, iRg2_eq, mNNew_eq, dictT_eq, mNGet1_eq, mNGet2_eq, gNGet_eq, gNIn_eq, putT_eq, setT_eq, mNPut_eq, mNSet_eq, mDGet1_eq, aStar_eq, mDCopy_eq, gDIn_eq, mIns_eq, mRevQ_eq, mKeysL_eq, mItemsL_eq, mDPop_eq, mBad_eq, mAsgS_eq, mAsgSS_eq, hStrI_eq, gReprA_loc, gReprA_tup, gReprA_lst, gReprA_non, gReprA_bl, gReprA_int, gReprA_str, mRevT_eq, mUp_eq, mSeqX_eq, mIfX_eq, mRaise1_eq, mCallX_eq, mDropX_eq, mSetX_eq, mRetX_eq, mTryF_eq, mLc2_eq, hSortedDB_eq, mSortSet_eq, Nat.zero_le, Nat.zero_add, Nat.reduceAdd, and_self, mDef_eq, List.getElem?_cons_zero, List.getElem?_cons_succ, List.set, List.length_cons, List.length_nil, List.map_cons, List.map_nil, List.replicate, List.cons_append, List.nil_append, List.append_nil, if_true, if_false, ite_true, ite_false, Bool.false_eq_true, Bool.true_eq_false, Bool.not_true, Bool.not_false, List.zip_cons_cons, List.zip_nil_left, h1, h2, c, List.length_map, z, List.map_append, hd, decide_true]
  · have c' : (b ≤ e) = False := eq_false c
    simp only [if_neg c]
    simp only [bind_ok_eq, bind_bad_eq, mVar_eq, mC_eq, m2_eq, mNil_eq, mPass_eq, mSeq_eq, mSet_eq, mRet_eq, mDrop_eq, mIf_eq, mB_eq, isB_eq, mAndT_eq, mOrT_eq, mNotT_eq, mAnd_eq, mOr_eq, mNot_eq, mIfE_eq, mChain_eq, aNil_eq, aCons_eq, mTup_eq, mDisp_eq, mLst_eq, mLoc_eq, mOwnL_eq, mCall_eq, mCallK_eq, mAsg_eq, mFor_eq, iSeq_eq, iSeqD_lst, iSeqD_tup, iLst_eq, seqD_lst, iLoc_eq, locD_eq, iScr_eq, scrD_eq, iRange1_eq, iRange2_eq, iEnumM_eq, mLc_eq, mYes_eq, mQ_eq, mQL_eq, mA_eq, mB1_eq, hLen_eq, hTup_eq, hList_eq, hAbs_eq, hInt_eq, hIntB_eq, hMax2_eq, hMin2_eq, gNeg_eq, gI_eq, gI0_eq, gIx_tup, gIx_lst, gIx_scr, gIx_loc, mSetC_eq, putC_eq, mApp_eq, mAppC_eq, qOwn_eq, gLen_tup, gLen_lst, gLen_scr, mDNewK_eq, mDGet2_eq, mDPut_eq, mDSet_eq, dictAt_eq, dictR_eq, keyD_int, keyD_str, mPar_eq, sNil_eq, sVal_eq, sOwnL_eq, setSl_nil, setSl_cons, setD_nil, setD_cons, pat_nm, pat_tp, pats_nil, pats_cons, wipeM_nil, wipeM_cons, forL_nil, lcL_nil, n2_eq, atI0, atI1, atI2, gNe_strs, gEq_strs, gNe_ints, gEq_ints, sz_1, sz_2, sz_3, sz_4, sz_5, sz_6, sz_7, sz_8, sz_9, sz_10, sz_11, sz_12, sz_13, sz_14, sz_15, sz_16, sz_17, sz_18, sz_19, sz_20, mLock_eq, nLock_eq, dictVar_eq, iKeysF_eq, keyV_inl, mRest_eq, restAt_eq, mExt_eq, iTup_eq, tupD_tup, mRetO_eq, gIsB_eq, gNotB_eq, gIsN_non, gIsN_int, gIsN_bl, gIsN_str, gIsN_tup, gIsN_lst, gIsN_loc, gNotN_non, gNotN_int, gNotN_bl, gNotN_str, gNotN_tup, gNotN_lst, gNotN_loc, iZip_eq, mAsg2_eq, mAug_eq, hSortedR_eq, mV_eq, mVL_eq, anyD_lst, anyD_tup, anyD_scr, anyD_loc, mIxO_eq, mSetO_eq, oNone_eq, oSome_eq, mSlT_eq, mSlQ_eq, mTruQ_eq, iRg1_eq, iRg2_eq, mNNew_eq, dictT_eq, mNGet1_eq, mNGet2_eq, gNGet_eq, gNIn_eq, putT_eq, setT_eq, mNPut_eq, mNSet_eq, mDGet1_eq, aStar_eq, mDCopy_eq, gDIn_eq, mIns_eq, mRevQ_eq, mKeysL_eq, mItemsL_eq, mDPop_eq, mBad_eq, mAsgS_eq, mAsgSS_eq, hStrI_eq, gReprA_loc, gReprA_tup, gReprA_lst, gReprA_non, gReprA_bl, gReprA_int, gReprA_str, mRevT_eq, mUp_eq, mSeqX_eq, mIfX_eq, mRaise1_eq, mCallX_eq, mDropX_eq, mSetX_eq, mRetX_eq, mTryF_eq, mLc2_eq, hSortedDB_eq, mSortSet_eq, Nat.zero_le, Nat.zero_add, Nat.reduceAdd, and_self, mDef_eq, List.getElem?_cons_zero, List.getElem?_cons_succ, List.set, List.length_cons, List.length_nil, List.map_cons, List.map_nil, List.replicate, List.cons_append, List.nil_append, List.append_nil, if_true, if_false, ite_true, ite_false, Bool.false_eq_true, Bool.true_eq_false, Bool.not_true, Bool.not_false, List.zip_cons_cons, List.zip_nil_left, h1, h2, c', decide_false]
theorem picked_loop (x0 : Option Slot) (S : Store) : ∀ (l A : Lot) (m k : Int) (x4 x5 x6 x7 : Option Slot), A.length + l.length < 100000 → ∃ ρ' m' k' y4 y5 y6 y7, mForL (.tp [.nm 4, .nm 5]) b_p_picked_1 (l.map dP) [x0, some (.val (.int m)), some (.val (.int k)), some (.own (.lst (A.map dP))), x4, x5, x6, x7] S = .ok (.nx ρ') S ∧
    ρ' = [x0, some (.val (.int m')), some (.val (.int k')), some (.own (.lst ((A ++ pickL l m k).map dP))), y4, y5, y6, y7]
  | [], A, m, k, x4, x5, x6, x7, _ => ⟨_, m, k, x4, x5, x6, x7, rfl, by unfold pickL; rw [List.append_nil]⟩
  | r :: l, A, m, k, x4, x5, x6, x7, hA => by
    rw [List.length_cons] at hA
    obtain ⟨y6, y7, e⟩ := picked_turn x0 r A m k x6 x7 S (by omega)
    unfold pickL
    rw [← List.append_assoc]
    obtain ⟨ρ', m', k', y4, y5, z6, z7, e2, e3⟩ := picked_loop x0 S l (A ++ (if min (r.1 + k) (r.2.1 + 1) ≤ min r.2.1 (min (r.1 + k) (r.2.1 + 1) + m - 1) then [(min (r.1 + k) (r.2.1 + 1), min r.2.1 (min (r.1 + k) (r.2.1 + 1) + m - 1), ())] else [])) (m - (min r.2.1 (min (r.1 + k) (r.2.1 + 1) + m - 1) - min (r.1 + k) (r.2.1 + 1) + 1)) (k - (min (r.1 + k) (r.2.1 + 1) - r.1)) (some (.val (.int r.1))) (some (.val (.int r.2.1))) y6 y7 (by rw [List.length_append]; split <;> simp <;> omega)
    refine ⟨ρ', m', k', y4, y5, z6, z7, ?_, e3⟩
    rw [List.map_cons, forL_cons]
    have hb : (Pat.tp [Pat.nm 4, Pat.nm 5]).bind (dP r) = some [(4, .int r.1), (5, .int r.2.1)] := by simp [dP]
    rw [hb]
    dsimp only
    rw [show setD [x0, some (Slot.val (.int m)), some (.val (.int k)), some (.own (.lst (A.map dP))), x4, x5, x6, x7] [(4, .int r.1), (5, .int r.2.1)] = [x0, some (.val (.int m)), some (.val (.int k)), some (.own (.lst (A.map dP))), some (.val (.int r.1)), some (.val (.int r.2.1)), x6, x7] from rfl, e, bind_ok_eq]
    exact e2
theorem picked_ok (l : Lot) (m k : Int) (hl : l.length ≤ 10000) (S : Store) : m_p_picked [.tup (l.map dP), .int m, .int k] S = .ok (.tup ((pickL l m k).map dP)) S := by
  obtain ⟨ρ', m', k', y4, y5, y6, y7, e, rfl⟩ := picked_loop (some (.val (.tup (l.map dP)))) S l [] m k none none none none (by rw [List.length_nil]; omega)
  have hp := pick_len l m k
  have z : (pickL l m k).length ≤ PySem.sizeLine := small_le (by omega)
  rw [List.nil_append, List.map_nil] at e
  have z0 : (0 : Nat) ≤ PySem.sizeLine := Nat.zero_le _
  unfold m_p_picked b_p_picked
  simp only [bind_ok_eq, bind_bad_eq, mVar_eq, mC_eq, m2_eq, mNil_eq, mPass_eq, mSeq_eq, mSet_eq, mRet_eq, mDrop_eq, mIf_eq, mB_eq, isB_eq, mAndT_eq, mOrT_eq, mNotT_eq, mAnd_eq, mOr_eq, mNot_eq, mIfE_eq, mChain_eq, aNil_eq, aCons_eq, mTup_eq, mDisp_eq, mLst_eq, mLoc_eq, mOwnL_eq, mCall_eq, mCallK_eq, mAsg_eq, mFor_eq, iSeq_eq, iSeqD_lst, iSeqD_tup, iLst_eq, seqD_lst, iLoc_eq, locD_eq, iScr_eq, scrD_eq, iRange1_eq, iRange2_eq, iEnumM_eq, mLc_eq, mYes_eq, mQ_eq, mQL_eq, mA_eq, mB1_eq, hLen_eq, hTup_eq, hList_eq, hAbs_eq, hInt_eq, hIntB_eq, hMax2_eq, hMin2_eq, gNeg_eq, gI_eq, gI0_eq, gIx_tup, gIx_lst, gIx_scr, gIx_loc, mSetC_eq, putC_eq, mApp_eq, mAppC_eq, qOwn_eq, gLen_tup, gLen_lst, gLen_scr, mDNewK_eq, mDGet2_eq, mDPut_eq, mDSet_eq, dictAt_eq, dictR_eq, keyD_int, keyD_str, mPar_eq, sNil_eq, sVal_eq, sOwnL_eq, setSl_nil, setSl_cons, setD_nil, setD_cons, pat_nm, pat_tp, pats_nil, pats_cons, wipeM_nil, wipeM_cons, forL_nil, lcL_nil, n2_eq, atI0, atI1, atI2, gNe_strs, gEq_strs, gNe_ints, gEq_ints, sz_1, sz_2, sz_3, sz_4, sz_5, sz_6, sz_7, sz_8, sz_9, sz_10, sz_11, sz_12, sz_13, sz_14, sz_15, sz_16, sz_17, sz_18, sz_19, sz_20, mLock_eq, nLock_eq, dictVar_eq, iKeysF_eq, keyV_inl, mRest_eq, restAt_eq, mExt_eq, iTup_eq, tupD_tup, mRetO_eq, gIsB_eq, gNotB_eq, gIsN_non, gIsN_int, gIsN_bl, gIsN_str, gIsN_tup, gIsN_lst, gIsN_loc, gNotN_non, gNotN_int, gNotN_bl, gNotN_str, gNotN_tup, gNotN_lst, gNotN_loc, iZip_eq, mAsg2_eq, mAug_eq, hSortedR_eq, mV_eq, mVL_eq, anyD_lst, anyD_tup, anyD_scr, anyD_loc, mIxO_eq, mSetO_eq, oNone_eq, oSome_eq, mSlT_eq, mSlQ_eq, mTruQ_eq, iRg1_eq, iRg2_eq, mNNew_eq, dictT_eq, mNGet1_eq, mNGet2_eq, gNGet_eq, gNIn_eq, putT_eq, setT_eq, mNPut_eq, mNSet_eq, mDGet1_eq, aStar_eq, mDCopy_eq, gDIn_eq, mIns_eq, mRevQ_eq, mKeysL_eq, mItemsL_eq, mDPop_eq, mBad_eq, mAsgS_eq, mAsgSS_eq, hStrI_eq, gReprA_loc, gReprA_tup, gReprA_lst, gReprA_non, gReprA_bl, gReprA_int, gReprA_str, mRevT_eq, mUp_eq, mSeqX_eq, mIfX_eq, mRaise1_eq, mCallX_eq, mDropX_eq, mSetX_eq, mRetX_eq, mTryF_eq, mLc2_eq, hSortedDB_eq, mSortSet_eq, Nat.zero_le, Nat.zero_add, Nat.reduceAdd, and_self, mDef_eq, List.getElem?_cons_zero, List.getElem?_cons_succ, List.set, List.length_cons, List.length_nil, List.map_cons, List.map_nil, List.replicate, List.cons_append, List.nil_append, List.append_nil, if_true, if_false, ite_true, ite_false, Bool.false_eq_true, Bool.true_eq_false, Bool.not_true, Bool.not_false, List.zip_cons_cons, List.zip_nil_left, e, List.length_map, z, z0]
/-! ### points told -/
theorem points_rows (x0 x1 x2 : Option Slot) (S : Store) : ∀ l : Lot, (∀ r ∈ l, -(2 ^ 62) ≤ r.1 ∧ r.1 ≤ r.2.1 ∧ r.2.1 + 1 < 2 ^ 62) → mLcL2 (.tp [.nm 3, .nm 4]) mYes i_p_points_in_1 (.nm 5) [5] mYes e_p_points_in_2 (l.map dP) [x0, x1, x2, none, none, none] S = .ok ((ptsL l).map .int) S
  | [], _ => rfl
  | r :: l, h => by
    have ih := points_rows x0 x1 x2 S l fun x hx => h x (List.mem_cons_of_mem _ hx)
    obtain ⟨h1, h2, h3⟩ := h r List.mem_cons_self
    have b1 : b62 r.1 = true := (b62_iff _).mpr ⟨by omega, by omega⟩
    have b2 : b62 (r.2.1 + 1) = true := (b62_iff _).mpr ⟨by omega, by omega⟩
    have hb : (Pat.tp [Pat.nm 3, Pat.nm 4]).bind (dP r) = some [(3, .int r.1), (4, .int r.2.1)] := by simp [dP]
    have er : rangeD r.1 (r.2.1 + 1) = (ptsR r).map .int := by
      unfold rangeD ptsR
      rw [List.map_map, show (r.2.1 + 1 - r.1) = r.2.1 - r.1 + 1 by omega]
      rfl
    have ei : i_p_points_in_1 [x0, x1, x2, some (.val (.int r.1)), some (.val (.int r.2.1)), none] S = .ok ((ptsR r).map .int) S := by
      unfold i_p_points_in_1
      simp [b1, b2, er]
    have ec := lcL_map (p := .nm 5) (me := e_p_points_in_2) (enc := D.int) (f := D.int) (ρ := [x0, x1, x2, some (.val (D.int r.1)), some (.val (D.int r.2.1)), none]) (S := S) (ptsR r) (fun x _ => ⟨_, rfl, by unfold e_p_points_in_2; simp⟩)
    rw [List.map_cons]
    unfold mLcL2
    rw [hb]
    dsimp only
    rw [mYes_eq, bind_ok_eq, if_pos rfl]
    rw [show setD [x0, x1, x2, none, none, none] [(3, .int r.1), (4, .int r.2.1)] = [x0, x1, x2, some (.val (.int r.1)), some (.val (.int r.2.1)), none] from rfl, ei, bind_ok_eq]
    rw [show wipeM [x0, x1, x2, some (Slot.val (.int r.1)), some (.val (.int r.2.1)), none] [5] = [x0, x1, x2, some (.val (.int r.1)), some (.val (.int r.2.1)), none] from rfl, ec, bind_ok_eq, ih, bind_ok_eq]
    show R.ok _ S = R.ok ((ptsR r ++ ptsL l).map D.int) S
    rw [List.map_append]
theorem points_ok {l : Lot} (h : Rise l) (ht : ∀ r ∈ l, 0 ≤ r.1 ∧ r.2.1 + 1 < 2 ^ 62) (hl : l.length ≤ 10000) (most : Int) (hm : most ≤ 10000) (S : Store) : m_p_points_in [.tup (l.map dP), .int most] S = if most < szL l then .ok (.ex "TooMany" [("many", .int (szL l))]) S else .ok (.rt (.tup ((ptsL l).map .int))) S := by
  have e1 := fun S => size_ok l hl S
  unfold m_p_points_in b_p_points_in
  by_cases c : most < szL l
  · rw [if_pos c]
    simp [mDefX_eq, e1, c]
  · rw [if_neg c]
    have c' : (most < szL l) = False := eq_false c
    have e2 := points_rows (some (.val (.tup (l.map dP)))) (some (.val (.int most))) (some (.val (.int (szL l)))) S l fun r hr => ⟨by have := (ht r hr).1; omega, h.2 r hr, (ht r hr).2⟩
    have hp := ptsL_len h
    have z : (ptsL l).length ≤ PySem.sizeLine := small_le (by omega)
    have hw : wipeM [some (Slot.val (.tup (l.map dP))), some (.val (.int most)), some (.val (.int (szL l))), none, none, none] [3, 4, 5] = [some (.val (.tup (l.map dP))), some (.val (.int most)), some (.val (.int (szL l))), none, none, none] := rfl
    simp [mDefX_eq, e1, c', hw, e2, z]
end Pm
set_option maxRecDepth 100000
set_option maxHeartbeats 4000000
namespace K02
open Mo L2 PySem Pm
theorem knp_snoc (A : List Pr) (r x : Pr) : kn (A ++ [r]) x = if r.2.1 + 1 = x.1 then A ++ [(r.1, x.2.1, ())] else A ++ [r] ++ [x] := by
  rw [kn_snoc]
  by_cases h : r.2.1 + 1 = x.1
  · rw [if_pos ⟨h, rfl⟩, if_pos h]
  · rw [if_neg (fun z => h z.1), if_neg h]
theorem closed_turn {A : List Pr} {r : Pr} {S : Store} {x : Option Slot} (hl : A.length < 100000) :
    b_l_closed_1 [x, some (.own (.lst (A.map dP))), some (.val (.int r.1)), some (.val (.int r.2.1))] S = .ok (.nx [x, some (.own (.lst ((kn A r).map dP))), some (.val (.int r.1)), some (.val (.int r.2.1))]) S := by
  have hz : A.length < PySem.sizeLine := small_lt (by omega)
  have z0 : (0 : Nat) ≤ PySem.sizeLine := Nat.zero_le _
  have hdP : ∀ r : Pr, dP r = .tup [.int r.1, .int r.2.1] := fun _ => rfl
  rcases snoc_cases A with e | ⟨B, q, e⟩
  · subst e
    have z1 : 0 < PySem.sizeLine := by decide
    have en : eqD (.lst []) (.lst []) = some true := eqPl_nil []
    unfold b_l_closed_1
    simp [kn_nil, mEqO, z0, z1, en, hdP]
  · subst e
    rw [knp_snoc]
    have en : eqD (.lst (B.map dP ++ [D.tup [.int q.1, .int q.2.1]])) (.lst []) = some false := by
      have := eqPl_nil (B ++ [q])
      rw [List.map_append, List.map_singleton, hdP] at this
      rw [this]; simp
    have hix : ixN (B.map dP ++ [dP q]).length (-1) = some B.length := by rw [ix_last, List.length_map]
    have hix' : ixN (B.length + 1) (-1) = some B.length := by rw [← hix]; simp
    have hset' : ∀ d, ∀ y : D, (B.map dP ++ [y]).set B.length d = B.map dP ++ [d] := fun d y => by
      rw [List.set_append_right _ _ (by simp)]
      simp
    have hz2 : B.length + 1 < PySem.sizeLine := by simpa using hz
    unfold b_l_closed_1
    rw [List.map_append, List.map_singleton]
    by_cases h1 : q.2.1 + 1 = r.1
    · rw [if_pos h1]
      simp [mEqO, mIxO, mSetO, z0, en, hdP, at_last, h1, hix', hset']
    · rw [if_neg h1]
      have h1' : (q.2.1 + 1 = r.1) = False := eq_false h1
      simp [mEqO, mIxO, mSetO, z0, en, hdP, at_last, h1', hz2]
theorem closed_ok (xs : List Pr) (hl : xs.length < 100000) (S : Store) : m_l_closed [.lst (xs.map dP)] S = .ok (.tup ((knit xs).map dP)) S := by
  obtain ⟨ρ', S', e, ⟨x2, x3, rfl⟩, rfl⟩ := forL_inv (p := .tp [.nm 2, .nm 3]) (mb := b_l_closed_1) (enc := dP) (fun d ρ S' => (∃ x2 x3, ρ = [some (.val (.lst (xs.map dP))), some (.own (.lst ((knit d).map dP))), x2, x3]) ∧ S' = S) xs (ρ := [some (.val (.lst (xs.map dP))), some (.own (.lst [])), none, none]) (S := S) ⟨⟨_, _, rfl⟩, rfl⟩ (by
    rintro d x r ρ S' e ⟨⟨x2, x3, rfl⟩, rfl⟩
    have hd : d.length < 100000 := by rw [e] at hl; simp at hl; omega
    have := knitG_len d
    exact ⟨[(2, .int x.1), (3, .int x.2.1)], _, _, by simp [dP], .inl (closed_turn (A := knit d) (by omega)), ⟨_, _, by rw [knit_add]⟩, rfl⟩)
  have hk := knitG_len xs
  have z0 : (0 : Nat) ≤ PySem.sizeLine := Nat.zero_le _
  have z1 : (knit xs).length ≤ PySem.sizeLine := small_le (by omega)
  unfold m_l_closed b_l_closed
  simp only [bind_ok_eq, bind_bad_eq, mVar_eq, mC_eq, m2_eq, mNil_eq, mPass_eq, mSeq_eq, mSet_eq, mRet_eq, mDrop_eq, mIf_eq, mB_eq, isB_eq, mAndT_eq, mOrT_eq, mNotT_eq, mAnd_eq, mOr_eq, mNot_eq, mIfE_eq, mChain_eq, aNil_eq, aCons_eq, mTup_eq, mDisp_eq, mLst_eq, mLoc_eq, mOwnL_eq, mCall_eq, mCallK_eq, mAsg_eq, mFor_eq, iSeq_eq, iSeqD_lst, iSeqD_tup, iLst_eq, seqD_lst, iLoc_eq, locD_eq, iScr_eq, scrD_eq, iRange1_eq, iRange2_eq, iEnumM_eq, mLc_eq, mYes_eq, mQ_eq, mQL_eq, mA_eq, mB1_eq, hLen_eq, hTup_eq, hList_eq, hAbs_eq, hInt_eq, hIntB_eq, hMax2_eq, hMin2_eq, gNeg_eq, gI_eq, gI0_eq, gIx_tup, gIx_lst, gIx_scr, gIx_loc, mSetC_eq, putC_eq, mApp_eq, mAppC_eq, qOwn_eq, gLen_tup, gLen_lst, gLen_scr, mDNewK_eq, mDGet2_eq, mDPut_eq, mDSet_eq, dictAt_eq, dictR_eq, keyD_int, keyD_str, mPar_eq, sNil_eq, sVal_eq, sOwnL_eq, setSl_nil, setSl_cons, setD_nil, setD_cons, pat_nm, pat_tp, pats_nil, pats_cons, wipeM_nil, wipeM_cons, forL_nil, lcL_nil, n2_eq, atI0, atI1, atI2, gNe_strs, gEq_strs, gNe_ints, gEq_ints, sz_1, sz_2, sz_3, sz_4, sz_5, sz_6, sz_7, sz_8, sz_9, sz_10, sz_11, sz_12, sz_13, sz_14, sz_15, sz_16, sz_17, sz_18, sz_19, sz_20, mLock_eq, nLock_eq, dictVar_eq, iKeysF_eq, keyV_inl, mRest_eq, restAt_eq, mExt_eq, iTup_eq, tupD_tup, mRetO_eq, gIsB_eq, gNotB_eq, gIsN_non, gIsN_int, gIsN_bl, gIsN_str, gIsN_tup, gIsN_lst, gIsN_loc, gNotN_non, gNotN_int, gNotN_bl, gNotN_str, gNotN_tup, gNotN_lst, gNotN_loc, iZip_eq, mAsg2_eq, mAug_eq, hSortedR_eq, mV_eq, mVL_eq, anyD_lst, anyD_tup, anyD_scr, anyD_loc, mIxO_eq, mSetO_eq, oNone_eq, oSome_eq, mSlT_eq, mSlQ_eq, mTruQ_eq, iRg1_eq, iRg2_eq, mNNew_eq, dictT_eq, mNGet1_eq, mNGet2_eq, gNGet_eq, gNIn_eq, putT_eq, setT_eq, mNPut_eq, mNSet_eq, mDGet1_eq, aStar_eq, mDCopy_eq, gDIn_eq, mIns_eq, mRevQ_eq, mKeysL_eq, mItemsL_eq, mDPop_eq, mBad_eq, mAsgS_eq, mAsgSS_eq, hStrI_eq, gReprA_loc, gReprA_tup, gReprA_lst, gReprA_non, gReprA_bl, gReprA_int, gReprA_str, mRevT_eq, mUp_eq, mSeqX_eq, mIfX_eq, mRaise1_eq, mCallX_eq, mDropX_eq, mSetX_eq, mRetX_eq, mTryF_eq, mLc2_eq, hSortedDB_eq, mSortSet_eq, Nat.zero_le, Nat.zero_add, Nat.reduceAdd, and_self, mDef_eq, List.getElem?_cons_zero, List.getElem?_cons_succ, List.set, List.length_cons, List.length_nil, List.map_cons, List.map_nil, List.replicate, List.cons_append, List.nil_append, List.append_nil, if_true, if_false, ite_true, ite_false, Bool.false_eq_true, Bool.true_eq_false, Bool.not_true, Bool.not_false, List.zip_cons_cons, List.zip_nil_left, e, z0, List.length_map, z1]
/-! ### plain lots -/
theorem nice_lot {l : List Pr} (h : ∀ r ∈ l, 0 ≤ r.1 ∧ r.1 < 2 ^ 50 ∧ r.1 ≤ r.2.1 ∧ r.2.1 < 2 ^ 50) : niceD (.tup (l.map dP)) = true ∧ nodesD (.tup (l.map dP)) ≤ 3 * l.length + 1 ∧ depthD (.tup (l.map dP)) ≤ 2 := by
  refine ⟨?_, ?_, ?_⟩
  · rw [niceD]
    refine niceDs_map fun r hr => ?_
    have := h r hr
    simp only [dP, niceD, niceDs, Bool.and_true, Bool.and_eq_true]
    exact ⟨decide_eq_true (log_lt (by omega)), decide_eq_true (log_lt (by omega))⟩
  · rw [nodesD]
    have := nodesDs_map (f := dP) (k := 3) (xs := l) fun r _ => by simp [dP, nodesD, nodesDs]
    omega
  · rw [depthD]
    have := depthDs_map (f := dP) (k := 1) (xs := l) fun r _ => by simp [dP, depthD, depthDs]
    omega
/-- a lot whose points are another's, or near -/
structure Fine (l : Lot) (c : Nat) : Prop where
  neat : Neat l
  pos : ∀ r ∈ l, 0 ≤ r.1 ∧ r.1 < 2 ^ 50 ∧ r.1 ≤ r.2.1 ∧ r.2.1 < 2 ^ 50
  len : l.length ≤ c
theorem Good.fine {l : Lot} {c : Nat} (g : Good l c) : Fine l c := ⟨g.neat, fun r hr => by have := g.pos r hr; have := g.top r hr; have := g.neat.2 r hr; omega, g.len⟩
/-- rows whose points are all points of two good lots -/
theorem fine_of {X l m : Lot} {c d e : Nat} (hl : Good l c) (hm : Good m d) (hX : Neat X) (hp : ∀ p, hasP X p = true → hasP l p = true ∨ hasP m p = true) (he : X.length ≤ e) : Fine X e := by
  have key : ∀ p, hasP X p = true → 0 ≤ p ∧ p < 2 ^ 41 := fun p h => by
    rcases hp p h with q | q
    · obtain ⟨r, hr, a, b⟩ := hasP_iff.mp q
      have := hl.pos r hr; have := hl.top r hr; omega
    · obtain ⟨r, hr, a, b⟩ := hasP_iff.mp q
      have := hm.pos r hr; have := hm.top r hr; omega
  refine ⟨hX, fun r hr => ?_, he⟩
  have h1 := hX.2 r hr
  have a := key r.1 (hasP_iff.mpr ⟨r, hr, Int.le_refl _, h1⟩)
  have b := key r.2.1 (hasP_iff.mpr ⟨r, hr, h1, Int.le_refl _⟩)
  omega
theorem joined_len {l m : Lot} : (joinedL l m).length ≤ 2 * l.length + 2 * m.length + 1 := by
  unfold joinedL
  split
  · rw [List.length_append]; omega
  · have := knitG_len (srt (l ++ withoutL m l))
    rw [(srt_perm _).length_eq, List.length_append] at this
    have := withoutL_len m l
    omega
theorem common_len (l m : Lot) : (commonL l m).length ≤ l.length + m.length := by
  unfold commonL
  rw [List.length_map]
  exact meets_len l m 0 0
/-! ### what the law's own walk tells -/
theorem sel_map (L R : Lot) (h : Bool × Bool → Bool) : ((pcs (twoP L R) (rowsL L R)).filter fun x => h x.2.2).map (fun x => dP (onS (fun _ => ()) x)) = (selP L R (rowsL L R) h).map dP := by
  unfold selP
  rw [List.map_map]
  rfl
theorem sel_len (L R : Lot) (h : Bool × Bool → Bool) : (selP L R (rowsL L R) h).length ≤ 2 * (L.length + R.length) := by
  unfold selP
  rw [List.length_map]
  have := pcs_len (twoP L R) (rowsL L R)
  have := rows_len L R
  have := List.length_filter_le (fun x : Int × Int × (Bool × Bool) => h x.2.2) (pcs (twoP L R) (rowsL L R))
  omega
theorem due_ok {L R : Lot} (h : Bool × Bool → Bool) (hf : h (false, false) = false) {X : Lot} (hX : Neat X) (e : ∀ p, hasP X p = h (hasP L p, hasP R p)) : knit (selP L R (rowsL L R) h) = X := by
  obtain ⟨k1, _, k2⟩ := selP_ok (rows_asc L R) (rows_left L R) (rows_right L R) h hf
  exact lot_eq (knit_neat k1) hX fun p => by rw [rowAt_knit k1, k2]; exact (e p).symm
theorem b_or {a b : Bool} (h : true = (a || b)) : a = true ∨ b = true := by cases a <;> cases b <;> simp_all
theorem b_and {a b : Bool} (h : true = (a && b)) : a = true ∨ b = true := by cases a <;> cases b <;> simp_all
theorem b_not {a b : Bool} (h : true = (a && !b)) : a = true ∨ b = true := by cases a <;> cases b <;> simp_all
def szs (L R : Lot) : List Int := (selP L R (rowsL L R) fun x => x.1).map fun r => r.2.1 - r.1 + 1
theorem two_right_ok {L R : Lot} (gL : Good L 100) (gR : Good R 100) (S : Store) : ∃ S', m_l_two_right [.tup (L.map dP), .tup (R.map dP)] S = .ok (.bl true) S' ∧ Keeps S S' := by
  have nL := gL.len
  have nR := gR.len
  obtain ⟨S1, e1, k1⟩ := pieces_ok gL.neat.rise gR.neat.rise (by omega) (by omega) S
  -- the three dues
  obtain ⟨j1, j2⟩ := Mo.joined_ok gL.neat gR.neat gL.pos gR.pos
  have c1 := common_neat gL.neat gR.neat
  have c2 := (Mo.common_ok gL.neat.rise gR.neat.rise).2
  obtain ⟨w1, w2⟩ := without_ok' gL.neat gR.neat.rise gL.pos gR.pos
  have d1 := due_ok (L := L) (R := R) (fun x => x.1 || x.2) rfl j1 j2
  have d2 := due_ok (L := L) (R := R) (fun x => x.1 && x.2) rfl c1 c2
  have d3 := due_ok (L := L) (R := R) (fun x => x.1 && !x.2) rfl w1 w2
  have hq : ∀ x : Int × Int × (Bool × Bool), dQ x = .tup [.int x.1, .int x.2.1, .bl x.2.2.1, .bl x.2.2.2] := fun _ => rfl
  have cut2 : ∀ x : Int × Int × (Bool × Bool), cutD [.int x.1, .int x.2.1, .bl x.2.2.1, .bl x.2.2.2] none (some 2) = [.int x.1, .int x.2.1] := fun x => cutD_to [.int x.1, .int x.2.1, .bl x.2.2.1, .bl x.2.2.2] 2
  have a3 : ∀ a b c d : D, atI [a, b, c, d] 3 = some d := fun _ _ _ _ => rfl
  have pick : ∀ (h : Bool × Bool → Bool) (mt : MT) (me : ME) (ρ : MEnv) (S : Store), (∀ x : Int × Int × (Bool × Bool), mt (setD ρ [(6, dQ x)]) S = .ok (h x.2.2) S) → (∀ x : Int × Int × (Bool × Bool), me (setD ρ [(6, dQ x)]) S = .ok (dP (onS (fun _ => ()) x)) S) →
      mLcL (.nm 6) mt me ((pcs (twoP L R) (rowsL L R)).map dQ) ρ S = .ok ((selP L R (rowsL L R) h).map dP) S := fun h mt me ρ S a b => by
    rw [← sel_map]
    exact lcL_filter (enc := dQ) (f := fun x => dP (onS (fun _ => ()) x)) (c := fun x => h x.2.2) _ fun x _ => ⟨[(6, dQ x)], rfl, a x, fun _ => b x⟩
  have p1 := fun (ρ : MEnv) (h6 : 6 < ρ.length) (S : Store) => pick (fun x => x.1 || x.2) t_l_two_right_2 e_l_two_right_1 ρ S (fun x => by
    have hv : (ρ.set 6 (some (Slot.val (dQ x))))[6]? = some (some (.val (dQ x))) := List.getElem?_set_self h6
    rw [hq] at hv
    unfold t_l_two_right_2
    cases q : x.2.2.1 <;> (rw [q] at hv; simp [hv, hq, q, a3])) (fun x => by
    have hv : (ρ.set 6 (some (Slot.val (dQ x))))[6]? = some (some (.val (dQ x))) := List.getElem?_set_self h6
    rw [hq] at hv
    unfold e_l_two_right_1
    simp [hv, hq, mSlT, oSome, oNone, cut2, dP, onS])
  have p2 := fun (ρ : MEnv) (h6 : 6 < ρ.length) (S : Store) => pick (fun x => x.1 && x.2) t_l_two_right_4 e_l_two_right_3 ρ S (fun x => by
    have hv : (ρ.set 6 (some (Slot.val (dQ x))))[6]? = some (some (.val (dQ x))) := List.getElem?_set_self h6
    rw [hq] at hv
    unfold t_l_two_right_4
    cases q : x.2.2.1 <;> (rw [q] at hv; simp [hv, hq, q, a3])) (fun x => by
    have hv : (ρ.set 6 (some (Slot.val (dQ x))))[6]? = some (some (.val (dQ x))) := List.getElem?_set_self h6
    rw [hq] at hv
    unfold e_l_two_right_3
    simp [hv, hq, mSlT, oSome, oNone, cut2, dP, onS])
  have p3 := fun (ρ : MEnv) (h6 : 6 < ρ.length) (S : Store) => pick (fun x => x.1 && !x.2) t_l_two_right_6 e_l_two_right_5 ρ S (fun x => by
    have hv : (ρ.set 6 (some (Slot.val (dQ x))))[6]? = some (some (.val (dQ x))) := List.getElem?_set_self h6
    rw [hq] at hv
    unfold t_l_two_right_6
    cases q : x.2.2.1 <;> (rw [q] at hv; simp [hv, hq, q, a3])) (fun x => by
    have hv : (ρ.set 6 (some (Slot.val (dQ x))))[6]? = some (some (.val (dQ x))) := List.getElem?_set_self h6
    rw [hq] at hv
    unfold e_l_two_right_5
    simp [hv, hq, mSlT, oSome, oNone, cut2, dP, onS])
  -- how many
  have hsz : ((selP L R (rowsL L R) fun x => x.1).map fun r => r.2.1 - r.1 + 1).sum = szL L := by
    obtain ⟨k1, k3, k2⟩ := selP_ok (rows_asc L R) (rows_left L R) (rows_right L R) (fun x => x.1) rfl
    exact sz_eq k1 gL.neat.rise (fun r hr => by
      obtain ⟨q, hq, e⟩ := rows_mem.mp (k3 r hr)
      rcases List.mem_append.mp hq with u | u
      · have := gL.pos q u; have := gL.neat.2 q u; omega
      · have := gR.pos q u; have := gR.neat.2 q u; omega) gL.pos k2
  have p4 : ∀ (ρ : MEnv) (h6 : 6 < ρ.length) (S : Store), mLcL (.nm 6) t_l_two_right_8 e_l_two_right_7 ((pcs (twoP L R) (rowsL L R)).map dQ) ρ S = .ok (((selP L R (rowsL L R) fun x => x.1).map fun r => r.2.1 - r.1 + 1).map .int) S := fun ρ h6 S => by
    have := lcL_filter (p := .nm 6) (mt := t_l_two_right_8) (me := e_l_two_right_7) (enc := dQ) (f := fun x => D.int (x.2.1 - x.1 + 1)) (c := fun x : Int × Int × (Bool × Bool) => x.2.2.1) (ρ := ρ) (S := S) (pcs (twoP L R) (rowsL L R)) fun x _ => ⟨[(6, dQ x)], rfl, by
      have hv : (ρ.set 6 (some (Slot.val (dQ x))))[6]? = some (some (.val (dQ x))) := List.getElem?_set_self h6
      rw [hq] at hv
      unfold t_l_two_right_8
      simp [hv, hq], fun _ => by
      have hv : (ρ.set 6 (some (Slot.val (dQ x))))[6]? = some (some (.val (dQ x))) := List.getElem?_set_self h6
      rw [hq] at hv
      unfold e_l_two_right_7
      simp [hv, hq]⟩
    rw [this]
    unfold selP
    rw [List.map_map, List.map_map]
    rfl
  have s1 := sel_len L R (fun x => x.1 || x.2)
  have s2 := sel_len L R (fun x => x.1 && x.2)
  have s3 := sel_len L R (fun x => x.1 && !x.2)
  have s4 := sel_len L R (fun x => x.1)
  have f1 := fun S => closed_ok (selP L R (rowsL L R) fun x => x.1 || x.2) (by omega) S
  have f2 := fun S => closed_ok (selP L R (rowsL L R) fun x => x.1 && x.2) (by omega) S
  have f3 := fun S => closed_ok (selP L R (rowsL L R) fun x => x.1 && !x.2) (by omega) S
  simp only [d1, d2, d3] at f1 f2 f3
  have g1 := fun S => joined_run gL.neat gR.neat gL.pos gR.pos (by omega) (by omega) S
  have g2 := fun S => Pm.common_ok L R (by omega) (by omega) S
  have g3 := fun S => without_ok L R (by omega) (by omega) S
  have g4 := fun S => size_ok L (by omega) S
  have g5 := fun S => is_within_ok L R (by omega) (by omega) S
  have m1 : Fine (joinedL L R) 401 := fine_of gL gR j1 (fun p h => by have q : hasP (joinedL L R) p = (hasP L p || hasP R p) := j2 p; rw [h] at q; exact b_or q) (by have := joined_len (l := L) (m := R); omega)
  have m2 : Fine (commonL L R) 200 := fine_of gL gR c1 (fun p h => by have q : hasP (commonL L R) p = (hasP L p && hasP R p) := c2 p; rw [h] at q; exact b_and q) (by have := common_len L R; omega)
  have m3 : Fine (withoutL L R) 201 := fine_of gL gR w1 (fun p h => by have q : hasP (withoutL L R) p = (hasP L p && !hasP R p) := w2 p; rw [h] at q; exact b_not q) (by have := withoutL_len L R; omega)
  have l1 := fun S => is_lot_ok m1.neat (fun r hr => (m1.pos r hr).1) (by have := m1.len; omega) S
  have l2 := fun S => is_lot_ok m2.neat (fun r hr => (m2.pos r hr).1) (by have := m2.len; omega) S
  have l3 := fun S => is_lot_ok m3.neat (fun r hr => (m3.pos r hr).1) (by have := m3.len; omega) S
  have q1 := nice_lot m1.pos
  have q2 := nice_lot m2.pos
  have q3 := nice_lot m3.pos
  have t1 := m1.len
  have t2 := m2.len
  have t3 := m3.len
  have N1 : NiceD (.lst [.tup ((joinedL L R).map dP), .tup ((commonL L R).map dP), .tup ((withoutL L R).map dP)]) := by
    refine ⟨?_, ?_, ?_⟩
    · rw [niceD]
      simp only [niceDs, q1.1, q2.1, q3.1, Bool.and_true]
    · have := q1.2.1; have := q2.2.1; have := q3.2.1
      rw [nodesD]
      simp only [nodesDs]
      omega
    · have := q1.2.2; have := q2.2.2; have := q3.2.2
      rw [depthD]
      simp only [depthDs]
      omega
  have r1 := fun S => repr_nice N1 S
  have hz4 : (selP L R (rowsL L R) fun x => x.1).length ≤ sizeLine := small_le (by omega)
  have hz1 : (selP L R (rowsL L R) fun x => x.1 || x.2).length ≤ sizeLine := small_le (by omega)
  have hz2 : (selP L R (rowsL L R) fun x => x.1 && x.2).length ≤ sizeLine := small_le (by omega)
  have hz3 : (selP L R (rowsL L R) fun x => x.1 && !x.2).length ≤ sizeLine := small_le (by omega)
  have hs : ∀ S, hSum (((selP L R (rowsL L R) fun x => x.1).map fun r => r.2.1 - r.1 + 1).map .int) S = .ok (.int (szL L)) S := fun S => by rw [hSum_ints, hsz]
  have p5 : ∀ (ρ : MEnv) (h7 : 7 < ρ.length) (S : Store), mLcL (.nm 7) mYes e_l_two_right_9 [.tup ((joinedL L R).map dP), .tup ((commonL L R).map dP), .tup ((withoutL L R).map dP)] ρ S = .ok [.bl true, .bl true, .bl true] S := fun ρ h7 S => by
    have hv : ∀ d, (ρ.set 7 (some (Slot.val d)))[7]? = some (some (.val d)) := fun d => List.getElem?_set_self h7
    unfold e_l_two_right_9
    simp [lcL_cons, hv, l1, l2, l3, mLcL]
  refine ⟨S1, ?_, k1⟩
  have z1 : (1 : Nat) < sizeLine := by decide
  have z2 : (2 : Nat) < sizeLine := by decide
  have z3 : (3 : Nat) ≤ sizeLine := by decide
  have z11 : (1 : Nat) ≤ sizeLine := by decide
  have en := fun S => eqP_nil (withoutL L R) S
  have a2 : ∀ a b c : D, atI [a, b, c] 2 = some c := fun _ _ _ => rfl
  have tt : NiceD (.lst [.bl true, .bl true, .bl true]) := ⟨by simp [niceD, niceDs], by simp [nodesD, nodesDs], by simp [depthD, depthDs]⟩
  have N2 : NiceD (.lst [.int (szL L), .bl (withoutL L R).isEmpty, .lst [.bl true, .bl true, .bl true]]) := by
    have hlo := sz_pos gL.neat.rise
    have hhi : szL L < 2 ^ 62 := by
      rw [← cnt_high (p := 2 ^ 41) fun r hr => ⟨gL.neat.2 r hr, gL.top r hr⟩]
      have := cnt_le gL.neat.rise gL.pos (p := 2 ^ 41) (by omega)
      omega
    exact ⟨by simp only [niceD, niceDs, Bool.and_true]; exact decide_eq_true (log_lt (by omega)), by simp [nodesD, nodesDs], by simp [depthD, depthDs]⟩
  have r2 := fun S => repr_nice N2 S
  have hz4' : ((selP L R (rowsL L R) fun x => x.1).map fun r => r.2.1 - r.1 + 1).length ≤ sizeLine := by rw [List.length_map]; exact hz4
  unfold m_l_two_right b_l_two_right
  simp only [bind_ok_eq, bind_bad_eq, mVar_eq, mC_eq, m2_eq, mNil_eq, mPass_eq, mSeq_eq, mSet_eq, mRet_eq, mDrop_eq, mIf_eq, mB_eq, isB_eq, mAndT_eq, mOrT_eq, mNotT_eq, mAnd_eq, mOr_eq, mNot_eq, mIfE_eq, mChain_eq, aNil_eq, aCons_eq, mTup_eq, mDisp_eq, mLst_eq, mLoc_eq, mOwnL_eq, mCall_eq, mCallK_eq, mAsg_eq, mFor_eq, iSeq_eq, iSeqD_lst, iSeqD_tup, iLst_eq, seqD_lst, iLoc_eq, locD_eq, iScr_eq, scrD_eq, iRange1_eq, iRange2_eq, iEnumM_eq, mLc_eq, mYes_eq, mQ_eq, mQL_eq, mA_eq, mB1_eq, hLen_eq, hTup_eq, hList_eq, hAbs_eq, hInt_eq, hIntB_eq, hMax2_eq, hMin2_eq, gNeg_eq, gI_eq, gI0_eq, gIx_tup, gIx_lst, gIx_scr, gIx_loc, mSetC_eq, putC_eq, mApp_eq, mAppC_eq, qOwn_eq, gLen_tup, gLen_lst, gLen_scr, mDNewK_eq, mDGet2_eq, mDPut_eq, mDSet_eq, dictAt_eq, dictR_eq, keyD_int, keyD_str, mPar_eq, sNil_eq, sVal_eq, sOwnL_eq, setSl_nil, setSl_cons, setD_nil, setD_cons, pat_nm, pat_tp, pats_nil, pats_cons, wipeM_nil, wipeM_cons, forL_nil, lcL_nil, n2_eq, atI0, atI1, atI2, gNe_strs, gEq_strs, gNe_ints, gEq_ints, sz_1, sz_2, sz_3, sz_4, sz_5, sz_6, sz_7, sz_8, sz_9, sz_10, sz_11, sz_12, sz_13, sz_14, sz_15, sz_16, sz_17, sz_18, sz_19, sz_20, mLock_eq, nLock_eq, dictVar_eq, iKeysF_eq, keyV_inl, mRest_eq, restAt_eq, mExt_eq, iTup_eq, tupD_tup, mRetO_eq, gIsB_eq, gNotB_eq, gIsN_non, gIsN_int, gIsN_bl, gIsN_str, gIsN_tup, gIsN_lst, gIsN_loc, gNotN_non, gNotN_int, gNotN_bl, gNotN_str, gNotN_tup, gNotN_lst, gNotN_loc, iZip_eq, mAsg2_eq, mAug_eq, hSortedR_eq, mV_eq, mVL_eq, anyD_lst, anyD_tup, anyD_scr, anyD_loc, mIxO_eq, mSetO_eq, oNone_eq, oSome_eq, mSlT_eq, mSlQ_eq, mTruQ_eq, iRg1_eq, iRg2_eq, mNNew_eq, dictT_eq, mNGet1_eq, mNGet2_eq, gNGet_eq, gNIn_eq, putT_eq, setT_eq, mNPut_eq, mNSet_eq, mDGet1_eq, aStar_eq, mDCopy_eq, gDIn_eq, mIns_eq, mRevQ_eq, mKeysL_eq, mItemsL_eq, mDPop_eq, mBad_eq, mAsgS_eq, mAsgSS_eq, hStrI_eq, gReprA_loc, gReprA_tup, gReprA_lst, gReprA_non, gReprA_bl, gReprA_int, gReprA_str, mRevT_eq, mUp_eq, mSeqX_eq, mIfX_eq, mRaise1_eq, mCallX_eq, mDropX_eq, mSetX_eq, mRetX_eq, mTryF_eq, mLc2_eq, hSortedDB_eq, mSortSet_eq, Nat.zero_le, Nat.zero_add, Nat.reduceAdd, and_self, mDef_eq, List.getElem?_cons_zero, List.getElem?_cons_succ, List.set, List.length_cons, List.length_nil, List.map_cons, List.map_nil, List.replicate, List.cons_append, List.nil_append, List.append_nil, if_true, if_false, ite_true, ite_false, Bool.false_eq_true, Bool.true_eq_false, Bool.not_true, Bool.not_false, List.zip_cons_cons, List.zip_nil_left, e1, wipeM, p1, p2, p3, f1, f2, f3, hz1, hz2, hz3, List.length_map, Nat.lt_add_one, Nat.reduceLT, z1, z2, z3, z11, g1, g2, g3, r1, decide_true, p4, hz4, hs, g4, g5, p5, a2, en, r2]
end K02
set_option maxRecDepth 100000
set_option maxHeartbeats 4000000
namespace K02
open Mo L2 PySem Pm
theorem Fine.nice {l : Lot} {c : Nat} (f : Fine l c) (hc : c ≤ 3000) : NiceD (.tup (l.map dP)) := by
  obtain ⟨a, b, d⟩ := nice_lot f.pos
  have := f.len
  exact ⟨a, by omega, by omega⟩
theorem pick_fine {l : Lot} (g : Good l 100) (m : Int) {k : Int} (hk : 0 ≤ k) : Fine (pickL l m k) 100 := by
  refine ⟨pick_neat m k g.neat hk, fun r hr => ?_, Nat.le_trans (pick_len l m k) g.len⟩
  obtain ⟨q, hq, a, b, c⟩ := pick_mem g.neat.2 hk hr
  have := g.pos q hq
  have := g.top q hq
  omega
theorem ne_self {d : D} (h : NiceD d) (S : Store) : gNeA d d S = .ok (.bl false) S := by rw [ne_nice h h, eqv_self h]; rfl
theorem eq_self {d : D} (h : NiceD d) (S : Store) : gEqA d d S = .ok (.bl true) S := by rw [eq_nice h h, eqv_self h]
theorem picked_right_ok {l : Lot} (g : Good l 100) {m k : Int} (hm : 0 ≤ m) (hk : 0 ≤ k) (S : Store) : m_l_picked_right [.tup (l.map dP), .int m, .int k] S = .ok (.bl true) S := by
  have gl := g.len
  have e1 := fun S => size_ok l (by omega) S
  have e2 := fun S => picked_ok l m k (by omega) S
  have fX := pick_fine g m hk
  have nX := fX.nice (by omega)
  have sz := pick_sz g.neat.rise hm hk
  have fl := fX.len
  have e3 := fun S => size_ok (pickL l m k) (by omega) S
  have e4 := fun S => is_lot_ok fX.neat (fun r hr => (fX.pos r hr).1) (by omega) S
  have e5 := fun S => eqP_nil (pickL l m k) S
  have mx : (if (0 : Int) < szL l - k then szL l - k else 0) = max 0 (szL l - k) := by split <;> omega
  have mn : (if max 0 (szL l - k) < m then max 0 (szL l - k) else m) = szL (pickL l m k) := by rw [sz]; split <;> omega
  have hdP : ∀ r : Pr, dP r = .tup [.int r.1, .int r.2.1] := fun _ => rfl
  have p3 : ∀ a b c : D, [a, b, c].length = 3 := fun _ _ _ => rfl
  have px : pickIx [0, 1, 2] [D.tup (l.map dP), .int m] [.int k] = [.tup (l.map dP), .int m, .int k] := rfl
  unfold m_l_picked_right b_l_picked_right
  by_cases cX : pickL l m k = []
  · have e5' : ∀ S, gEqA (.tup ((pickL l m k).map dP)) (.tup []) S = .ok (.bl true) S := fun S => by rw [e5, cX]; rfl
    simp only [bind_ok_eq, bind_bad_eq, mVar_eq, mC_eq, m2_eq, mNil_eq, mPass_eq, mSeq_eq, mSet_eq, mRet_eq, mDrop_eq, mIf_eq, mB_eq, isB_eq, mAndT_eq, mOrT_eq, mNotT_eq, mAnd_eq, mOr_eq, mNot_eq, mIfE_eq, mChain_eq, aNil_eq, aCons_eq, mTup_eq, mDisp_eq, mLst_eq, mLoc_eq, mOwnL_eq, mCall_eq, mCallK_eq, mAsg_eq, mFor_eq, iSeq_eq, iSeqD_lst, iSeqD_tup, iLst_eq, seqD_lst, iLoc_eq, locD_eq, iScr_eq, scrD_eq, iRange1_eq, iRange2_eq, iEnumM_eq, mLc_eq, mYes_eq, mQ_eq, mQL_eq, mA_eq, mB1_eq, hLen_eq, hTup_eq, hList_eq, hAbs_eq, hInt_eq, hIntB_eq, hMax2_eq, hMin2_eq, gNeg_eq, gI_eq, gI0_eq, gIx_tup, gIx_lst, gIx_scr, gIx_loc, mSetC_eq, putC_eq, mApp_eq, mAppC_eq, qOwn_eq, gLen_tup, gLen_lst, gLen_scr, mDNewK_eq, mDGet2_eq, mDPut_eq, mDSet_eq, dictAt_eq, dictR_eq, keyD_int, keyD_str, mPar_eq, sNil_eq, sVal_eq, sOwnL_eq, setSl_nil, setSl_cons, setD_nil, setD_cons, pat_nm, pat_tp, pats_nil, pats_cons, wipeM_nil, wipeM_cons, forL_nil, lcL_nil, n2_eq, atI0, atI1, atI2, gNe_strs, gEq_strs, gNe_ints, gEq_ints, sz_1, sz_2, sz_3, sz_4, sz_5, sz_6, sz_7, sz_8, sz_9, sz_10, sz_11, sz_12, sz_13, sz_14, sz_15, sz_16, sz_17, sz_18, sz_19, sz_20, mLock_eq, nLock_eq, dictVar_eq, iKeysF_eq, keyV_inl, mRest_eq, restAt_eq, mExt_eq, iTup_eq, tupD_tup, mRetO_eq, gIsB_eq, gNotB_eq, gIsN_non, gIsN_int, gIsN_bl, gIsN_str, gIsN_tup, gIsN_lst, gIsN_loc, gNotN_non, gNotN_int, gNotN_bl, gNotN_str, gNotN_tup, gNotN_lst, gNotN_loc, iZip_eq, mAsg2_eq, mAug_eq, hSortedR_eq, mV_eq, mVL_eq, anyD_lst, anyD_tup, anyD_scr, anyD_loc, mIxO_eq, mSetO_eq, oNone_eq, oSome_eq, mSlT_eq, mSlQ_eq, mTruQ_eq, iRg1_eq, iRg2_eq, mNNew_eq, dictT_eq, mNGet1_eq, mNGet2_eq, gNGet_eq, gNIn_eq, putT_eq, setT_eq, mNPut_eq, mNSet_eq, mDGet1_eq, aStar_eq, mDCopy_eq, gDIn_eq, mIns_eq, mRevQ_eq, mKeysL_eq, mItemsL_eq, mDPop_eq, mBad_eq, mAsgS_eq, mAsgSS_eq, hStrI_eq, gReprA_loc, gReprA_tup, gReprA_lst, gReprA_non, gReprA_bl, gReprA_int, gReprA_str, mRevT_eq, mUp_eq, mSeqX_eq, mIfX_eq, mRaise1_eq, mCallX_eq, mDropX_eq, mSetX_eq, mRetX_eq, mTryF_eq, mLc2_eq, hSortedDB_eq, mSortSet_eq, Nat.zero_le, Nat.zero_add, Nat.reduceAdd, and_self, mDef_eq, List.getElem?_cons_zero, List.getElem?_cons_succ, List.set, List.length_cons, List.length_nil, List.map_cons, List.map_nil, List.replicate, List.cons_append, List.nil_append, List.append_nil, if_true, if_false, ite_true, ite_false, Bool.false_eq_true, Bool.true_eq_false, Bool.not_true, Bool.not_false, List.zip_cons_cons, List.zip_nil_left, px, p3, e1, e2, e3, e4, mx, mn, e5', gNotB, decide_true, beq_self_eq_true]
  · have e5' : ∀ S, gEqA (.tup ((pickL l m k).map dP)) (.tup []) S = .ok (.bl false) S := fun S => by rw [e5, meets_isEmpty cX]
    rcases snoc_cases (pickL l m k) with u | ⟨u, z, hz⟩
    · exact absurd u cX
    obtain ⟨t, w, ht⟩ : ∃ t w, pickL l m k = t :: w := by
      cases q : pickL l m k with
      | nil => exact absurd q cX
      | cons t w => exact ⟨t, w, rfl⟩
    have a0 : atI ((pickL l m k).map dP) 0 = some (.tup [.int t.1, .int t.2.1]) := by rw [ht, List.map_cons, ← hdP]; exact atI_nat (j := 0) rfl
    have a1 : atI ((pickL l m k).map dP) (-1) = some (.tup [.int z.1, .int z.2.1]) := by rw [hz, List.map_append, List.map_singleton, ← hdP]; exact at_last
    have hb := pick_between g.neat hm hk ht hz
    have ec := fun S => Pm.common_ok l [(t.1, z.2.1, ())] (by omega) (by simp) S
    rw [← hb] at ec
    have ec' : ∀ S, m_p_common [.tup (l.map dP), .tup [.tup [.int t.1, .int z.2.1]]] S = .ok (.tup ((pickL l m k).map dP)) S := ec
    have ns := fun S => ne_self nX S
    have kt := pick_first g.neat.rise hm hk ht
    have t0 := (fX.pos t (by rw [ht]; simp)).1
    by_cases ct : t.1 = 0
    · have k0 : k = 0 := by rw [← kt, ct, cnt_low g.pos]
      subst k0
      rw [ct] at a0 ec'
      simp only [bind_ok_eq, bind_bad_eq, mVar_eq, mC_eq, m2_eq, mNil_eq, mPass_eq, mSeq_eq, mSet_eq, mRet_eq, mDrop_eq, mIf_eq, mB_eq, isB_eq, mAndT_eq, mOrT_eq, mNotT_eq, mAnd_eq, mOr_eq, mNot_eq, mIfE_eq, mChain_eq, aNil_eq, aCons_eq, mTup_eq, mDisp_eq, mLst_eq, mLoc_eq, mOwnL_eq, mCall_eq, mCallK_eq, mAsg_eq, mFor_eq, iSeq_eq, iSeqD_lst, iSeqD_tup, iLst_eq, seqD_lst, iLoc_eq, locD_eq, iScr_eq, scrD_eq, iRange1_eq, iRange2_eq, iEnumM_eq, mLc_eq, mYes_eq, mQ_eq, mQL_eq, mA_eq, mB1_eq, hLen_eq, hTup_eq, hList_eq, hAbs_eq, hInt_eq, hIntB_eq, hMax2_eq, hMin2_eq, gNeg_eq, gI_eq, gI0_eq, gIx_tup, gIx_lst, gIx_scr, gIx_loc, mSetC_eq, putC_eq, mApp_eq, mAppC_eq, qOwn_eq, gLen_tup, gLen_lst, gLen_scr, mDNewK_eq, mDGet2_eq, mDPut_eq, mDSet_eq, dictAt_eq, dictR_eq, keyD_int, keyD_str, mPar_eq, sNil_eq, sVal_eq, sOwnL_eq, setSl_nil, setSl_cons, setD_nil, setD_cons, pat_nm, pat_tp, pats_nil, pats_cons, wipeM_nil, wipeM_cons, forL_nil, lcL_nil, n2_eq, atI0, atI1, atI2, gNe_strs, gEq_strs, gNe_ints, gEq_ints, sz_1, sz_2, sz_3, sz_4, sz_5, sz_6, sz_7, sz_8, sz_9, sz_10, sz_11, sz_12, sz_13, sz_14, sz_15, sz_16, sz_17, sz_18, sz_19, sz_20, mLock_eq, nLock_eq, dictVar_eq, iKeysF_eq, keyV_inl, mRest_eq, restAt_eq, mExt_eq, iTup_eq, tupD_tup, mRetO_eq, gIsB_eq, gNotB_eq, gIsN_non, gIsN_int, gIsN_bl, gIsN_str, gIsN_tup, gIsN_lst, gIsN_loc, gNotN_non, gNotN_int, gNotN_bl, gNotN_str, gNotN_tup, gNotN_lst, gNotN_loc, iZip_eq, mAsg2_eq, mAug_eq, hSortedR_eq, mV_eq, mVL_eq, anyD_lst, anyD_tup, anyD_scr, anyD_loc, mIxO_eq, mSetO_eq, oNone_eq, oSome_eq, mSlT_eq, mSlQ_eq, mTruQ_eq, iRg1_eq, iRg2_eq, mNNew_eq, dictT_eq, mNGet1_eq, mNGet2_eq, gNGet_eq, gNIn_eq, putT_eq, setT_eq, mNPut_eq, mNSet_eq, mDGet1_eq, aStar_eq, mDCopy_eq, gDIn_eq, mIns_eq, mRevQ_eq, mKeysL_eq, mItemsL_eq, mDPop_eq, mBad_eq, mAsgS_eq, mAsgSS_eq, hStrI_eq, gReprA_loc, gReprA_tup, gReprA_lst, gReprA_non, gReprA_bl, gReprA_int, gReprA_str, mRevT_eq, mUp_eq, mSeqX_eq, mIfX_eq, mRaise1_eq, mCallX_eq, mDropX_eq, mSetX_eq, mRetX_eq, mTryF_eq, mLc2_eq, hSortedDB_eq, mSortSet_eq, Nat.zero_le, Nat.zero_add, Nat.reduceAdd, and_self, mDef_eq, List.getElem?_cons_zero, List.getElem?_cons_succ, List.set, List.length_cons, List.length_nil, List.map_cons, List.map_nil, List.replicate, List.cons_append, List.nil_append, List.append_nil, if_true, if_false, ite_true, ite_false, Bool.false_eq_true, Bool.true_eq_false, Bool.not_true, Bool.not_false, List.zip_cons_cons, List.zip_nil_left, px, p3, e1, e2, e3, e4, mx, mn, e5', gNotB, decide_true, beq_self_eq_true, a0, a1, ec', ns]
    · have ct' : (t.1 = 0) = False := eq_false ct
      have mx2 : (if (0 : Int) < t.1 - 1 then t.1 - 1 else 0) = t.1 - 1 := by split <;> omega
      have ec2 := fun S => Pm.common_ok l [((0 : Int), t.1 - 1, ())] (by omega) (by simp) S
      have ec3 : ∀ S, m_p_common [.tup (l.map dP), .tup [.tup [.int 0, .int (t.1 - 1)]]] S = .ok (.tup ((commonL l [((0 : Int), t.1 - 1, ())]).map dP)) S := ec2
      have sb := sz_below g.neat.rise g.pos (c := t.1) (by omega)
      rw [kt] at sb
      have es := fun S => size_ok (commonL l [((0 : Int), t.1 - 1, ())]) (by have := common_len l [((0 : Int), t.1 - 1, ())]; simp only [List.length_singleton] at this; omega) S
      rw [sb] at es
      simp only [bind_ok_eq, bind_bad_eq, mVar_eq, mC_eq, m2_eq, mNil_eq, mPass_eq, mSeq_eq, mSet_eq, mRet_eq, mDrop_eq, mIf_eq, mB_eq, isB_eq, mAndT_eq, mOrT_eq, mNotT_eq, mAnd_eq, mOr_eq, mNot_eq, mIfE_eq, mChain_eq, aNil_eq, aCons_eq, mTup_eq, mDisp_eq, mLst_eq, mLoc_eq, mOwnL_eq, mCall_eq, mCallK_eq, mAsg_eq, mFor_eq, iSeq_eq, iSeqD_lst, iSeqD_tup, iLst_eq, seqD_lst, iLoc_eq, locD_eq, iScr_eq, scrD_eq, iRange1_eq, iRange2_eq, iEnumM_eq, mLc_eq, mYes_eq, mQ_eq, mQL_eq, mA_eq, mB1_eq, hLen_eq, hTup_eq, hList_eq, hAbs_eq, hInt_eq, hIntB_eq, hMax2_eq, hMin2_eq, gNeg_eq, gI_eq, gI0_eq, gIx_tup, gIx_lst, gIx_scr, gIx_loc, mSetC_eq, putC_eq, mApp_eq, mAppC_eq, qOwn_eq, gLen_tup, gLen_lst, gLen_scr, mDNewK_eq, mDGet2_eq, mDPut_eq, mDSet_eq, dictAt_eq, dictR_eq, keyD_int, keyD_str, mPar_eq, sNil_eq, sVal_eq, sOwnL_eq, setSl_nil, setSl_cons, setD_nil, setD_cons, pat_nm, pat_tp, pats_nil, pats_cons, wipeM_nil, wipeM_cons, forL_nil, lcL_nil, n2_eq, atI0, atI1, atI2, gNe_strs, gEq_strs, gNe_ints, gEq_ints, sz_1, sz_2, sz_3, sz_4, sz_5, sz_6, sz_7, sz_8, sz_9, sz_10, sz_11, sz_12, sz_13, sz_14, sz_15, sz_16, sz_17, sz_18, sz_19, sz_20, mLock_eq, nLock_eq, dictVar_eq, iKeysF_eq, keyV_inl, mRest_eq, restAt_eq, mExt_eq, iTup_eq, tupD_tup, mRetO_eq, gIsB_eq, gNotB_eq, gIsN_non, gIsN_int, gIsN_bl, gIsN_str, gIsN_tup, gIsN_lst, gIsN_loc, gNotN_non, gNotN_int, gNotN_bl, gNotN_str, gNotN_tup, gNotN_lst, gNotN_loc, iZip_eq, mAsg2_eq, mAug_eq, hSortedR_eq, mV_eq, mVL_eq, anyD_lst, anyD_tup, anyD_scr, anyD_loc, mIxO_eq, mSetO_eq, oNone_eq, oSome_eq, mSlT_eq, mSlQ_eq, mTruQ_eq, iRg1_eq, iRg2_eq, mNNew_eq, dictT_eq, mNGet1_eq, mNGet2_eq, gNGet_eq, gNIn_eq, putT_eq, setT_eq, mNPut_eq, mNSet_eq, mDGet1_eq, aStar_eq, mDCopy_eq, gDIn_eq, mIns_eq, mRevQ_eq, mKeysL_eq, mItemsL_eq, mDPop_eq, mBad_eq, mAsgS_eq, mAsgSS_eq, hStrI_eq, gReprA_loc, gReprA_tup, gReprA_lst, gReprA_non, gReprA_bl, gReprA_int, gReprA_str, mRevT_eq, mUp_eq, mSeqX_eq, mIfX_eq, mRaise1_eq, mCallX_eq, mDropX_eq, mSetX_eq, mRetX_eq, mTryF_eq, mLc2_eq, hSortedDB_eq, mSortSet_eq, Nat.zero_le, Nat.zero_add, Nat.reduceAdd, and_self, mDef_eq, List.getElem?_cons_zero, List.getElem?_cons_succ, List.set, List.length_cons, List.length_nil, List.map_cons, List.map_nil, List.replicate, List.cons_append, List.nil_append, List.append_nil, if_true, if_false, ite_true, ite_false, Bool.false_eq_true, Bool.true_eq_false, Bool.not_true, Bool.not_false, List.zip_cons_cons, List.zip_nil_left, px, p3, e1, e2, e3, e4, mx, mn, e5', gNotB, decide_true, beq_self_eq_true, a0, a1, ec', ns, ct', decide_false, mx2, ec3, es]
      have cb : (t.1 == 0) = false := by rw [beq_eq_false_iff_ne]; exact ct
      rw [cb]
      rfl
theorem Fine.tops {l : Lot} {c : Nat} (f : Fine l c) : ∀ r ∈ l, 0 ≤ r.1 ∧ r.2.1 + 1 < 2 ^ 62 := fun r hr => by have := f.pos r hr; omega
theorem too_many_ok {l : Lot} {c : Nat} (f : Fine l c) (hc : c ≤ 1000) (S : Store) : m_l_too_many [.tup (l.map dP)] S = .ok (if 200 < szL l then .int (szL l) else .non) S := by
  have fl := f.len
  have e := fun S => points_ok f.neat.rise f.tops (by omega) 200 (by omega) S
  unfold m_l_too_many b_l_too_many
  by_cases c : 200 < szL l
  · simp only [if_pos c] at e
    rw [if_pos c]
    simp only [bind_ok_eq, bind_bad_eq, mVar_eq, mC_eq, m2_eq, mNil_eq, mPass_eq, mSeq_eq, mSet_eq, mRet_eq, mDrop_eq, mIf_eq, mB_eq, isB_eq, mAndT_eq, mOrT_eq, mNotT_eq, mAnd_eq, mOr_eq, mNot_eq, mIfE_eq, mChain_eq, aNil_eq, aCons_eq, mTup_eq, mDisp_eq, mLst_eq, mLoc_eq, mOwnL_eq, mCall_eq, mCallK_eq, mAsg_eq, mFor_eq, iSeq_eq, iSeqD_lst, iSeqD_tup, iLst_eq, seqD_lst, iLoc_eq, locD_eq, iScr_eq, scrD_eq, iRange1_eq, iRange2_eq, iEnumM_eq, mLc_eq, mYes_eq, mQ_eq, mQL_eq, mA_eq, mB1_eq, hLen_eq, hTup_eq, hList_eq, hAbs_eq, hInt_eq, hIntB_eq, hMax2_eq, hMin2_eq, gNeg_eq, gI_eq, gI0_eq, gIx_tup, gIx_lst, gIx_scr, gIx_loc, mSetC_eq, putC_eq, mApp_eq, mAppC_eq, qOwn_eq, gLen_tup, gLen_lst, gLen_scr, mDNewK_eq, mDGet2_eq, mDPut_eq, mDSet_eq, dictAt_eq, dictR_eq, keyD_int, keyD_str, mPar_eq, sNil_eq, sVal_eq, sOwnL_eq, setSl_nil, setSl_cons, setD_nil, setD_cons, pat_nm, pat_tp, pats_nil, pats_cons, wipeM_nil, wipeM_cons, forL_nil, lcL_nil, n2_eq, atI0, atI1, atI2, gNe_strs, gEq_strs, gNe_ints, gEq_ints, sz_1, sz_2, sz_3, sz_4, sz_5, sz_6, sz_7, sz_8, sz_9, sz_10, sz_11, sz_12, sz_13, sz_14, sz_15, sz_16, sz_17, sz_18, sz_19, sz_20, mLock_eq, nLock_eq, dictVar_eq, iKeysF_eq, keyV_inl, mRest_eq, restAt_eq, mExt_eq, iTup_eq, tupD_tup, mRetO_eq, gIsB_eq, gNotB_eq, gIsN_non, gIsN_int, gIsN_bl, gIsN_str, gIsN_tup, gIsN_lst, gIsN_loc, gNotN_non, gNotN_int, gNotN_bl, gNotN_str, gNotN_tup, gNotN_lst, gNotN_loc, iZip_eq, mAsg2_eq, mAug_eq, hSortedR_eq, mV_eq, mVL_eq, anyD_lst, anyD_tup, anyD_scr, anyD_loc, mIxO_eq, mSetO_eq, oNone_eq, oSome_eq, mSlT_eq, mSlQ_eq, mTruQ_eq, iRg1_eq, iRg2_eq, mNNew_eq, dictT_eq, mNGet1_eq, mNGet2_eq, gNGet_eq, gNIn_eq, putT_eq, setT_eq, mNPut_eq, mNSet_eq, mDGet1_eq, aStar_eq, mDCopy_eq, gDIn_eq, mIns_eq, mRevQ_eq, mKeysL_eq, mItemsL_eq, mDPop_eq, mBad_eq, mAsgS_eq, mAsgSS_eq, hStrI_eq, gReprA_loc, gReprA_tup, gReprA_lst, gReprA_non, gReprA_bl, gReprA_int, gReprA_str, mRevT_eq, mUp_eq, mSeqX_eq, mIfX_eq, mRaise1_eq, mCallX_eq, mDropX_eq, mSetX_eq, mRetX_eq, mTryF_eq, mLc2_eq, hSortedDB_eq, mSortSet_eq, Nat.zero_le, Nat.zero_add, Nat.reduceAdd, and_self, mDef_eq, List.getElem?_cons_zero, List.getElem?_cons_succ, List.set, List.length_cons, List.length_nil, List.map_cons, List.map_nil, List.replicate, List.cons_append, List.nil_append, List.append_nil, if_true, if_false, ite_true, ite_false, Bool.false_eq_true, Bool.true_eq_false, Bool.not_true, Bool.not_false, List.zip_cons_cons, List.zip_nil_left, e, mTryF_eq, mDropX_eq, mCallX_eq, List.lookup_cons, beq_self_eq_true, Nat.lt_add_one, Nat.reduceLT, and_true]
  · simp only [if_neg c] at e
    rw [if_neg c]
    simp only [bind_ok_eq, bind_bad_eq, mVar_eq, mC_eq, m2_eq, mNil_eq, mPass_eq, mSeq_eq, mSet_eq, mRet_eq, mDrop_eq, mIf_eq, mB_eq, isB_eq, mAndT_eq, mOrT_eq, mNotT_eq, mAnd_eq, mOr_eq, mNot_eq, mIfE_eq, mChain_eq, aNil_eq, aCons_eq, mTup_eq, mDisp_eq, mLst_eq, mLoc_eq, mOwnL_eq, mCall_eq, mCallK_eq, mAsg_eq, mFor_eq, iSeq_eq, iSeqD_lst, iSeqD_tup, iLst_eq, seqD_lst, iLoc_eq, locD_eq, iScr_eq, scrD_eq, iRange1_eq, iRange2_eq, iEnumM_eq, mLc_eq, mYes_eq, mQ_eq, mQL_eq, mA_eq, mB1_eq, hLen_eq, hTup_eq, hList_eq, hAbs_eq, hInt_eq, hIntB_eq, hMax2_eq, hMin2_eq, gNeg_eq, gI_eq, gI0_eq, gIx_tup, gIx_lst, gIx_scr, gIx_loc, mSetC_eq, putC_eq, mApp_eq, mAppC_eq, qOwn_eq, gLen_tup, gLen_lst, gLen_scr, mDNewK_eq, mDGet2_eq, mDPut_eq, mDSet_eq, dictAt_eq, dictR_eq, keyD_int, keyD_str, mPar_eq, sNil_eq, sVal_eq, sOwnL_eq, setSl_nil, setSl_cons, setD_nil, setD_cons, pat_nm, pat_tp, pats_nil, pats_cons, wipeM_nil, wipeM_cons, forL_nil, lcL_nil, n2_eq, atI0, atI1, atI2, gNe_strs, gEq_strs, gNe_ints, gEq_ints, sz_1, sz_2, sz_3, sz_4, sz_5, sz_6, sz_7, sz_8, sz_9, sz_10, sz_11, sz_12, sz_13, sz_14, sz_15, sz_16, sz_17, sz_18, sz_19, sz_20, mLock_eq, nLock_eq, dictVar_eq, iKeysF_eq, keyV_inl, mRest_eq, restAt_eq, mExt_eq, iTup_eq, tupD_tup, mRetO_eq, gIsB_eq, gNotB_eq, gIsN_non, gIsN_int, gIsN_bl, gIsN_str, gIsN_tup, gIsN_lst, gIsN_loc, gNotN_non, gNotN_int, gNotN_bl, gNotN_str, gNotN_tup, gNotN_lst, gNotN_loc, iZip_eq, mAsg2_eq, mAug_eq, hSortedR_eq, mV_eq, mVL_eq, anyD_lst, anyD_tup, anyD_scr, anyD_loc, mIxO_eq, mSetO_eq, oNone_eq, oSome_eq, mSlT_eq, mSlQ_eq, mTruQ_eq, iRg1_eq, iRg2_eq, mNNew_eq, dictT_eq, mNGet1_eq, mNGet2_eq, gNGet_eq, gNIn_eq, putT_eq, setT_eq, mNPut_eq, mNSet_eq, mDGet1_eq, aStar_eq, mDCopy_eq, gDIn_eq, mIns_eq, mRevQ_eq, mKeysL_eq, mItemsL_eq, mDPop_eq, mBad_eq, mAsgS_eq, mAsgSS_eq, hStrI_eq, gReprA_loc, gReprA_tup, gReprA_lst, gReprA_non, gReprA_bl, gReprA_int, gReprA_str, mRevT_eq, mUp_eq, mSeqX_eq, mIfX_eq, mRaise1_eq, mCallX_eq, mDropX_eq, mSetX_eq, mRetX_eq, mTryF_eq, mLc2_eq, hSortedDB_eq, mSortSet_eq, Nat.zero_le, Nat.zero_add, Nat.reduceAdd, and_self, mDef_eq, List.getElem?_cons_zero, List.getElem?_cons_succ, List.set, List.length_cons, List.length_nil, List.map_cons, List.map_nil, List.replicate, List.cons_append, List.nil_append, List.append_nil, if_true, if_false, ite_true, ite_false, Bool.false_eq_true, Bool.true_eq_false, Bool.not_true, Bool.not_false, List.zip_cons_cons, List.zip_nil_left, e, mTryF_eq, mDropX_eq, mCallX_eq]
theorem asc_nodup {l : List Int} (h : l.Pairwise (· < ·)) : l.Nodup := h.imp fun a b => by omega
theorem sort_self {l : List Int} (h : l.Pairwise (· < ·)) : sortI (nubI l) = l := by
  rw [nub_self (asc_nodup h)]
  exact sorted_one (sortI_perm l) (sortI_sorted l) (h.imp fun a => by omega)
theorem nice_ints {l : List Int} (h : ∀ x ∈ l, x.natAbs < 2 ^ 64) (hl : l.length ≤ 5000) : NiceD (.lst (l.map .int)) := by
  refine ⟨?_, ?_, ?_⟩
  · rw [niceD]; exact niceDs_map fun x hx => nice_int (h x hx)
  · rw [nodesD]
    have := nodesDs_map (f := D.int) (k := 1) (xs := l) fun x _ => by simp [nodesD]
    omega
  · rw [depthD]
    have := depthDs_map (f := D.int) (k := 0) (xs := l) fun x _ => by simp [depthD]
    omega
theorem points_right_ok {l : Lot} (g : Good l 100) (S : Store) : m_l_points_right [.tup (l.map dP)] S = .ok (.bl true) S := by
  have gl := g.len
  have e1 := fun S => size_ok l (by omega) S
  have e2 := fun S => picked_ok l 200 0 (by omega) S
  have e3 := fun S => picked_ok l 201 0 (by omega) S
  have f2 := pick_fine g 200 (k := 0) (by omega)
  have f3 := pick_fine g 201 (k := 0) (by omega)
  have s2 := pick_sz g.neat.rise (m := 200) (k := 0) (by omega) (by omega)
  have s3 := pick_sz g.neat.rise (m := 201) (k := 0) (by omega) (by omega)
  have sp := sz_pos g.neat.rise
  have fl2 := f2.len
  have fl3 := f3.len
  have q2 := fun S => points_ok f2.neat.rise f2.tops (by omega) 200 (by omega) S
  have q3 := fun S => points_ok f3.neat.rise f3.tops (by omega) 201 (by omega) S
  have n2 : ¬ (200 : Int) < szL (pickL l 200 0) := by omega
  have n3 : ¬ (201 : Int) < szL (pickL l 201 0) := by omega
  simp only [if_neg n2] at q2
  simp only [if_neg n3] at q3
  have t3 := fun S => too_many_ok f3 (by omega) S
  have t1 := fun S => too_many_ok g.fine (by omega) S
  have pl2 := ptsL_len f2.neat.rise
  have pl3 := ptsL_len f3.neat.rise
  have asc := ptsL_asc f2.neat.rise
  have mn : (if szL l < 200 then szL l else 200) = szL (pickL l 200 0) := by rw [s2]; split <;> omega
  have ec := fun S => closed_ok ((ptsL (pickL l 200 0)).map oneR) (by rw [List.length_map]; omega) S
  rw [knit_ones f2.neat] at ec
  have em := fun S => lcL_map (p := .nm 5) (me := e_l_points_right_1) (enc := D.int) (f := fun p => dP (oneR p)) (ρ := [some (.val (.tup (l.map dP))), some (.val (.int (szL l))), some (.val (.tup ((pickL l 200 0).map dP))), some (.val (.tup ((pickL l 201 0).map dP))), some (.val (.tup ((ptsL (pickL l 200 0)).map .int))), none]) (S := S) (ptsL (pickL l 200 0)) (fun x _ => ⟨_, rfl, by
    unfold e_l_points_right_1
    simp [dP, oneR]⟩)
  have em2 : ((ptsL (pickL l 200 0)).map fun p => dP (oneR p)) = ((ptsL (pickL l 200 0)).map oneR).map dP := by rw [List.map_map]; rfl
  simp only [em2] at em
  have ni : NiceD (.lst ((ptsL (pickL l 200 0)).map .int)) := nice_ints (fun x hx => by
    obtain ⟨r, hr, a, b⟩ := hasP_iff.mp (ptsL_mem.mp hx)
    have := f2.pos r hr
    omega) (by omega)
  have ne1 := fun S => ne_self ni S
  have ne2 := fun S => ne_self (f2.nice (by omega)) S
  have z1 : (ptsL (pickL l 200 0)).length ≤ sizeLine := small_le (by omega)
  have z2 : (ptsL (pickL l 200 0)).length ≤ 1000 := by omega
  have hint := intsD_map (ptsL (pickL l 200 0))
  have ss := sort_self asc
  have px : pickIx [0, 1] [D.tup ((pickL l 201 0).map dP)] [.int 201] = [.tup ((pickL l 201 0).map dP), .int 201] := rfl
  have p2 : ∀ a b : D, [a, b].length = 2 := fun _ _ => rfl
  unfold m_l_points_right b_l_points_right
  by_cases c : 200 < szL l
  · have s3' : szL (pickL l 201 0) = 201 := by omega
    have c3 : (200 : Int) < szL (pickL l 201 0) := by omega
    simp only [if_pos c] at t1
    have t3 : ∀ S, m_l_too_many [.tup ((pickL l 201 0).map dP)] S = .ok (.int 201) S := fun S => by rw [t3, if_pos c3, s3']
    have pl3' : ((ptsL (pickL l 201 0)).length : Int) = 201 := by omega
    have es := eq_self (NiceD.int (i := szL l) (by
      have : szL l < 2 ^ 62 := by
        rw [← cnt_high (p := 2 ^ 41) fun r hr => ⟨g.neat.2 r hr, g.top r hr⟩]
        have := cnt_le g.neat.rise g.pos (p := 2 ^ 41) (by omega)
        omega
      omega))
    simp only [bind_ok_eq, bind_bad_eq, mVar_eq, mC_eq, m2_eq, mNil_eq, mPass_eq, mSeq_eq, mSet_eq, mRet_eq, mDrop_eq, mIf_eq, mB_eq, isB_eq, mAndT_eq, mOrT_eq, mNotT_eq, mAnd_eq, mOr_eq, mNot_eq, mIfE_eq, mChain_eq, aNil_eq, aCons_eq, mTup_eq, mDisp_eq, mLst_eq, mLoc_eq, mOwnL_eq, mCall_eq, mCallK_eq, mAsg_eq, mFor_eq, iSeq_eq, iSeqD_lst, iSeqD_tup, iLst_eq, seqD_lst, iLoc_eq, locD_eq, iScr_eq, scrD_eq, iRange1_eq, iRange2_eq, iEnumM_eq, mLc_eq, mYes_eq, mQ_eq, mQL_eq, mA_eq, mB1_eq, hLen_eq, hTup_eq, hList_eq, hAbs_eq, hInt_eq, hIntB_eq, hMax2_eq, hMin2_eq, gNeg_eq, gI_eq, gI0_eq, gIx_tup, gIx_lst, gIx_scr, gIx_loc, mSetC_eq, putC_eq, mApp_eq, mAppC_eq, qOwn_eq, gLen_tup, gLen_lst, gLen_scr, mDNewK_eq, mDGet2_eq, mDPut_eq, mDSet_eq, dictAt_eq, dictR_eq, keyD_int, keyD_str, mPar_eq, sNil_eq, sVal_eq, sOwnL_eq, setSl_nil, setSl_cons, setD_nil, setD_cons, pat_nm, pat_tp, pats_nil, pats_cons, wipeM_nil, wipeM_cons, forL_nil, lcL_nil, n2_eq, atI0, atI1, atI2, gNe_strs, gEq_strs, gNe_ints, gEq_ints, sz_1, sz_2, sz_3, sz_4, sz_5, sz_6, sz_7, sz_8, sz_9, sz_10, sz_11, sz_12, sz_13, sz_14, sz_15, sz_16, sz_17, sz_18, sz_19, sz_20, mLock_eq, nLock_eq, dictVar_eq, iKeysF_eq, keyV_inl, mRest_eq, restAt_eq, mExt_eq, iTup_eq, tupD_tup, mRetO_eq, gIsB_eq, gNotB_eq, gIsN_non, gIsN_int, gIsN_bl, gIsN_str, gIsN_tup, gIsN_lst, gIsN_loc, gNotN_non, gNotN_int, gNotN_bl, gNotN_str, gNotN_tup, gNotN_lst, gNotN_loc, iZip_eq, mAsg2_eq, mAug_eq, hSortedR_eq, mV_eq, mVL_eq, anyD_lst, anyD_tup, anyD_scr, anyD_loc, mIxO_eq, mSetO_eq, oNone_eq, oSome_eq, mSlT_eq, mSlQ_eq, mTruQ_eq, iRg1_eq, iRg2_eq, mNNew_eq, dictT_eq, mNGet1_eq, mNGet2_eq, gNGet_eq, gNIn_eq, putT_eq, setT_eq, mNPut_eq, mNSet_eq, mDGet1_eq, aStar_eq, mDCopy_eq, gDIn_eq, mIns_eq, mRevQ_eq, mKeysL_eq, mItemsL_eq, mDPop_eq, mBad_eq, mAsgS_eq, mAsgSS_eq, hStrI_eq, gReprA_loc, gReprA_tup, gReprA_lst, gReprA_non, gReprA_bl, gReprA_int, gReprA_str, mRevT_eq, mUp_eq, mSeqX_eq, mIfX_eq, mRaise1_eq, mCallX_eq, mDropX_eq, mSetX_eq, mRetX_eq, mTryF_eq, mLc2_eq, hSortedDB_eq, mSortSet_eq, Nat.zero_le, Nat.zero_add, Nat.reduceAdd, and_self, mDef_eq, List.getElem?_cons_zero, List.getElem?_cons_succ, List.set, List.length_cons, List.length_nil, List.map_cons, List.map_nil, List.replicate, List.cons_append, List.nil_append, List.append_nil, if_true, if_false, ite_true, ite_false, Bool.false_eq_true, Bool.true_eq_false, Bool.not_true, Bool.not_false, List.zip_cons_cons, List.zip_nil_left, gt_iff_lt, e1, e2, e3, List.length_map, mNo_eq, q2, q3, pl2, mn, hint, z1, z2, ss, ne1, ne2, em, ec, wipeM, t1, t3, c, px, p2, pl3', beq_self_eq_true, decide_true]
  · have c' : (200 < szL l) = False := eq_false c
    simp only [if_neg c] at t1
    have en := eq_self (d := .non) ⟨by simp [niceD], by simp [nodesD], by simp [depthD]⟩
    simp only [bind_ok_eq, bind_bad_eq, mVar_eq, mC_eq, m2_eq, mNil_eq, mPass_eq, mSeq_eq, mSet_eq, mRet_eq, mDrop_eq, mIf_eq, mB_eq, isB_eq, mAndT_eq, mOrT_eq, mNotT_eq, mAnd_eq, mOr_eq, mNot_eq, mIfE_eq, mChain_eq, aNil_eq, aCons_eq, mTup_eq, mDisp_eq, mLst_eq, mLoc_eq, mOwnL_eq, mCall_eq, mCallK_eq, mAsg_eq, mFor_eq, iSeq_eq, iSeqD_lst, iSeqD_tup, iLst_eq, seqD_lst, iLoc_eq, locD_eq, iScr_eq, scrD_eq, iRange1_eq, iRange2_eq, iEnumM_eq, mLc_eq, mYes_eq, mQ_eq, mQL_eq, mA_eq, mB1_eq, hLen_eq, hTup_eq, hList_eq, hAbs_eq, hInt_eq, hIntB_eq, hMax2_eq, hMin2_eq, gNeg_eq, gI_eq, gI0_eq, gIx_tup, gIx_lst, gIx_scr, gIx_loc, mSetC_eq, putC_eq, mApp_eq, mAppC_eq, qOwn_eq, gLen_tup, gLen_lst, gLen_scr, mDNewK_eq, mDGet2_eq, mDPut_eq, mDSet_eq, dictAt_eq, dictR_eq, keyD_int, keyD_str, mPar_eq, sNil_eq, sVal_eq, sOwnL_eq, setSl_nil, setSl_cons, setD_nil, setD_cons, pat_nm, pat_tp, pats_nil, pats_cons, wipeM_nil, wipeM_cons, forL_nil, lcL_nil, n2_eq, atI0, atI1, atI2, gNe_strs, gEq_strs, gNe_ints, gEq_ints, sz_1, sz_2, sz_3, sz_4, sz_5, sz_6, sz_7, sz_8, sz_9, sz_10, sz_11, sz_12, sz_13, sz_14, sz_15, sz_16, sz_17, sz_18, sz_19, sz_20, mLock_eq, nLock_eq, dictVar_eq, iKeysF_eq, keyV_inl, mRest_eq, restAt_eq, mExt_eq, iTup_eq, tupD_tup, mRetO_eq, gIsB_eq, gNotB_eq, gIsN_non, gIsN_int, gIsN_bl, gIsN_str, gIsN_tup, gIsN_lst, gIsN_loc, gNotN_non, gNotN_int, gNotN_bl, gNotN_str, gNotN_tup, gNotN_lst, gNotN_loc, iZip_eq, mAsg2_eq, mAug_eq, hSortedR_eq, mV_eq, mVL_eq, anyD_lst, anyD_tup, anyD_scr, anyD_loc, mIxO_eq, mSetO_eq, oNone_eq, oSome_eq, mSlT_eq, mSlQ_eq, mTruQ_eq, iRg1_eq, iRg2_eq, mNNew_eq, dictT_eq, mNGet1_eq, mNGet2_eq, gNGet_eq, gNIn_eq, putT_eq, setT_eq, mNPut_eq, mNSet_eq, mDGet1_eq, aStar_eq, mDCopy_eq, gDIn_eq, mIns_eq, mRevQ_eq, mKeysL_eq, mItemsL_eq, mDPop_eq, mBad_eq, mAsgS_eq, mAsgSS_eq, hStrI_eq, gReprA_loc, gReprA_tup, gReprA_lst, gReprA_non, gReprA_bl, gReprA_int, gReprA_str, mRevT_eq, mUp_eq, mSeqX_eq, mIfX_eq, mRaise1_eq, mCallX_eq, mDropX_eq, mSetX_eq, mRetX_eq, mTryF_eq, mLc2_eq, hSortedDB_eq, mSortSet_eq, Nat.zero_le, Nat.zero_add, Nat.reduceAdd, and_self, mDef_eq, List.getElem?_cons_zero, List.getElem?_cons_succ, List.set, List.length_cons, List.length_nil, List.map_cons, List.map_nil, List.replicate, List.cons_append, List.nil_append, List.append_nil, if_true, if_false, ite_true, ite_false, Bool.false_eq_true, Bool.true_eq_false, Bool.not_true, Bool.not_false, List.zip_cons_cons, List.zip_nil_left, gt_iff_lt, e1, e2, e3, List.length_map, mNo_eq, q2, q3, pl2, mn, hint, z1, z2, ss, ne1, ne2, em, ec, wipeM, t1, c', beq_self_eq_true, decide_true, decide_false, en]
end K02
set_option maxRecDepth 100000
set_option maxHeartbeats 4000000
namespace K02
open Mo L2 PySem Pm
theorem Well.keep {Z S S' : Store} {n : Nat} {b : Int} (h : Well Z S n b) (k : Keeps S S') : Well Z S' n b := by
  have hl := h.lt
  obtain ⟨⟨z1, z2⟩, g, m, t, e, r⟩ := h
  exact ⟨⟨Nat.le_trans z1 k.1, fun i hi hn => (k.2 i (by omega)).trans (z2 i hi hn)⟩, g, m, t, (k.2 n hl).trans e, r⟩
theorem sz_top {l : Lot} {c : Nat} (g : Good l c) : 0 ≤ szL l ∧ szL l ≤ 2 ^ 41 := by
  refine ⟨sz_pos g.neat.rise, ?_⟩
  rw [← cnt_high (p := 2 ^ 41) fun r hr => ⟨g.neat.2 r hr, g.top r hr⟩]
  exact cnt_le g.neat.rise g.pos (p := 2 ^ 41) (by omega)
theorem picks_turn {Z S : Store} {n : Nat} {b : Int} (h : Well Z S n b) (hb : b < 2 ^ 19) {l : Lot} (g : Good l 100) {t : Nat} (ht : t < 3) (x0 x1 x3 x4 x5 x6 x7 x10 x11 : Option Slot) :
    ∃ y10 y11 S', b_p_law_4 [x0, x1, some (.val (.loc n)), x3, x4, x5, x6, x7, some (.val (.tup (l.map dP))), some (.val (.int (0 + (t : Nat)))), x10, x11] S = .ok (.nx [x0, x1, some (.val (.loc n)), x3, x4, x5, x6, x7, some (.val (.tup (l.map dP))), some (.val (.int (0 + (t : Nat)))), y10, y11]) S' ∧ Well Z S' n (b + 3) := by
  have gl := g.len
  have st := sz_top g
  have e0 := fun S => size_ok l (by omega) S
  obtain ⟨d1, S1, e1, p1, q1, w1⟩ := pick_ok (k := szL l + 3) h (by omega) (by omega) (by omega)
  obtain ⟨d2, S2, e2, p2, q2, w2⟩ := pick_ok (k := 300) w1 (by omega) (by omega) (by omega)
  obtain ⟨d3, S3, e3, p3, q3, w3⟩ := pick_ok (k := szL l + 3) w2 (by omega) (by omega) (by omega)
  have f1 := fun S => picked_right_ok g p1 p3 S
  have f2 := fun S => picked_right_ok g p2 p3 S
  have f3 := fun S => picked_right_ok g p2 (Int.le_refl 0) S
  have z2 : 2 ≤ sizeLine := by decide
  have c2 : ∀ x : Int, cMod x 2 := fun x => by unfold cMod; omega
  refine ⟨some (.val (.lst [.int d1, .int d2])), some (.val (.int d3)), S3, ?_, w3.mono (by omega)⟩
  have ht' : t = 0 ∨ t = 1 ∨ t = 2 := by omega
  have a0 : atI [D.int d1, .int d2] 0 = some (.int d1) := atI_nat (j := 0) rfl
  have a1 : atI [D.int d1, .int d2] 1 = some (.int d2) := atI_nat (j := 1) rfl
  have n3 : ∀ a b c : D, [a, b, c].length = 3 := fun _ _ _ => rfl
  have m0 : ((0 : Int) + ((0 : Nat) : Int)) % 2 = 0 := rfl
  have m1 : ((0 : Int) + ((1 : Nat) : Int)) % 2 = 1 := rfl
  have m2 : ((0 : Int) + ((2 : Nat) : Int)) % 2 = 0 := rfl
  unfold b_p_law_4
  rcases ht' with rfl | rfl | rfl
  · simp only [bind_ok_eq, bind_bad_eq, mVar_eq, mC_eq, m2_eq, mNil_eq, mPass_eq, mSeq_eq, mSet_eq, mRet_eq, mDrop_eq, mIf_eq, mB_eq, isB_eq, mAndT_eq, mOrT_eq, mNotT_eq, mAnd_eq, mOr_eq, mNot_eq, mIfE_eq, mChain_eq, aNil_eq, aCons_eq, mTup_eq, mDisp_eq, mLst_eq, mLoc_eq, mOwnL_eq, mCall_eq, mCallK_eq, mAsg_eq, mFor_eq, iSeq_eq, iSeqD_lst, iSeqD_tup, iLst_eq, seqD_lst, iLoc_eq, locD_eq, iScr_eq, scrD_eq, iRange1_eq, iRange2_eq, iEnumM_eq, mLc_eq, mYes_eq, mQ_eq, mQL_eq, mA_eq, mB1_eq, hLen_eq, hTup_eq, hList_eq, hAbs_eq, hInt_eq, hIntB_eq, hMax2_eq, hMin2_eq, gNeg_eq, gI_eq, gI0_eq, gIx_tup, gIx_lst, gIx_scr, gIx_loc, mSetC_eq, putC_eq, mApp_eq, mAppC_eq, qOwn_eq, gLen_tup, gLen_lst, gLen_scr, mDNewK_eq, mDGet2_eq, mDPut_eq, mDSet_eq, dictAt_eq, dictR_eq, keyD_int, keyD_str, mPar_eq, sNil_eq, sVal_eq, sOwnL_eq, setSl_nil, setSl_cons, setD_nil, setD_cons, pat_nm, pat_tp, pats_nil, pats_cons, wipeM_nil, wipeM_cons, forL_nil, lcL_nil, n2_eq, atI0, atI1, atI2, gNe_strs, gEq_strs, gNe_ints, gEq_ints, sz_1, sz_2, sz_3, sz_4, sz_5, sz_6, sz_7, sz_8, sz_9, sz_10, sz_11, sz_12, sz_13, sz_14, sz_15, sz_16, sz_17, sz_18, sz_19, sz_20, mLock_eq, nLock_eq, dictVar_eq, iKeysF_eq, keyV_inl, mRest_eq, restAt_eq, mExt_eq, iTup_eq, tupD_tup, mRetO_eq, gIsB_eq, gNotB_eq, gIsN_non, gIsN_int, gIsN_bl, gIsN_str, gIsN_tup, gIsN_lst, gIsN_loc, gNotN_non, gNotN_int, gNotN_bl, gNotN_str, gNotN_tup, gNotN_lst, gNotN_loc, iZip_eq, mAsg2_eq, mAug_eq, hSortedR_eq, mV_eq, mVL_eq, anyD_lst, anyD_tup, anyD_scr, anyD_loc, mIxO_eq, mSetO_eq, oNone_eq, oSome_eq, mSlT_eq, mSlQ_eq, mTruQ_eq, iRg1_eq, iRg2_eq, mNNew_eq, dictT_eq, mNGet1_eq, mNGet2_eq, gNGet_eq, gNIn_eq, putT_eq, setT_eq, mNPut_eq, mNSet_eq, mDGet1_eq, aStar_eq, mDCopy_eq, gDIn_eq, mIns_eq, mRevQ_eq, mKeysL_eq, mItemsL_eq, mDPop_eq, mBad_eq, mAsgS_eq, mAsgSS_eq, hStrI_eq, gReprA_loc, gReprA_tup, gReprA_lst, gReprA_non, gReprA_bl, gReprA_int, gReprA_str, mRevT_eq, mUp_eq, mSeqX_eq, mIfX_eq, mRaise1_eq, mCallX_eq, mDropX_eq, mSetX_eq, mRetX_eq, mTryF_eq, mLc2_eq, hSortedDB_eq, mSortSet_eq, Nat.zero_le, Nat.zero_add, Nat.reduceAdd, and_self, mDef_eq, List.getElem?_cons_zero, List.getElem?_cons_succ, List.set, List.length_cons, List.length_nil, List.map_cons, List.map_nil, List.replicate, List.cons_append, List.nil_append, List.append_nil, if_true, if_false, ite_true, ite_false, Bool.false_eq_true, Bool.true_eq_false, Bool.not_true, Bool.not_false, List.zip_cons_cons, List.zip_nil_left, e0, e1, e2, e3, f1, f2, f3, z2, c2, a0, a1, n3, m0]
  · simp only [bind_ok_eq, bind_bad_eq, mVar_eq, mC_eq, m2_eq, mNil_eq, mPass_eq, mSeq_eq, mSet_eq, mRet_eq, mDrop_eq, mIf_eq, mB_eq, isB_eq, mAndT_eq, mOrT_eq, mNotT_eq, mAnd_eq, mOr_eq, mNot_eq, mIfE_eq, mChain_eq, aNil_eq, aCons_eq, mTup_eq, mDisp_eq, mLst_eq, mLoc_eq, mOwnL_eq, mCall_eq, mCallK_eq, mAsg_eq, mFor_eq, iSeq_eq, iSeqD_lst, iSeqD_tup, iLst_eq, seqD_lst, iLoc_eq, locD_eq, iScr_eq, scrD_eq, iRange1_eq, iRange2_eq, iEnumM_eq, mLc_eq, mYes_eq, mQ_eq, mQL_eq, mA_eq, mB1_eq, hLen_eq, hTup_eq, hList_eq, hAbs_eq, hInt_eq, hIntB_eq, hMax2_eq, hMin2_eq, gNeg_eq, gI_eq, gI0_eq, gIx_tup, gIx_lst, gIx_scr, gIx_loc, mSetC_eq, putC_eq, mApp_eq, mAppC_eq, qOwn_eq, gLen_tup, gLen_lst, gLen_scr, mDNewK_eq, mDGet2_eq, mDPut_eq, mDSet_eq, dictAt_eq, dictR_eq, keyD_int, keyD_str, mPar_eq, sNil_eq, sVal_eq, sOwnL_eq, setSl_nil, setSl_cons, setD_nil, setD_cons, pat_nm, pat_tp, pats_nil, pats_cons, wipeM_nil, wipeM_cons, forL_nil, lcL_nil, n2_eq, atI0, atI1, atI2, gNe_strs, gEq_strs, gNe_ints, gEq_ints, sz_1, sz_2, sz_3, sz_4, sz_5, sz_6, sz_7, sz_8, sz_9, sz_10, sz_11, sz_12, sz_13, sz_14, sz_15, sz_16, sz_17, sz_18, sz_19, sz_20, mLock_eq, nLock_eq, dictVar_eq, iKeysF_eq, keyV_inl, mRest_eq, restAt_eq, mExt_eq, iTup_eq, tupD_tup, mRetO_eq, gIsB_eq, gNotB_eq, gIsN_non, gIsN_int, gIsN_bl, gIsN_str, gIsN_tup, gIsN_lst, gIsN_loc, gNotN_non, gNotN_int, gNotN_bl, gNotN_str, gNotN_tup, gNotN_lst, gNotN_loc, iZip_eq, mAsg2_eq, mAug_eq, hSortedR_eq, mV_eq, mVL_eq, anyD_lst, anyD_tup, anyD_scr, anyD_loc, mIxO_eq, mSetO_eq, oNone_eq, oSome_eq, mSlT_eq, mSlQ_eq, mTruQ_eq, iRg1_eq, iRg2_eq, mNNew_eq, dictT_eq, mNGet1_eq, mNGet2_eq, gNGet_eq, gNIn_eq, putT_eq, setT_eq, mNPut_eq, mNSet_eq, mDGet1_eq, aStar_eq, mDCopy_eq, gDIn_eq, mIns_eq, mRevQ_eq, mKeysL_eq, mItemsL_eq, mDPop_eq, mBad_eq, mAsgS_eq, mAsgSS_eq, hStrI_eq, gReprA_loc, gReprA_tup, gReprA_lst, gReprA_non, gReprA_bl, gReprA_int, gReprA_str, mRevT_eq, mUp_eq, mSeqX_eq, mIfX_eq, mRaise1_eq, mCallX_eq, mDropX_eq, mSetX_eq, mRetX_eq, mTryF_eq, mLc2_eq, hSortedDB_eq, mSortSet_eq, Nat.zero_le, Nat.zero_add, Nat.reduceAdd, and_self, mDef_eq, List.getElem?_cons_zero, List.getElem?_cons_succ, List.set, List.length_cons, List.length_nil, List.map_cons, List.map_nil, List.replicate, List.cons_append, List.nil_append, List.append_nil, if_true, if_false, ite_true, ite_false, Bool.false_eq_true, Bool.true_eq_false, Bool.not_true, Bool.not_false, List.zip_cons_cons, List.zip_nil_left, e0, e1, e2, e3, f1, f2, f3, z2, c2, a0, a1, n3, m1]
  · simp only [bind_ok_eq, bind_bad_eq, mVar_eq, mC_eq, m2_eq, mNil_eq, mPass_eq, mSeq_eq, mSet_eq, mRet_eq, mDrop_eq, mIf_eq, mB_eq, isB_eq, mAndT_eq, mOrT_eq, mNotT_eq, mAnd_eq, mOr_eq, mNot_eq, mIfE_eq, mChain_eq, aNil_eq, aCons_eq, mTup_eq, mDisp_eq, mLst_eq, mLoc_eq, mOwnL_eq, mCall_eq, mCallK_eq, mAsg_eq, mFor_eq, iSeq_eq, iSeqD_lst, iSeqD_tup, iLst_eq, seqD_lst, iLoc_eq, locD_eq, iScr_eq, scrD_eq, iRange1_eq, iRange2_eq, iEnumM_eq, mLc_eq, mYes_eq, mQ_eq, mQL_eq, mA_eq, mB1_eq, hLen_eq, hTup_eq, hList_eq, hAbs_eq, hInt_eq, hIntB_eq, hMax2_eq, hMin2_eq, gNeg_eq, gI_eq, gI0_eq, gIx_tup, gIx_lst, gIx_scr, gIx_loc, mSetC_eq, putC_eq, mApp_eq, mAppC_eq, qOwn_eq, gLen_tup, gLen_lst, gLen_scr, mDNewK_eq, mDGet2_eq, mDPut_eq, mDSet_eq, dictAt_eq, dictR_eq, keyD_int, keyD_str, mPar_eq, sNil_eq, sVal_eq, sOwnL_eq, setSl_nil, setSl_cons, setD_nil, setD_cons, pat_nm, pat_tp, pats_nil, pats_cons, wipeM_nil, wipeM_cons, forL_nil, lcL_nil, n2_eq, atI0, atI1, atI2, gNe_strs, gEq_strs, gNe_ints, gEq_ints, sz_1, sz_2, sz_3, sz_4, sz_5, sz_6, sz_7, sz_8, sz_9, sz_10, sz_11, sz_12, sz_13, sz_14, sz_15, sz_16, sz_17, sz_18, sz_19, sz_20, mLock_eq, nLock_eq, dictVar_eq, iKeysF_eq, keyV_inl, mRest_eq, restAt_eq, mExt_eq, iTup_eq, tupD_tup, mRetO_eq, gIsB_eq, gNotB_eq, gIsN_non, gIsN_int, gIsN_bl, gIsN_str, gIsN_tup, gIsN_lst, gIsN_loc, gNotN_non, gNotN_int, gNotN_bl, gNotN_str, gNotN_tup, gNotN_lst, gNotN_loc, iZip_eq, mAsg2_eq, mAug_eq, hSortedR_eq, mV_eq, mVL_eq, anyD_lst, anyD_tup, anyD_scr, anyD_loc, mIxO_eq, mSetO_eq, oNone_eq, oSome_eq, mSlT_eq, mSlQ_eq, mTruQ_eq, iRg1_eq, iRg2_eq, mNNew_eq, dictT_eq, mNGet1_eq, mNGet2_eq, gNGet_eq, gNIn_eq, putT_eq, setT_eq, mNPut_eq, mNSet_eq, mDGet1_eq, aStar_eq, mDCopy_eq, gDIn_eq, mIns_eq, mRevQ_eq, mKeysL_eq, mItemsL_eq, mDPop_eq, mBad_eq, mAsgS_eq, mAsgSS_eq, hStrI_eq, gReprA_loc, gReprA_tup, gReprA_lst, gReprA_non, gReprA_bl, gReprA_int, gReprA_str, mRevT_eq, mUp_eq, mSeqX_eq, mIfX_eq, mRaise1_eq, mCallX_eq, mDropX_eq, mSetX_eq, mRetX_eq, mTryF_eq, mLc2_eq, hSortedDB_eq, mSortSet_eq, Nat.zero_le, Nat.zero_add, Nat.reduceAdd, and_self, mDef_eq, List.getElem?_cons_zero, List.getElem?_cons_succ, List.set, List.length_cons, List.length_nil, List.map_cons, List.map_nil, List.replicate, List.cons_append, List.nil_append, List.append_nil, if_true, if_false, ite_true, ite_false, Bool.false_eq_true, Bool.true_eq_false, Bool.not_true, Bool.not_false, List.zip_cons_cons, List.zip_nil_left, e0, e1, e2, e3, f1, f2, f3, z2, c2, a0, a1, n3, m2]
theorem runs_turn {Z S : Store} {n : Nat} {b : Int} (h : Well Z S n b) (hb : b < 2 ^ 18) {l : Lot} (g : Good l 100) (x0 x1 x3 x4 x5 x6 x7 x9 x10 x11 : Option Slot) :
    ∃ y9 y10 y11 S', b_p_law_5 [x0, x1, some (.val (.loc n)), x3, x4, x5, x6, x7, some (.val (.tup (l.map dP))), x9, x10, x11] S = .ok (.nx [x0, x1, some (.val (.loc n)), x3, x4, x5, x6, x7, some (.val (.tup (l.map dP))), y9, y10, y11]) S' ∧ Well Z S' n (b + 9) := by
  have er : i_p_law_3 [x0, x1, some (.val (.loc n)), x3, x4, x5, x6, x7, some (.val (.tup (l.map dP))), x9, x10, x11] S = .ok ((List.range 3).map fun k : Nat => D.int (0 + (k : Nat))) S := by
    unfold i_p_law_3
    exact iRange1_lit (j := 3) 3 (by simp) rfl (by omega)
  obtain ⟨ρ', S', e, y9, y10, y11, rfl, w⟩ := forL_inv (p := .nm 9) (mb := b_p_law_4) (enc := fun k : Nat => D.int (0 + (k : Nat))) (fun d ρ S' => ∃ y9 y10 y11, ρ = [x0, x1, some (.val (.loc n)), x3, x4, x5, x6, x7, some (.val (.tup (l.map dP))), y9, y10, y11] ∧ Well Z S' n (b + 3 * d.length)) (List.range 3)
    (ρ := [x0, x1, some (.val (.loc n)), x3, x4, x5, x6, x7, some (.val (.tup (l.map dP))), x9, x10, x11]) (S := S) ⟨_, _, _, rfl, h.mono (by rw [List.length_nil]; omega)⟩ (by
    rintro d x r ρ S e ⟨y9, y10, y11, rfl, w⟩
    have hx : x < 3 := List.mem_range.mp (by rw [e]; simp)
    have hd : d.length < 3 := by
      have := congrArg List.length e
      rw [List.length_range, List.length_append, List.length_cons] at this
      omega
    obtain ⟨z10, z11, S', e', w'⟩ := picks_turn w (by omega) g hx x0 x1 x3 x4 x5 x6 x7 y10 y11
    exact ⟨[(9, .int (0 + (x : Nat)))], _, S', rfl, .inl e', _, _, _, rfl, w'.mono (by rw [List.length_append, List.length_singleton]; omega)⟩)
  have f := fun S => points_right_ok g S
  refine ⟨y9, y10, y11, S', ?_, w.mono (by rw [List.length_range]; omega)⟩
  unfold b_p_law_5
  simp only [bind_ok_eq, bind_bad_eq, mVar_eq, mC_eq, m2_eq, mNil_eq, mPass_eq, mSeq_eq, mSet_eq, mRet_eq, mDrop_eq, mIf_eq, mB_eq, isB_eq, mAndT_eq, mOrT_eq, mNotT_eq, mAnd_eq, mOr_eq, mNot_eq, mIfE_eq, mChain_eq, aNil_eq, aCons_eq, mTup_eq, mDisp_eq, mLst_eq, mLoc_eq, mOwnL_eq, mCall_eq, mCallK_eq, mAsg_eq, mFor_eq, iSeq_eq, iSeqD_lst, iSeqD_tup, iLst_eq, seqD_lst, iLoc_eq, locD_eq, iScr_eq, scrD_eq, iRange1_eq, iRange2_eq, iEnumM_eq, mLc_eq, mYes_eq, mQ_eq, mQL_eq, mA_eq, mB1_eq, hLen_eq, hTup_eq, hList_eq, hAbs_eq, hInt_eq, hIntB_eq, hMax2_eq, hMin2_eq, gNeg_eq, gI_eq, gI0_eq, gIx_tup, gIx_lst, gIx_scr, gIx_loc, mSetC_eq, putC_eq, mApp_eq, mAppC_eq, qOwn_eq, gLen_tup, gLen_lst, gLen_scr, mDNewK_eq, mDGet2_eq, mDPut_eq, mDSet_eq, dictAt_eq, dictR_eq, keyD_int, keyD_str, mPar_eq, sNil_eq, sVal_eq, sOwnL_eq, setSl_nil, setSl_cons, setD_nil, setD_cons, pat_nm, pat_tp, pats_nil, pats_cons, wipeM_nil, wipeM_cons, forL_nil, lcL_nil, n2_eq, atI0, atI1, atI2, gNe_strs, gEq_strs, gNe_ints, gEq_ints, sz_1, sz_2, sz_3, sz_4, sz_5, sz_6, sz_7, sz_8, sz_9, sz_10, sz_11, sz_12, sz_13, sz_14, sz_15, sz_16, sz_17, sz_18, sz_19, sz_20, mLock_eq, nLock_eq, dictVar_eq, iKeysF_eq, keyV_inl, mRest_eq, restAt_eq, mExt_eq, iTup_eq, tupD_tup, mRetO_eq, gIsB_eq, gNotB_eq, gIsN_non, gIsN_int, gIsN_bl, gIsN_str, gIsN_tup, gIsN_lst, gIsN_loc, gNotN_non, gNotN_int, gNotN_bl, gNotN_str, gNotN_tup, gNotN_lst, gNotN_loc, iZip_eq, mAsg2_eq, mAug_eq, hSortedR_eq, mV_eq, mVL_eq, anyD_lst, anyD_tup, anyD_scr, anyD_loc, mIxO_eq, mSetO_eq, oNone_eq, oSome_eq, mSlT_eq, mSlQ_eq, mTruQ_eq, iRg1_eq, iRg2_eq, mNNew_eq, dictT_eq, mNGet1_eq, mNGet2_eq, gNGet_eq, gNIn_eq, putT_eq, setT_eq, mNPut_eq, mNSet_eq, mDGet1_eq, aStar_eq, mDCopy_eq, gDIn_eq, mIns_eq, mRevQ_eq, mKeysL_eq, mItemsL_eq, mDPop_eq, mBad_eq, mAsgS_eq, mAsgSS_eq, hStrI_eq, gReprA_loc, gReprA_tup, gReprA_lst, gReprA_non, gReprA_bl, gReprA_int, gReprA_str, mRevT_eq, mUp_eq, mSeqX_eq, mIfX_eq, mRaise1_eq, mCallX_eq, mDropX_eq, mSetX_eq, mRetX_eq, mTryF_eq, mLc2_eq, hSortedDB_eq, mSortSet_eq, Nat.zero_le, Nat.zero_add, Nat.reduceAdd, and_self, mDef_eq, List.getElem?_cons_zero, List.getElem?_cons_succ, List.set, List.length_cons, List.length_nil, List.map_cons, List.map_nil, List.replicate, List.cons_append, List.nil_append, List.append_nil, if_true, if_false, ite_true, ite_false, Bool.false_eq_true, Bool.true_eq_false, Bool.not_true, Bool.not_false, List.zip_cons_cons, List.zip_nil_left, er, e, f]
theorem turn_ok (ns : List Int) {k : Nat} (hk : k < 3) (S : Store) (x2 x3 x4 x5 x6 x7 x8 x9 x10 x11 : Option Slot) :
    ∃ ρ' S', b_p_law_6 [some (.val (.scr ns)), some (.val (.int (k : Int))), x2, x3, x4, x5, x6, x7, x8, x9, x10, x11] S = .ok (.nx (some (.val (.scr ns)) :: ρ')) S' ∧ ρ'.length = 11 := by
  obtain ⟨S1, e1, w1⟩ := pot_ok ns k (by omega) S
  obtain ⟨d, S2, e2, p2, q2, w2⟩ := pick_ok (k := 2) w1 (by omega) (by omega) (by omega)
  obtain ⟨L, S3, e3, gL, tL, w3⟩ := far_ok w2 (by omega)
  obtain ⟨R0, S4, e4, gR0, tR0, w4⟩ := far_ok w3 (by omega)
  -- the second lot
  have second : ∃ R S5, (mIf (mB (mVar 3)) (mSet 5 (mCall m_l_beside 2 [] (aCons (mVar 2) (aCons (mVar 4) aNil)))) mNil) [some (.val (.scr ns)), some (.val (.int (k : Int))), some (.val (.loc S.length)), some (.val (.bl (d == 0))), some (.val (.tup (L.map dP))), some (.val (.tup (R0.map dP))), x6, x7, x8, x9, x10, x11] S4 =
      .ok (.nx [some (.val (.scr ns)), some (.val (.int (k : Int))), some (.val (.loc S.length)), some (.val (.bl (d == 0))), some (.val (.tup (L.map dP))), some (.val (.tup (R.map dP))), x6, x7, x8, x9, x10, x11]) S5 ∧ Good R 100 ∧ Well S S5 S.length 2000 := by
    cases hd : (d == 0) with
    | true =>
      obtain ⟨R, S5, e5, gR, w5⟩ := beside_ok w4 (by omega) gL tL
      exact ⟨R, S5, by simp [e5], gR, w5.mono (by omega)⟩
    | false => exact ⟨R0, S4, by simp, gR0, w4.mono (by omega)⟩
  obtain ⟨R, S5, e5, gR, w5⟩ := second
  have g0 : Good [] 100 := ⟨⟨.nil, fun _ h => (nomatch h)⟩, (fun _ h => (nomatch h)), (fun _ h => (nomatch h)), Nat.zero_le _⟩
  obtain ⟨ρ6, S6, e6, y6, y7, rfl, w6⟩ := forL_inv (p := .tp [.nm 6, .nm 7]) (mb := b_p_law_2) (enc := fun p : Lot × Lot => D.tup [.tup (p.1.map dP), .tup (p.2.map dP)]) (fun _ ρ S' => ∃ y6 y7, ρ = [some (.val (.scr ns)), some (.val (.int (k : Int))), some (.val (.loc S.length)), some (.val (.bl (d == 0))), some (.val (.tup (L.map dP))), some (.val (.tup (R.map dP))), y6, y7, x8, x9, x10, x11] ∧ Well S S' S.length 2000) [(L, R), (R, L), (L, L), (R, [])]
    (ρ := [some (.val (.scr ns)), some (.val (.int (k : Int))), some (.val (.loc S.length)), some (.val (.bl (d == 0))), some (.val (.tup (L.map dP))), some (.val (.tup (R.map dP))), x6, x7, x8, x9, x10, x11]) (S := S5) ⟨_, _, rfl, w5⟩ (by
    rintro dd x r ρ S' e ⟨y6, y7, rfl, w⟩
    have hx : x ∈ [(L, R), (R, L), (L, L), (R, [])] := by rw [e]; simp
    have gg : Good x.1 100 ∧ Good x.2 100 := by
      simp only [List.mem_cons, List.not_mem_nil, or_false] at hx
      rcases hx with rfl | rfl | rfl | rfl
      · exact ⟨gL, gR⟩
      · exact ⟨gR, gL⟩
      · exact ⟨gL, gL⟩
      · exact ⟨gR, g0⟩
    obtain ⟨S'', e', k'⟩ := two_right_ok gg.1 gg.2 S'
    refine ⟨[(6, .tup (x.1.map dP)), (7, .tup (x.2.map dP))], _, S'', by simp, .inl (?_ : _ = Mo.R.ok (Fl.nx [some (Slot.val (.scr ns)), some (.val (.int (k : Int))), some (.val (.loc S.length)), some (.val (.bl (d == 0))), some (.val (.tup (L.map dP))), some (.val (.tup (R.map dP))), some (.val (.tup (x.1.map dP))), some (.val (.tup (x.2.map dP))), x8, x9, x10, x11]) S''), some (.val (.tup (x.1.map dP))), some (.val (.tup (x.2.map dP))), rfl, w.keep k'⟩
    unfold b_p_law_2
    simp [e'])
  obtain ⟨ρ7, S7, e7, y8, y9, y10, y11, rfl, w7⟩ := forL_inv (p := .nm 8) (mb := b_p_law_5) (enc := fun l : Lot => D.tup (l.map dP)) (fun dd ρ S' => ∃ y8 y9 y10 y11, ρ = [some (.val (.scr ns)), some (.val (.int (k : Int))), some (.val (.loc S.length)), some (.val (.bl (d == 0))), some (.val (.tup (L.map dP))), some (.val (.tup (R.map dP))), y6, y7, y8, y9, y10, y11] ∧ Well S S' S.length (2000 + 9 * dd.length)) [L, R]
    (ρ := [some (.val (.scr ns)), some (.val (.int (k : Int))), some (.val (.loc S.length)), some (.val (.bl (d == 0))), some (.val (.tup (L.map dP))), some (.val (.tup (R.map dP))), y6, y7, x8, x9, x10, x11]) (S := S6) ⟨_, _, _, _, rfl, w6.mono (by rw [List.length_nil]; omega)⟩ (by
    rintro dd x r ρ S' e ⟨y8, y9, y10, y11, rfl, w⟩
    have hx : x ∈ [L, R] := by rw [e]; simp
    have gx : Good x 100 := by
      simp only [List.mem_cons, List.not_mem_nil, or_false] at hx
      rcases hx with rfl | rfl
      · exact gL
      · exact gR
    have hd : dd.length < 2 := by
      have := congrArg List.length e
      simp only [List.length_append, List.length_cons, List.length_nil] at this
      omega
    obtain ⟨z9, z10, z11, S'', e', w'⟩ := runs_turn w (by omega) gx (some (.val (.scr ns))) (some (.val (.int (k : Int)))) (some (.val (.bl (d == 0)))) (some (.val (.tup (L.map dP)))) (some (.val (.tup (R.map dP)))) y6 y7 y9 y10 y11
    exact ⟨[(8, .tup (x.map dP))], _, S'', rfl, .inl e', _, _, _, _, rfl, w'.mono (by rw [List.length_append, List.length_singleton]; omega)⟩)
  have key : b_p_law_6 [some (.val (.scr ns)), some (.val (.int (k : Int))), x2, x3, x4, x5, x6, x7, x8, x9, x10, x11] S = .ok (.nx [some (.val (.scr ns)), some (.val (.int (k : Int))), some (.val (.loc S.length)), some (.val (.bl (d == 0))), some (.val (.tup (L.map dP))), some (.val (.tup (R.map dP))), y6, y7, y8, y9, y10, y11]) S7 := by
    simp only [List.map_cons, List.map_nil] at e6 e7
    unfold b_p_law_6
    simp only [bind_ok_eq, bind_bad_eq, mVar_eq, mC_eq, m2_eq, mNil_eq, mPass_eq, mSeq_eq, mSet_eq, mRet_eq, mDrop_eq, mIf_eq, mB_eq, isB_eq, mAndT_eq, mOrT_eq, mNotT_eq, mAnd_eq, mOr_eq, mNot_eq, mIfE_eq, mChain_eq, aNil_eq, aCons_eq, mTup_eq, mDisp_eq, mLst_eq, mLoc_eq, mOwnL_eq, mCall_eq, mCallK_eq, mAsg_eq, mFor_eq, iSeq_eq, iSeqD_lst, iSeqD_tup, iLst_eq, seqD_lst, iLoc_eq, locD_eq, iScr_eq, scrD_eq, iRange1_eq, iRange2_eq, iEnumM_eq, mLc_eq, mYes_eq, mQ_eq, mQL_eq, mA_eq, mB1_eq, hLen_eq, hTup_eq, hList_eq, hAbs_eq, hInt_eq, hIntB_eq, hMax2_eq, hMin2_eq, gNeg_eq, gI_eq, gI0_eq, gIx_tup, gIx_lst, gIx_scr, gIx_loc, mSetC_eq, putC_eq, mApp_eq, mAppC_eq, qOwn_eq, gLen_tup, gLen_lst, gLen_scr, mDNewK_eq, mDGet2_eq, mDPut_eq, mDSet_eq, dictAt_eq, dictR_eq, keyD_int, keyD_str, mPar_eq, sNil_eq, sVal_eq, sOwnL_eq, setSl_nil, setSl_cons, setD_nil, setD_cons, pat_nm, pat_tp, pats_nil, pats_cons, wipeM_nil, wipeM_cons, forL_nil, lcL_nil, n2_eq, atI0, atI1, atI2, gNe_strs, gEq_strs, gNe_ints, gEq_ints, sz_1, sz_2, sz_3, sz_4, sz_5, sz_6, sz_7, sz_8, sz_9, sz_10, sz_11, sz_12, sz_13, sz_14, sz_15, sz_16, sz_17, sz_18, sz_19, sz_20, mLock_eq, nLock_eq, dictVar_eq, iKeysF_eq, keyV_inl, mRest_eq, restAt_eq, mExt_eq, iTup_eq, tupD_tup, mRetO_eq, gIsB_eq, gNotB_eq, gIsN_non, gIsN_int, gIsN_bl, gIsN_str, gIsN_tup, gIsN_lst, gIsN_loc, gNotN_non, gNotN_int, gNotN_bl, gNotN_str, gNotN_tup, gNotN_lst, gNotN_loc, iZip_eq, mAsg2_eq, mAug_eq, hSortedR_eq, mV_eq, mVL_eq, anyD_lst, anyD_tup, anyD_scr, anyD_loc, mIxO_eq, mSetO_eq, oNone_eq, oSome_eq, mSlT_eq, mSlQ_eq, mTruQ_eq, iRg1_eq, iRg2_eq, mNNew_eq, dictT_eq, mNGet1_eq, mNGet2_eq, gNGet_eq, gNIn_eq, putT_eq, setT_eq, mNPut_eq, mNSet_eq, mDGet1_eq, aStar_eq, mDCopy_eq, gDIn_eq, mIns_eq, mRevQ_eq, mKeysL_eq, mItemsL_eq, mDPop_eq, mBad_eq, mAsgS_eq, mAsgSS_eq, hStrI_eq, gReprA_loc, gReprA_tup, gReprA_lst, gReprA_non, gReprA_bl, gReprA_int, gReprA_str, mRevT_eq, mUp_eq, mSeqX_eq, mIfX_eq, mRaise1_eq, mCallX_eq, mDropX_eq, mSetX_eq, mRetX_eq, mTryF_eq, mLc2_eq, hSortedDB_eq, mSortSet_eq, Nat.zero_le, Nat.zero_add, Nat.reduceAdd, and_self, mDef_eq, List.getElem?_cons_zero, List.getElem?_cons_succ, List.set, List.length_cons, List.length_nil, List.map_cons, List.map_nil, List.replicate, List.cons_append, List.nil_append, List.append_nil, if_true, if_false, ite_true, ite_false, Bool.false_eq_true, Bool.true_eq_false, Bool.not_true, Bool.not_false, List.zip_cons_cons, List.zip_nil_left, e1, e2, e3, e4, -mIf_eq, e5, e6, e7]
  exact ⟨_, S7, key, rfl⟩
theorem law_true : ∀ ns : List Int, ns.length ≤ 63 → ∃ S', m_p_law [.scr ns] [] = .ok (.bl true) S' := fun ns h => by
  have er : i_p_law_1 [some (.val (.scr ns)), none, none, none, none, none, none, none, none, none, none, none] [] = .ok ((List.range (max 1 (min 3 ns.length))).map fun k : Nat => D.int (0 + (k : Nat))) [] := by
    unfold i_p_law_1
    refine iRange1_lit (j := if 1 < (if (ns.length : Int) < 3 then (ns.length : Int) else 3) then (if (ns.length : Int) < 3 then (ns.length : Int) else 3) else 1) (max 1 (min 3 ns.length)) (by simp [gLen_scr]) (by split <;> split <;> omega) (by omega)
  obtain ⟨ρ', S', e, ρ'', rfl, hl⟩ := forL_inv (p := .nm 1) (mb := b_p_law_6) (enc := fun k : Nat => D.int (0 + (k : Nat))) (fun _ ρ _ => ∃ ρ', ρ = some (.val (.scr ns)) :: ρ' ∧ ρ'.length = 11) (List.range (max 1 (min 3 ns.length)))
    (ρ := [some (.val (.scr ns)), none, none, none, none, none, none, none, none, none, none, none]) (S := []) ⟨_, rfl, rfl⟩ (by
    rintro d x r ρ S e ⟨ρ', rfl, hl⟩
    have hx : x < max 1 (min 3 ns.length) := List.mem_range.mp (by rw [e]; simp)
    match ρ', hl with
    | [x1, x2, x3, x4, x5, x6, x7, x8, x9, x10, x11], _ =>
      obtain ⟨ρ'', S', e', hl'⟩ := turn_ok ns (k := x) (by omega) S x2 x3 x4 x5 x6 x7 x8 x9 x10 x11
      refine ⟨[(1, .int (0 + (x : Nat)))], _, S', rfl, .inl (Eq.trans ?_ e'), _, rfl, hl'⟩
      rw [setD_cons, setD_nil, Int.zero_add]; rfl)
  refine ⟨S', ?_⟩
  unfold m_p_law b_p_law
  simp only [bind_ok_eq, bind_bad_eq, mVar_eq, mC_eq, m2_eq, mNil_eq, mPass_eq, mSeq_eq, mSet_eq, mRet_eq, mDrop_eq, mIf_eq, mB_eq, isB_eq, mAndT_eq, mOrT_eq, mNotT_eq, mAnd_eq, mOr_eq, mNot_eq, mIfE_eq, mChain_eq, aNil_eq, aCons_eq, mTup_eq, mDisp_eq, mLst_eq, mLoc_eq, mOwnL_eq, mCall_eq, mCallK_eq, mAsg_eq, mFor_eq, iSeq_eq, iSeqD_lst, iSeqD_tup, iLst_eq, seqD_lst, iLoc_eq, locD_eq, iScr_eq, scrD_eq, iRange1_eq, iRange2_eq, iEnumM_eq, mLc_eq, mYes_eq, mQ_eq, mQL_eq, mA_eq, mB1_eq, hLen_eq, hTup_eq, hList_eq, hAbs_eq, hInt_eq, hIntB_eq, hMax2_eq, hMin2_eq, gNeg_eq, gI_eq, gI0_eq, gIx_tup, gIx_lst, gIx_scr, gIx_loc, mSetC_eq, putC_eq, mApp_eq, mAppC_eq, qOwn_eq, gLen_tup, gLen_lst, gLen_scr, mDNewK_eq, mDGet2_eq, mDPut_eq, mDSet_eq, dictAt_eq, dictR_eq, keyD_int, keyD_str, mPar_eq, sNil_eq, sVal_eq, sOwnL_eq, setSl_nil, setSl_cons, setD_nil, setD_cons, pat_nm, pat_tp, pats_nil, pats_cons, wipeM_nil, wipeM_cons, forL_nil, lcL_nil, n2_eq, atI0, atI1, atI2, gNe_strs, gEq_strs, gNe_ints, gEq_ints, sz_1, sz_2, sz_3, sz_4, sz_5, sz_6, sz_7, sz_8, sz_9, sz_10, sz_11, sz_12, sz_13, sz_14, sz_15, sz_16, sz_17, sz_18, sz_19, sz_20, mLock_eq, nLock_eq, dictVar_eq, iKeysF_eq, keyV_inl, mRest_eq, restAt_eq, mExt_eq, iTup_eq, tupD_tup, mRetO_eq, gIsB_eq, gNotB_eq, gIsN_non, gIsN_int, gIsN_bl, gIsN_str, gIsN_tup, gIsN_lst, gIsN_loc, gNotN_non, gNotN_int, gNotN_bl, gNotN_str, gNotN_tup, gNotN_lst, gNotN_loc, iZip_eq, mAsg2_eq, mAug_eq, hSortedR_eq, mV_eq, mVL_eq, anyD_lst, anyD_tup, anyD_scr, anyD_loc, mIxO_eq, mSetO_eq, oNone_eq, oSome_eq, mSlT_eq, mSlQ_eq, mTruQ_eq, iRg1_eq, iRg2_eq, mNNew_eq, dictT_eq, mNGet1_eq, mNGet2_eq, gNGet_eq, gNIn_eq, putT_eq, setT_eq, mNPut_eq, mNSet_eq, mDGet1_eq, aStar_eq, mDCopy_eq, gDIn_eq, mIns_eq, mRevQ_eq, mKeysL_eq, mItemsL_eq, mDPop_eq, mBad_eq, mAsgS_eq, mAsgSS_eq, hStrI_eq, gReprA_loc, gReprA_tup, gReprA_lst, gReprA_non, gReprA_bl, gReprA_int, gReprA_str, mRevT_eq, mUp_eq, mSeqX_eq, mIfX_eq, mRaise1_eq, mCallX_eq, mDropX_eq, mSetX_eq, mRetX_eq, mTryF_eq, mLc2_eq, hSortedDB_eq, mSortSet_eq, Nat.zero_le, Nat.zero_add, Nat.reduceAdd, and_self, mDef_eq, List.getElem?_cons_zero, List.getElem?_cons_succ, List.set, List.length_cons, List.length_nil, List.map_cons, List.map_nil, List.replicate, List.cons_append, List.nil_append, List.append_nil, if_true, if_false, ite_true, ite_false, Bool.false_eq_true, Bool.true_eq_false, Bool.not_true, Bool.not_false, List.zip_cons_cons, List.zip_nil_left, er, e]
end K02
set_option maxRecDepth 100000
set_option maxHeartbeats 4000000
namespace K02
open PySem PySem.Spec PyProof.Rows L2 Mo Pm
theorem all_mk {l : PySem.W.OpenLaw} {w : World} {K : PySem.W.Frag} {h : Heap} {mg : Str → Option Value} {fa f0 f1 f2 f3 f4 f5 f6 f7 f8 f9 f10 f11 f12 f13 f14 f15 f16 f17 f18 f19 f20 f21 f22 f23 f24 f25 : Addr} (X : K.In h) (G : h.Ns mainGlobals mg) (hfa : mg "law" = some (.ref fa))
    {od0 an0 od1 an1 od2 an2 od3 an3 od4 an4 od5 an5 od6 an6 od7 an7 od8 an8 od9 an9 od10 an10 od11 an11 od12 an12 od13 an13 od14 an14 od15 an15 od16 an16 od17 an17 od18 an18 od19 an19 od20 an20 od21 an21 od22 an22 od23 an23 od24 an24 od25 an25 : Option Addr} {sl0 sl1 sl2 sl3 sl4 sl5 sl6 sl7 sl8 sl9 sl10 sl11 sl12 sl13 sl14 sl15 sl16 sl17 sl18 sl19 sl20 sl21 sl22 sl23 sl24 sl25 : Array (Option Value)} {oc0 kV0 dc0 pm0 cd0 ct0 oc1 kV1 dc1 pm1 cd1 ct1 oc2 kV2 dc2 pm2 cd2 ct2 oc3 kV3 dc3 pm3 cd3 ct3 oc4 kV4 dc4 pm4 cd4 ct4 oc5 kV5 dc5 pm5 cd5 ct5 oc6 kV6 dc6 pm6 cd6 ct6 oc7 kV7 dc7 pm7 cd7 ct7 oc8 kV8 dc8 pm8 cd8 ct8 oc9 kV9 dc9 pm9 cd9 ct9 oc10 kV10 dc10 pm10 cd10 ct10 oc11 kV11 dc11 pm11 cd11 ct11 oc12 kV12 dc12 pm12 cd12 ct12 oc13 kV13 dc13 pm13 cd13 ct13 oc14 kV14 dc14 pm14 cd14 ct14 oc15 kV15 dc15 pm15 cd15 ct15 oc16 kV16 dc16 pm16 cd16 ct16 oc17 kV17 dc17 pm17 cd17 ct17 oc18 kV18 dc18 pm18 cd18 ct18 oc19 kV19 dc19 pm19 cd19 ct19 oc20 kV20 dc20 pm20 cd20 ct20 oc21 kV21 dc21 pm21 cd21 ct21 oc22 kV22 dc22 pm22 cd22 ct22 oc23 kV23 dc23 pm23 cd23 ct23 oc24 kV24 dc24 pm24 cd24 ct24 oc25 kV25 dc25 pm25 cd25 ct25 : Value}
    (a0 : PySem.W.nsIn K mainGlobals "_law_pot" = some (some (.ref f0))) (l0 : K.lookup f0 = some ⟨oc0, od0, .func (PySem.W.fnOf "_law_pot" "_law_pot" (defArgs s_l_pot) (defBody s_l_pot) (defScope s_l_pot) .none kV0 dc0 pm0 an0 cd0 ct0), sl0⟩)
    (c0 : PySem.W.codeIn K cd0 "_law_pot" = true) (k0 : PySem.W.keepIn K (.ref f0) = true)
    (a1 : PySem.W.nsIn K mainGlobals "_law_pick" = some (some (.ref f1))) (l1 : K.lookup f1 = some ⟨oc1, od1, .func (PySem.W.fnOf "_law_pick" "_law_pick" (defArgs s_l_pick) (defBody s_l_pick) (defScope s_l_pick) .none kV1 dc1 pm1 an1 cd1 ct1), sl1⟩)
    (c1 : PySem.W.codeIn K cd1 "_law_pick" = true) (k1 : PySem.W.keepIn K (.ref f1) = true)
    (a2 : PySem.W.nsIn K mainGlobals "_law_far_lot" = some (some (.ref f2))) (l2 : K.lookup f2 = some ⟨oc2, od2, .func (PySem.W.fnOf "_law_far_lot" "_law_far_lot" (defArgs s_l_far_lot) (defBody s_l_far_lot) (defScope s_l_far_lot) .none kV2 dc2 pm2 an2 cd2 ct2), sl2⟩)
    (c2 : PySem.W.codeIn K cd2 "_law_far_lot" = true) (k2 : PySem.W.keepIn K (.ref f2) = true)
    (a3 : PySem.W.nsIn K mainGlobals "_law_beside" = some (some (.ref f3))) (l3 : K.lookup f3 = some ⟨oc3, od3, .func (PySem.W.fnOf "_law_beside" "_law_beside" (defArgs s_l_beside) (defBody s_l_beside) (defScope s_l_beside) .none kV3 dc3 pm3 an3 cd3 ct3), sl3⟩)
    (c3 : PySem.W.codeIn K cd3 "_law_beside" = true) (k3 : PySem.W.keepIn K (.ref f3) = true)
    (a4 : PySem.W.nsIn K mainGlobals "_law_pieces" = some (some (.ref f4))) (l4 : K.lookup f4 = some ⟨oc4, od4, .func (PySem.W.fnOf "_law_pieces" "_law_pieces" (defArgs s_l_pieces) (defBody s_l_pieces) (defScope s_l_pieces) .none kV4 dc4 pm4 an4 cd4 ct4), sl4⟩)
    (c4 : PySem.W.codeIn K cd4 "_law_pieces" = true) (k4 : PySem.W.keepIn K (.ref f4) = true)
    (a5 : PySem.W.nsIn K mainGlobals "_law_closed" = some (some (.ref f5))) (l5 : K.lookup f5 = some ⟨oc5, od5, .func (PySem.W.fnOf "_law_closed" "_law_closed" (defArgs s_l_closed) (defBody s_l_closed) (defScope s_l_closed) .none kV5 dc5 pm5 an5 cd5 ct5), sl5⟩)
    (c5 : PySem.W.codeIn K cd5 "_law_closed" = true) (k5 : PySem.W.keepIn K (.ref f5) = true)
    (a6 : PySem.W.nsIn K mainGlobals "size" = some (some (.ref f6))) (l6 : K.lookup f6 = some ⟨oc6, od6, .func (PySem.W.fnOf "size" "size" (defArgs s_p_size) (defBody s_p_size) (defScope s_p_size) .none kV6 dc6 pm6 an6 cd6 ct6), sl6⟩)
    (c6 : PySem.W.codeIn K cd6 "size" = true) (k6 : PySem.W.keepIn K (.ref f6) = true)
    (a7 : PySem.W.nsIn K mainGlobals "overlaps" = some (some (.ref f7))) (l7 : K.lookup f7 = some ⟨oc7, od7, .func (PySem.W.fnOf "overlaps" "overlaps" (defArgs s_p_overlaps) (defBody s_p_overlaps) (defScope s_p_overlaps) .none kV7 dc7 pm7 an7 cd7 ct7), sl7⟩)
    (c7 : PySem.W.codeIn K cd7 "overlaps" = true) (k7 : PySem.W.keepIn K (.ref f7) = true)
    (a8 : PySem.W.nsIn K mainGlobals "common" = some (some (.ref f8))) (l8 : K.lookup f8 = some ⟨oc8, od8, .func (PySem.W.fnOf "common" "common" (defArgs s_p_common) (defBody s_p_common) (defScope s_p_common) .none kV8 dc8 pm8 an8 cd8 ct8), sl8⟩)
    (c8 : PySem.W.codeIn K cd8 "common" = true) (k8 : PySem.W.keepIn K (.ref f8) = true)
    (a9 : PySem.W.nsIn K mainGlobals "gaps" = some (some (.ref f9))) (l9 : K.lookup f9 = some ⟨oc9, od9, .func (PySem.W.fnOf "gaps" "gaps" (defArgs s_p_gaps) (defBody s_p_gaps) (defScope s_p_gaps) .none kV9 dc9 pm9 an9 cd9 ct9), sl9⟩)
    (c9 : PySem.W.codeIn K cd9 "gaps" = true) (k9 : PySem.W.keepIn K (.ref f9) = true)
    (a10 : PySem.W.nsIn K mainGlobals "without" = some (some (.ref f10))) (l10 : K.lookup f10 = some ⟨oc10, od10, .func (PySem.W.fnOf "without" "without" (defArgs s_p_without) (defBody s_p_without) (defScope s_p_without) .none kV10 dc10 pm10 an10 cd10 ct10), sl10⟩)
    (c10 : PySem.W.codeIn K cd10 "without" = true) (k10 : PySem.W.keepIn K (.ref f10) = true)
    (a11 : PySem.W.nsIn K mainGlobals "is_within" = some (some (.ref f11))) (l11 : K.lookup f11 = some ⟨oc11, od11, .func (PySem.W.fnOf "is_within" "is_within" (defArgs s_p_is_within) (defBody s_p_is_within) (defScope s_p_is_within) .none kV11 dc11 pm11 an11 cd11 ct11), sl11⟩)
    (c11 : PySem.W.codeIn K cd11 "is_within" = true) (k11 : PySem.W.keepIn K (.ref f11) = true)
    (a12 : PySem.W.nsIn K mainGlobals "has_parts" = some (some (.ref f12))) (l12 : K.lookup f12 = some ⟨oc12, od12, .func (PySem.W.fnOf "has_parts" "has_parts" (defArgs s_p_has_parts) (defBody s_p_has_parts) (defScope s_p_has_parts) .none kV12 dc12 pm12 an12 cd12 ct12), sl12⟩)
    (c12 : PySem.W.codeIn K cd12 "has_parts" = true) (k12 : PySem.W.keepIn K (.ref f12) = true)
    (a13 : PySem.W.nsIn K mainGlobals "is_from" = some (some (.ref f13))) (l13 : K.lookup f13 = some ⟨oc13, od13, .func (PySem.W.fnOf "is_from" "is_from" (defArgs s_p_is_from) (defBody s_p_is_from) (defScope s_p_is_from) .none kV13 dc13 pm13 an13 cd13 ct13), sl13⟩)
    (c13 : PySem.W.codeIn K cd13 "is_from" = true) (k13 : PySem.W.keepIn K (.ref f13) = true)
    (a14 : PySem.W.nsIn K mainGlobals "is_pair" = some (some (.ref f14))) (l14 : K.lookup f14 = some ⟨oc14, od14, .func (PySem.W.fnOf "is_pair" "is_pair" (defArgs s_p_is_pair) (defBody s_p_is_pair) (defScope s_p_is_pair) .none kV14 dc14 pm14 an14 cd14 ct14), sl14⟩)
    (c14 : PySem.W.codeIn K cd14 "is_pair" = true) (k14 : PySem.W.keepIn K (.ref f14) = true)
    (a15 : PySem.W.nsIn K mainGlobals "is_run" = some (some (.ref f15))) (l15 : K.lookup f15 = some ⟨oc15, od15, .func (PySem.W.fnOf "is_run" "is_run" (defArgs s_p_is_run) (defBody s_p_is_run) (defScope s_p_is_run) .none kV15 dc15 pm15 an15 cd15 ct15), sl15⟩)
    (c15 : PySem.W.codeIn K cd15 "is_run" = true) (k15 : PySem.W.keepIn K (.ref f15) = true)
    (a16 : PySem.W.nsIn K mainGlobals "is_lot" = some (some (.ref f16))) (l16 : K.lookup f16 = some ⟨oc16, od16, .func (PySem.W.fnOf "is_lot" "is_lot" (defArgs s_p_is_lot) (defBody s_p_is_lot) (defScope s_p_is_lot) .none kV16 dc16 pm16 an16 cd16 ct16), sl16⟩)
    (c16 : PySem.W.codeIn K cd16 "is_lot" = true) (k16 : PySem.W.keepIn K (.ref f16) = true)
    (a17 : PySem.W.nsIn K mainGlobals "knitted" = some (some (.ref f17))) (l17 : K.lookup f17 = some ⟨oc17, od17, .func (PySem.W.fnOf "knitted" "knitted" (defArgs s_p_knitted) (defBody s_p_knitted) (defScope s_p_knitted) .none kV17 dc17 pm17 an17 cd17 ct17), sl17⟩)
    (c17 : PySem.W.codeIn K cd17 "knitted" = true) (k17 : PySem.W.keepIn K (.ref f17) = true)
    (a18 : PySem.W.nsIn K mainGlobals "joined" = some (some (.ref f18))) (l18 : K.lookup f18 = some ⟨oc18, od18, .func (PySem.W.fnOf "joined" "joined" (defArgs s_p_joined) (defBody s_p_joined) (defScope s_p_joined) .none kV18 dc18 pm18 an18 cd18 ct18), sl18⟩)
    (c18 : PySem.W.codeIn K cd18 "joined" = true) (k18 : PySem.W.keepIn K (.ref f18) = true)
    (a19 : PySem.W.nsIn K mainGlobals "_law_two_right" = some (some (.ref f19))) (l19 : K.lookup f19 = some ⟨oc19, od19, .func (PySem.W.fnOf "_law_two_right" "_law_two_right" (defArgs s_l_two_right) (defBody s_l_two_right) (defScope s_l_two_right) .none kV19 dc19 pm19 an19 cd19 ct19), sl19⟩)
    (c19 : PySem.W.codeIn K cd19 "_law_two_right" = true) (k19 : PySem.W.keepIn K (.ref f19) = true)
    (a20 : PySem.W.nsIn K mainGlobals "points_in" = some (some (.ref f20))) (l20 : K.lookup f20 = some ⟨oc20, od20, .func (PySem.W.fnOf "points_in" "points_in" (defArgs s_p_points_in) (defBody s_p_points_in) (defScope s_p_points_in) .none kV20 dc20 pm20 an20 cd20 ct20), sl20⟩)
    (c20 : PySem.W.codeIn K cd20 "points_in" = true) (k20 : PySem.W.keepIn K (.ref f20) = true)
    {kD20 : Addr} {kt20 : Tok} (kq20 : kV20 = .ref kD20) (e20 : PySem.W.nsIn K kD20 "most" = some (some (.int 200 kt20)))
    (a21 : PySem.W.nsIn K mainGlobals "picked" = some (some (.ref f21))) (l21 : K.lookup f21 = some ⟨oc21, od21, .func (PySem.W.fnOf "picked" "picked" (defArgs s_p_picked) (defBody s_p_picked) (defScope s_p_picked) .none kV21 dc21 pm21 an21 cd21 ct21), sl21⟩)
    (c21 : PySem.W.codeIn K cd21 "picked" = true) (k21 : PySem.W.keepIn K (.ref f21) = true)
    {kD21 : Addr} {kt21 : Tok} (kq21 : kV21 = .ref kD21) (e21 : PySem.W.nsIn K kD21 "skip" = some (some (.int 0 kt21)))
    (a22 : PySem.W.nsIn K mainGlobals "_law_too_many" = some (some (.ref f22))) (l22 : K.lookup f22 = some ⟨oc22, od22, .func (PySem.W.fnOf "_law_too_many" "_law_too_many" (defArgs s_l_too_many) (defBody s_l_too_many) (defScope s_l_too_many) .none kV22 dc22 pm22 an22 cd22 ct22), sl22⟩)
    (c22 : PySem.W.codeIn K cd22 "_law_too_many" = true) (k22 : PySem.W.keepIn K (.ref f22) = true)
    (a23 : PySem.W.nsIn K mainGlobals "_law_points_right" = some (some (.ref f23))) (l23 : K.lookup f23 = some ⟨oc23, od23, .func (PySem.W.fnOf "_law_points_right" "_law_points_right" (defArgs s_l_points_right) (defBody s_l_points_right) (defScope s_l_points_right) .none kV23 dc23 pm23 an23 cd23 ct23), sl23⟩)
    (c23 : PySem.W.codeIn K cd23 "_law_points_right" = true) (k23 : PySem.W.keepIn K (.ref f23) = true)
    (a24 : PySem.W.nsIn K mainGlobals "_law_picked_right" = some (some (.ref f24))) (l24 : K.lookup f24 = some ⟨oc24, od24, .func (PySem.W.fnOf "_law_picked_right" "_law_picked_right" (defArgs s_l_picked_right) (defBody s_l_picked_right) (defScope s_l_picked_right) .none kV24 dc24 pm24 an24 cd24 ct24), sl24⟩)
    (c24 : PySem.W.codeIn K cd24 "_law_picked_right" = true) (k24 : PySem.W.keepIn K (.ref f24) = true)
    (a25 : PySem.W.nsIn K mainGlobals "law" = some (some (.ref f25))) (l25 : K.lookup f25 = some ⟨oc25, od25, .func (PySem.W.fnOf "law" "law" (defArgs s_p_law) (defBody s_p_law) (defScope s_p_law) .none kV25 dc25 pm25 an25 cd25 ct25), sl25⟩)
    (c25 : PySem.W.codeIn K cd25 "law" = true) (k25 : PySem.W.keepIn K (.ref f25) = true)
    {C_TooMany B_TooMany I_TooMany : Addr} {nm_TooMany q_TooMany : Str} {N_TooMany : Addr} {bs_TooMany : List Value} {sn_TooMany : List Str} {sb_TooMany : List Value} {ab_TooMany : Bool} {co_TooMany : Option Bool} {dd_TooMany : Option Addr} {ma_TooMany mb_TooMany mc_TooMany md_TooMany me_TooMany : Option Value}
    {oc_TooMany kV_TooMany dc_TooMany pm_TooMany cd_TooMany ct_TooMany : Value} {od_TooMany an_TooMany : Option Addr} {sl_TooMany : Array (Option Value)}
    (ca_TooMany : PySem.W.nsIn K mainGlobals "TooMany" = some (some (.ref C_TooMany)))
    (cl_TooMany : K.lookup C_TooMany = some (excClassObj nm_TooMany q_TooMany C_TooMany N_TooMany bs_TooMany [.ref B_TooMany, .type "ValueError", .type "Exception", .type "BaseException", .type "object"] true sn_TooMany sb_TooMany ab_TooMany co_TooMany dd_TooMany ma_TooMany mb_TooMany mc_TooMany md_TooMany me_TooMany "ValueError.__new__"))
    (cs_TooMany : PySem.W.findIn K (.ref C_TooMany) "__setattr__" = some (some (.builtin "object.__setattr__"))) (ce_TooMany : PySem.W.subIn K (.ref C_TooMany) (.type "BaseException") = some true) (cy_TooMany : PySem.W.typeIn K (.ref C_TooMany) = some (.type "type")) (ck_TooMany : PySem.W.keepIn K (.ref C_TooMany) = true)
    (ci_TooMany : PySem.W.findIn K (.ref C_TooMany) "__init__" = some (some (.ref I_TooMany))) (cf_TooMany : PySem.W.typeIn K (.ref I_TooMany) = some (.type "function"))
    (cg_TooMany : K.lookup I_TooMany = some ⟨oc_TooMany, od_TooMany, .func (PySem.W.fnOf "__init__" "TooMany.__init__" (defArgs si_TooMany) (defBody si_TooMany) (defScope si_TooMany) .none kV_TooMany dc_TooMany pm_TooMany an_TooMany cd_TooMany ct_TooMany), sl_TooMany⟩) (cc_TooMany : PySem.W.codeIn K cd_TooMany "TooMany.__init__" = true)
    (cp_TooMany : PySem.W.findIn K (.ref C_TooMany) "__getattribute__" = some (some (.builtin "BaseException.__getattribute__"))) (cq_TooMany : PySem.W.findIn K (.ref C_TooMany) "__getattr__" = some none) (cx_TooMany : PySem.W.hasDictIn K C_TooMany = true) (cn_TooMany : PySem.W.findIn K (.ref C_TooMany) "many" = some none) (cz_TooMany : PySem.W.subIn K (.ref C_TooMany) (.ref C_TooMany) = some true)
    (y_all : PySem.W.nsIn K mainGlobals "all" = some none) (y_bool : PySem.W.nsIn K mainGlobals "bool" = some none) (y_int : PySem.W.nsIn K mainGlobals "int" = some none) (y_isinstance : PySem.W.nsIn K mainGlobals "isinstance" = some none) (y_len : PySem.W.nsIn K mainGlobals "len" = some none) (y_list : PySem.W.nsIn K mainGlobals "list" = some none) (y_max : PySem.W.nsIn K mainGlobals "max" = some none) (y_min : PySem.W.nsIn K mainGlobals "min" = some none) (y_range : PySem.W.nsIn K mainGlobals "range" = some none) (y_repr : PySem.W.nsIn K mainGlobals "repr" = some none) (y_set : PySem.W.nsIn K mainGlobals "set" = some none) (y_sorted : PySem.W.nsIn K mainGlobals "sorted" = some none) (y_sum : PySem.W.nsIn K mainGlobals "sum" = some none) (y_tuple : PySem.W.nsIn K mainGlobals "tuple" = some none) (y_zip : PySem.W.nsIn K mainGlobals "zip" = some none) :
    ∃ fd : FuncData, (∀ (s : Shared) (v : Value), BindsTo s fd ⟨[v], []⟩ [("_law_script", v)]) ∧ ∀ base : Heap, K.In base → base.Ns mainGlobals mg → FnG l.prog w K mg base CX0 6 fa fd ["_law_script"] (spM K 1 m_p_law) := by
  have e := hfa.symm.trans (PySem.W.mg_of X G a25)
  cases e
  have z_all := PySem.W.mg_none_of X G y_all
  have z_bool := PySem.W.mg_none_of X G y_bool
  have z_int := PySem.W.mg_none_of X G y_int
  have z_isinstance := PySem.W.mg_none_of X G y_isinstance
  have z_len := PySem.W.mg_none_of X G y_len
  have z_list := PySem.W.mg_none_of X G y_list
  have z_max := PySem.W.mg_none_of X G y_max
  have z_min := PySem.W.mg_none_of X G y_min
  have z_range := PySem.W.mg_none_of X G y_range
  have z_repr := PySem.W.mg_none_of X G y_repr
  have z_set := PySem.W.mg_none_of X G y_set
  have z_sorted := PySem.W.mg_none_of X G y_sorted
  have z_sum := PySem.W.mg_none_of X G y_sum
  have z_tuple := PySem.W.mg_none_of X G y_tuple
  have z_zip := PySem.W.mg_none_of X G y_zip
  have F_l_pot := fun_mk (st := s_l_pot) l0 c0 k0
  have B_l_pot := F_l_pot.binds (ps := ["_law_script", "_law_k"]) fun _ _ _ _ _ _ us hl => match us, hl with | [_, _], _ => rfl
  have F_l_pick := fun_mk (st := s_l_pick) l1 c1 k1
  have B_l_pick := F_l_pick.binds (ps := ["_law_pot_here", "_law_upto"]) fun _ _ _ _ _ _ us hl => match us, hl with | [_, _], _ => rfl
  have F_l_far_lot := fun_mk (st := s_l_far_lot) l2 c2 k2
  have B_l_far_lot := F_l_far_lot.binds (ps := ["_law_pot_here"]) fun _ _ _ _ _ _ us hl => match us, hl with | [_], _ => rfl
  have F_l_beside := fun_mk (st := s_l_beside) l3 c3 k3
  have B_l_beside := F_l_beside.binds (ps := ["_law_pot_here", "_law_runs"]) fun _ _ _ _ _ _ us hl => match us, hl with | [_, _], _ => rfl
  have F_l_pieces := fun_mk (st := s_l_pieces) l4 c4 k4
  have B_l_pieces := F_l_pieces.binds (ps := ["_law_left", "_law_right"]) fun _ _ _ _ _ _ us hl => match us, hl with | [_, _], _ => rfl
  have F_l_closed := fun_mk (st := s_l_closed) l5 c5 k5
  have B_l_closed := F_l_closed.binds (ps := ["_law_pieces_here"]) fun _ _ _ _ _ _ us hl => match us, hl with | [_], _ => rfl
  have F_p_size := fun_mk (st := s_p_size) l6 c6 k6
  have B_p_size := F_p_size.binds (ps := ["lot"]) fun _ _ _ _ _ _ us hl => match us, hl with | [_], _ => rfl
  have F_p_overlaps := fun_mk (st := s_p_overlaps) l7 c7 k7
  have B_p_overlaps := F_p_overlaps.binds (ps := ["one", "other"]) fun _ _ _ _ _ _ us hl => match us, hl with | [_, _], _ => rfl
  have F_p_common := fun_mk (st := s_p_common) l8 c8 k8
  have B_p_common := F_p_common.binds (ps := ["one", "other"]) fun _ _ _ _ _ _ us hl => match us, hl with | [_, _], _ => rfl
  have F_p_gaps := fun_mk (st := s_p_gaps) l9 c9 k9
  have B_p_gaps := F_p_gaps.binds (ps := ["lot", "end"]) fun _ _ _ _ _ _ us hl => match us, hl with | [_, _], _ => rfl
  have F_p_without := fun_mk (st := s_p_without) l10 c10 k10
  have B_p_without := F_p_without.binds (ps := ["one", "other"]) fun _ _ _ _ _ _ us hl => match us, hl with | [_, _], _ => rfl
  have F_p_is_within := fun_mk (st := s_p_is_within) l11 c11 k11
  have B_p_is_within := F_p_is_within.binds (ps := ["one", "other"]) fun _ _ _ _ _ _ us hl => match us, hl with | [_, _], _ => rfl
  have F_p_has_parts := fun_mk (st := s_p_has_parts) l12 c12 k12
  have B_p_has_parts := F_p_has_parts.binds (ps := ["thing", "many"]) fun _ _ _ _ _ _ us hl => match us, hl with | [_, _], _ => rfl
  have F_p_is_from := fun_mk (st := s_p_is_from) l13 c13 k13
  have B_p_is_from := F_p_is_from.binds (ps := ["thing", "least"]) fun _ _ _ _ _ _ us hl => match us, hl with | [_, _], _ => rfl
  have F_p_is_pair := fun_mk (st := s_p_is_pair) l14 c14 k14
  have B_p_is_pair := F_p_is_pair.binds (ps := ["thing"]) fun _ _ _ _ _ _ us hl => match us, hl with | [_], _ => rfl
  have F_p_is_run := fun_mk (st := s_p_is_run) l15 c15 k15
  have B_p_is_run := F_p_is_run.binds (ps := ["thing"]) fun _ _ _ _ _ _ us hl => match us, hl with | [_], _ => rfl
  have F_p_is_lot := fun_mk (st := s_p_is_lot) l16 c16 k16
  have B_p_is_lot := F_p_is_lot.binds (ps := ["thing"]) fun _ _ _ _ _ _ us hl => match us, hl with | [_], _ => rfl
  have F_p_knitted := fun_mk (st := s_p_knitted) l17 c17 k17
  have B_p_knitted := F_p_knitted.binds (ps := ["rows"]) fun _ _ _ _ _ _ us hl => match us, hl with | [_], _ => rfl
  have F_p_joined := fun_mk (st := s_p_joined) l18 c18 k18
  have B_p_joined := F_p_joined.binds (ps := ["one", "other"]) fun _ _ _ _ _ _ us hl => match us, hl with | [_, _], _ => rfl
  have F_l_two_right := fun_mk (st := s_l_two_right) l19 c19 k19
  have B_l_two_right := F_l_two_right.binds (ps := ["_law_left", "_law_right"]) fun _ _ _ _ _ _ us hl => match us, hl with | [_, _], _ => rfl
  have F_p_points_in := fun_mk (st := s_p_points_in) l20 c20 k20
  have D_p_points_in_1_ : MixD K (PySem.W.fnOf "points_in" "points_in" (defArgs s_p_points_in) (defBody s_p_points_in) (defScope s_p_points_in) .none kV20 dc20 pm20 an20 cd20 ct20) ["lot", "most"] [] 1 [0] [.int 200] := by subst kq20; exact mixD_of [0] e20 fun us ws h1 h2 => match us, ws, h1, h2 with | [_], [], _, _ => ⟨_, _, _, _, _, _, rfl, rfl, rfl⟩
  have K_p_points_in_1_most : Mix (PySem.W.fnOf "points_in" "points_in" (defArgs s_p_points_in) (defBody s_p_points_in) (defScope s_p_points_in) .none kV20 dc20 pm20 an20 cd20 ct20) ["lot", "most"] ["most"] 1 (pickIx [0, 1]) := mix_of [0, 1] fun us ws h1 h2 => match us, ws, h1, h2 with | [_], [_], _, _ => rfl
  have F_p_picked := fun_mk (st := s_p_picked) l21 c21 k21
  have D_p_picked_2_ : MixD K (PySem.W.fnOf "picked" "picked" (defArgs s_p_picked) (defBody s_p_picked) (defScope s_p_picked) .none kV21 dc21 pm21 an21 cd21 ct21) ["lot", "many", "skip"] [] 2 [0, 1] [.int 0] := by subst kq21; exact mixD_of [0, 1] e21 fun us ws h1 h2 => match us, ws, h1, h2 with | [_, _], [], _, _ => ⟨_, _, _, _, _, _, rfl, rfl, rfl⟩
  have K_p_picked_2_skip : Mix (PySem.W.fnOf "picked" "picked" (defArgs s_p_picked) (defBody s_p_picked) (defScope s_p_picked) .none kV21 dc21 pm21 an21 cd21 ct21) ["lot", "many", "skip"] ["skip"] 2 (pickIx [0, 1, 2]) := mix_of [0, 1, 2] fun us ws h1 h2 => match us, ws, h1, h2 with | [_, _], [_], _, _ => rfl
  have F_l_too_many := fun_mk (st := s_l_too_many) l22 c22 k22
  have B_l_too_many := F_l_too_many.binds (ps := ["_law_runs"]) fun _ _ _ _ _ _ us hl => match us, hl with | [_], _ => rfl
  have F_l_points_right := fun_mk (st := s_l_points_right) l23 c23 k23
  have B_l_points_right := F_l_points_right.binds (ps := ["_law_runs"]) fun _ _ _ _ _ _ us hl => match us, hl with | [_], _ => rfl
  have F_l_picked_right := fun_mk (st := s_l_picked_right) l24 c24 k24
  have B_l_picked_right := F_l_picked_right.binds (ps := ["_law_runs", "_law_often", "_law_ahead"]) fun _ _ _ _ _ _ us hl => match us, hl with | [_, _, _], _ => rfl
  have F_p_law := fun_mk (st := s_p_law) l25 c25 k25
  refine ⟨PySem.W.fnOf "law" "law" (defArgs s_p_law) (defBody s_p_law) (defScope s_p_law) .none kV25 dc25 pm25 an25 cd25 ct25, fun s v => .of_eq rfl, fun base _ _ => ?_⟩
  have ox_TooMany : OexC K C_TooMany := ⟨⟨_, _, _, _, _, _, _, _, _, _, _, _, _, _, _, cl_TooMany, by rfl⟩, cs_TooMany, ce_TooMany, cy_TooMany, ck_TooMany⟩
  have R_TooMany : ExC1 l.prog w K mg base 1 "TooMany" "many" C_TooMany := ⟨PySem.W.mg_of X G ca_TooMany, ox_TooMany, ⟨cp_TooMany, cq_TooMany, ce_TooMany, cx_TooMany⟩, ⟨I_TooMany, _, ["self", "many"], ci_TooMany, cf_TooMany, init1_ok (k := 0) cg_TooMany cc_TooMany sci_TooMany ox_TooMany cn_TooMany rfl rfl, Binds.all fun us hl => match us, hl with | [_, _], _ => rfl⟩, cz_TooMany, cn_TooMany⟩
  have C_l_pot : Own l.prog w K mg base 1 2 "_law_pot" ["_law_script", "_law_k"] f0 _ m_l_pot := ⟨PySem.W.mg_of X G a0, k0, ok_l_pot F_l_pot z_int z_len⟩
  have C_l_pick : Own l.prog w K mg base 1 2 "_law_pick" ["_law_pot_here", "_law_upto"] f1 _ m_l_pick := ⟨PySem.W.mg_of X G a1, k1, ok_l_pick F_l_pick⟩
  have C_l_far_lot : Own l.prog w K mg base 2 1 "_law_far_lot" ["_law_pot_here"] f2 _ m_l_far_lot := ⟨PySem.W.mg_of X G a2, k2, ok_l_far_lot F_l_far_lot C_l_pick B_l_pick z_range z_tuple⟩
  have C_l_beside : Own l.prog w K mg base 2 2 "_law_beside" ["_law_pot_here", "_law_runs"] f3 _ m_l_beside := ⟨PySem.W.mg_of X G a3, k3, ok_l_beside F_l_beside C_l_pick B_l_pick z_max z_tuple⟩
  have C_l_pieces : Own l.prog w K mg base 1 2 "_law_pieces" ["_law_left", "_law_right"] f4 _ m_l_pieces := ⟨PySem.W.mg_of X G a4, k4, ok_l_pieces F_l_pieces z_len z_sorted z_zip⟩
  have C_l_closed : Own l.prog w K mg base 1 1 "_law_closed" ["_law_pieces_here"] f5 _ m_l_closed := ⟨PySem.W.mg_of X G a5, k5, ok_l_closed F_l_closed z_tuple⟩
  have C_p_size : Own l.prog w K mg base 1 1 "size" ["lot"] f6 _ m_p_size := ⟨PySem.W.mg_of X G a6, k6, ok_p_size F_p_size z_sum⟩
  have C_p_overlaps : Own l.prog w K mg base 1 2 "overlaps" ["one", "other"] f7 _ m_p_overlaps := ⟨PySem.W.mg_of X G a7, k7, ok_p_overlaps F_p_overlaps z_len z_max z_min⟩
  have C_p_common : Own l.prog w K mg base 2 2 "common" ["one", "other"] f8 _ m_p_common := ⟨PySem.W.mg_of X G a8, k8, ok_p_common F_p_common C_p_overlaps B_p_overlaps z_tuple⟩
  have C_p_gaps : Own l.prog w K mg base 1 2 "gaps" ["lot", "end"] f9 _ m_p_gaps := ⟨PySem.W.mg_of X G a9, k9, ok_p_gaps F_p_gaps z_tuple⟩
  have C_p_without : Own l.prog w K mg base 3 2 "without" ["one", "other"] f10 _ m_p_without := ⟨PySem.W.mg_of X G a10, k10, ok_p_without F_p_without C_p_common B_p_common C_p_gaps B_p_gaps⟩
  have C_p_is_within : Own l.prog w K mg base 4 2 "is_within" ["one", "other"] f11 _ m_p_is_within := ⟨PySem.W.mg_of X G a11, k11, ok_p_is_within F_p_is_within C_p_without B_p_without⟩
  have C_p_has_parts : Own l.prog w K mg base 1 2 "has_parts" ["thing", "many"] f12 _ m_p_has_parts := ⟨PySem.W.mg_of X G a12, k12, ok_p_has_parts F_p_has_parts z_isinstance z_len z_tuple⟩
  have C_p_is_from : Own l.prog w K mg base 1 2 "is_from" ["thing", "least"] f13 _ m_p_is_from := ⟨PySem.W.mg_of X G a13, k13, ok_p_is_from F_p_is_from z_bool z_int z_isinstance⟩
  have C_p_is_pair : Own l.prog w K mg base 2 1 "is_pair" ["thing"] f14 _ m_p_is_pair := ⟨PySem.W.mg_of X G a14, k14, ok_p_is_pair F_p_is_pair C_p_has_parts B_p_has_parts C_p_is_from B_p_is_from⟩
  have C_p_is_run : Own l.prog w K mg base 3 1 "is_run" ["thing"] f15 _ m_p_is_run := ⟨PySem.W.mg_of X G a15, k15, ok_p_is_run F_p_is_run C_p_is_pair B_p_is_pair⟩
  have C_p_is_lot : Own l.prog w K mg base 4 1 "is_lot" ["thing"] f16 _ m_p_is_lot := ⟨PySem.W.mg_of X G a16, k16, ok_p_is_lot F_p_is_lot C_p_is_run B_p_is_run z_all z_isinstance z_tuple z_zip⟩
  have C_p_knitted : Own l.prog w K mg base 1 1 "knitted" ["rows"] f17 _ m_p_knitted := ⟨PySem.W.mg_of X G a17, k17, ok_p_knitted F_p_knitted z_tuple⟩
  have C_p_joined : Own l.prog w K mg base 4 2 "joined" ["one", "other"] f18 _ m_p_joined := ⟨PySem.W.mg_of X G a18, k18, ok_p_joined F_p_joined C_p_knitted B_p_knitted C_p_without B_p_without z_sorted⟩
  have C_l_two_right : Own l.prog w K mg base 5 2 "_law_two_right" ["_law_left", "_law_right"] f19 _ m_l_two_right := ⟨PySem.W.mg_of X G a19, k19, ok_l_two_right F_l_two_right C_l_closed B_l_closed C_l_pieces B_l_pieces C_p_common B_p_common C_p_is_lot B_p_is_lot C_p_is_within B_p_is_within C_p_joined B_p_joined C_p_size B_p_size C_p_without B_p_without z_repr z_sum⟩
  have X_p_points_in : OwnX l.prog w K mg base 3 2 "points_in" ["lot", "most"] f20 _ m_p_points_in := ⟨PySem.W.mg_of X G a20, k20, ok_p_points_in F_p_points_in C_p_size B_p_size R_TooMany z_range z_tuple⟩
  have C_p_points_in := X_p_points_in.no rfl
  have C_p_picked : Own l.prog w K mg base 1 3 "picked" ["lot", "many", "skip"] f21 _ m_p_picked := ⟨PySem.W.mg_of X G a21, k21, ok_p_picked F_p_picked z_min z_tuple⟩
  have C_l_too_many : Own l.prog w K mg base 4 1 "_law_too_many" ["_law_runs"] f22 _ m_l_too_many := ⟨PySem.W.mg_of X G a22, k22, ok_l_too_many F_l_too_many C_p_points_in X_p_points_in D_p_points_in_1_ R_TooMany⟩
  have C_l_points_right : Own l.prog w K mg base 5 1 "_law_points_right" ["_law_runs"] f23 _ m_l_points_right := ⟨PySem.W.mg_of X G a23, k23, ok_l_points_right F_l_points_right C_l_closed B_l_closed C_l_too_many B_l_too_many C_p_picked C_p_points_in C_p_size B_p_size K_p_points_in_1_most D_p_picked_2_ D_p_points_in_1_ z_len z_list z_min z_set z_sorted⟩
  have C_l_picked_right : Own l.prog w K mg base 5 3 "_law_picked_right" ["_law_runs", "_law_often", "_law_ahead"] f24 _ m_l_picked_right := ⟨PySem.W.mg_of X G a24, k24, ok_l_picked_right F_l_picked_right C_p_common B_p_common C_p_is_lot B_p_is_lot C_p_picked C_p_size B_p_size K_p_picked_2_skip z_max z_min⟩
  exact ok_p_law F_p_law C_l_beside B_l_beside C_l_far_lot B_l_far_lot C_l_pick B_l_pick C_l_picked_right B_l_picked_right C_l_points_right B_l_points_right C_l_pot B_l_pot C_l_two_right B_l_two_right C_p_size B_p_size z_len z_max z_min z_range
end K02
open PySem PySem.W PyProof.Rows
set_option maxHeartbeats 0 in
theorem PySem.Challenge.cw_ridingvotes_k02_great_lots_holds : PySem.Challenge.rw_ridingvotes_k02_great_lots.Holds := by
  w_on; o_law; k_head; (case hw => w_witness2)
  k_fill
  refine Mo.walk_g (l := PySem.Challenge.rw_ridingvotes_k02_great_lots) (n := 63) (k := 6) (x := "_law_script") (m := K02.m_p_law) rfl (by decide) rfl ⟨rfl, by decide, by decide⟩ (fun w h Y => PySem.W.kIn_of Y) ?F (fun ns h => K02.law_true ns h)
  case F =>
    intro w mg fa h KX G hmg
    refine' K02.all_mk KX G hmg ?a0 ?l0 ?c0 ?k0 ?a1 ?l1 ?c1 ?k1 ?a2 ?l2 ?c2 ?k2 ?a3 ?l3 ?c3 ?k3 ?a4 ?l4 ?c4 ?k4 ?a5 ?l5 ?c5 ?k5 ?a6 ?l6 ?c6 ?k6 ?a7 ?l7 ?c7 ?k7 ?a8 ?l8 ?c8 ?k8 ?a9 ?l9 ?c9 ?k9 ?a10 ?l10 ?c10 ?k10 ?a11 ?l11 ?c11 ?k11 ?a12 ?l12 ?c12 ?k12 ?a13 ?l13 ?c13 ?k13 ?a14 ?l14 ?c14 ?k14 ?a15 ?l15 ?c15 ?k15 ?a16 ?l16 ?c16 ?k16 ?a17 ?l17 ?c17 ?k17 ?a18 ?l18 ?c18 ?k18 ?a19 ?l19 ?c19 ?k19 ?a20 ?l20 ?c20 ?k20 ?kq20 ?e20 ?a21 ?l21 ?c21 ?k21 ?kq21 ?e21 ?a22 ?l22 ?c22 ?k22 ?a23 ?l23 ?c23 ?k23 ?a24 ?l24 ?c24 ?k24 ?a25 ?l25 ?c25 ?k25 ?ca_TooMany ?cl_TooMany ?cs_TooMany ?ce_TooMany ?cy_TooMany ?ck_TooMany ?ci_TooMany ?cf_TooMany ?cg_TooMany ?cc_TooMany ?cp_TooMany ?cq_TooMany ?cx_TooMany ?cn_TooMany ?cz_TooMany ?y_all ?y_bool ?y_int ?y_isinstance ?y_len ?y_list ?y_max ?y_min ?y_range ?y_repr ?y_set ?y_sorted ?y_sum ?y_tuple ?y_zip
    (case a0 => k_is); (case l0 => k_is); (case c0 => k_is); (case k0 => k_is); (case a1 => k_is); (case l1 => k_is); (case c1 => k_is); (case k1 => k_is); (case a2 => k_is); (case l2 => k_is); (case c2 => k_is); (case k2 => k_is); (case a3 => k_is); (case l3 => k_is); (case c3 => k_is); (case k3 => k_is); (case a4 => k_is); (case l4 => k_is); (case c4 => k_is); (case k4 => k_is); (case a5 => k_is); (case l5 => k_is); (case c5 => k_is); (case k5 => k_is); (case a6 => k_is); (case l6 => k_is); (case c6 => k_is); (case k6 => k_is); (case a7 => k_is); (case l7 => k_is); (case c7 => k_is); (case k7 => k_is); (case a8 => k_is); (case l8 => k_is); (case c8 => k_is); (case k8 => k_is); (case a9 => k_is); (case l9 => k_is); (case c9 => k_is); (case k9 => k_is); (case a10 => k_is); (case l10 => k_is); (case c10 => k_is); (case k10 => k_is); (case a11 => k_is); (case l11 => k_is); (case c11 => k_is); (case k11 => k_is); (case a12 => k_is); (case l12 => k_is); (case c12 => k_is); (case k12 => k_is); (case a13 => k_is); (case l13 => k_is); (case c13 => k_is); (case k13 => k_is); (case a14 => k_is); (case l14 => k_is); (case c14 => k_is); (case k14 => k_is); (case a15 => k_is); (case l15 => k_is); (case c15 => k_is); (case k15 => k_is); (case a16 => k_is); (case l16 => k_is); (case c16 => k_is); (case k16 => k_is); (case a17 => k_is); (case l17 => k_is); (case c17 => k_is); (case k17 => k_is); (case a18 => k_is); (case l18 => k_is); (case c18 => k_is); (case k18 => k_is); (case a19 => k_is); (case l19 => k_is); (case c19 => k_is); (case k19 => k_is); (case a20 => k_is); (case l20 => k_is); (case c20 => k_is); (case k20 => k_is); (case kq20 => rfl); (case e20 => k_is); (case a21 => k_is); (case l21 => k_is); (case c21 => k_is); (case k21 => k_is); (case kq21 => rfl); (case e21 => k_is); (case a22 => k_is); (case l22 => k_is); (case c22 => k_is); (case k22 => k_is); (case a23 => k_is); (case l23 => k_is); (case c23 => k_is); (case k23 => k_is); (case a24 => k_is); (case l24 => k_is); (case c24 => k_is); (case k24 => k_is); (case a25 => k_is); (case l25 => k_is); (case c25 => k_is); (case k25 => k_is); (case ca_TooMany => k_is); (case cl_TooMany => k_is); (case cs_TooMany => k_is); (case ce_TooMany => k_is); (case cy_TooMany => k_is); (case ck_TooMany => k_is); (case ci_TooMany => k_is); (case cf_TooMany => k_is); (case cg_TooMany => k_is); (case cc_TooMany => k_is); (case cp_TooMany => k_is); (case cq_TooMany => k_is); (case cx_TooMany => k_is); (case cn_TooMany => k_is); (case cz_TooMany => first | rfl | k_is); (case y_all => k_is); (case y_bool => k_is); (case y_int => k_is); (case y_isinstance => k_is); (case y_len => k_is); (case y_list => k_is); (case y_max => k_is); (case y_min => k_is); (case y_range => k_is); (case y_repr => k_is); (case y_set => k_is); (case y_sorted => k_is); (case y_sum => k_is); (case y_tuple => k_is); (case y_zip => k_is)
