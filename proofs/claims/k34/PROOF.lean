import PyProof.Rows.All
import Wide.All
import OpenK.AllK
import Wide.FinOn
import HandS.ForMost
import HandS.Words
import HandS.Wide
import HandS.Style
import HandS.Deep
import HandS.ExcInit
import HandS.ExcField
import HandS.ExcIs
import KE.KeyNested
import KE.KDictKeyed
import HandS.SetKeys
import HandS.More
import HandS.RaiseMore
import KE.DataMinMax
import KE.SortData
import PyProof.ReprRoads
import PyProof.FitsInt
import HandS.Iter
import HandS.TupAny
import KE.DataCmp
import HandS.IsInst
import HandS.Zip
import HandS.SortKw
import HandS.Flow
import KE.KTupSum
import HandS.TupMul
import HandS.Defaults
import HandS.DictComp
import HandS.Star
import KE.KRevSl
import HandS.ListItems
import HandS.Exc
import HandS.ExcOwn
import HandS.Set
import HandS.SetFor
import HandS.Strs
import HandS.ExcValue
import KE.KExcIs
import KE.KIsAll
import KE.KTryMore
import HandS.Conv
import PyProof.Rows.IntBool
import HandS.CallLocal
import KE.KExcInit
import PySem.Challenge.RW_ridingvotes_k34_refusals_each_alone
set_option Elab.async false
set_option linter.all false
set_option maxRecDepth 100000
set_option maxHeartbeats 1000000
/-! Mo: dicts whose keys are tuples of any depth, without texts: as an object of one's own. -/
namespace Mo
open PySem PySem.Spec PyProof.Rows L2
mutual
def kh : NestedKey → Int
  | .none => reduceHash 0xFCA86420
  | .num i => hashInt i
  | .text _ => 0
  | .tup ks => reduceHash (Builtin.Tuple.tupleHashOf (khs ks))
def khs : List NestedKey → List Int
  | [] => []
  | k :: ks => kh k :: khs ks
end
mutual
def calm : NestedKey → Bool
  | .none => true
  | .num _ => true
  | .text _ => false
  | .tup ks => calms ks
def calms : List NestedKey → Bool
  | [] => true
  | k :: ks => calm k && calms ks
end
mutual
theorem kh_eq (w : World) : ∀ k : NestedKey, calm k = true → k.hash w = kh k
  | .none, _ => by rw [NestedKey.hash, kh]
  | .num i, _ => by rw [NestedKey.hash, kh]
  | .text _, h => by rw [calm] at h; cases h
  | .tup ks, h => by rw [calm] at h; rw [NestedKey.hash, kh, khs_eq w ks h]
theorem khs_eq (w : World) : ∀ ks : List NestedKey, calms ks = true → NestedKey.hashes w ks = khs ks
  | [], _ => by rw [NestedKey.hashes, khs]
  | k :: ks, h => by
    rw [calms, Bool.and_eq_true] at h
    rw [NestedKey.hashes, khs, kh_eq w k h.1, khs_eq w ks h.2]
end
abbrev NX := NestedKey × Addr × V
def NdEnt (x : NX) (e : DictEntry) : Prop := e.hash = kh x.1 ∧ e.key = .ref x.2.1 ∧ RelV x.2.2 e.val
/-- at a stands a dict of these keys, key tuples and values -/
def NdAt (a : Addr) (xs : List NX) (h : Heap) : Prop :=
  (a == sysModules) = false ∧ xs.length ≤ sizeLine ∧ (xs.map (·.1)).Nodup ∧ (∀ x ∈ xs, calm x.1 = true ∧ x.1.depth ≤ 8) ∧
  ∃ o es ep, h.get? a = some o ∧ o.ExactDict ∧ o.data = .dict es ep ∧ Paired NdEnt xs es.toList
def ndO (a : Addr) (xs : List NX) : HO := .ext (NdAt a xs)
def kvl (xs : List NX) : List (NestedKey × V) := xs.map fun x => (x.1, x.2.2)
def kal (xs : List NX) : List (NestedKey × V) := xs.map fun x => (x.1, V.ref x.2.1)
def putX (xs : List NX) (k : NestedKey) (b : Addr) (v : V) : List NX :=
  if (xs.any fun x => decide (x.1 = k)) = true then xs.map (fun x => if x.1 = k then (x.1, x.2.1, v) else x) else xs ++ [(k, b, v)]
section
variable {P : Program} {w : World} {H : Hp} {h h' : Heap} {a : Addr} {xs : List NX}
theorem nd_ok (x : NdAt a xs h) : ObjOk P w H h a (ndO a xs) := by
  obtain ⟨z1, z2, z3, z4, o, es, ep, h1, h2⟩ := x
  exact ⟨⟨z1, z2, z3, z4, o, es, ep, h1, h2⟩, ⟨o, h1⟩, fun q1 q2 p k => by
    obtain ⟨z1, z2, z3, z4, o, es, ep, h1, h2⟩ := p
    exact ⟨z1, z2, z3, z4, o, es, ep, k o h1, h2⟩⟩
abbrev NP : List NX → List (NestedKey × Addr × Value) → Prop := Paired fun x y => x.1 = y.1 ∧ x.2.1 = y.2.1 ∧ RelV x.2.2 y.2.2
theorem NP.keys {xs : List NX} {ys : List (NestedKey × Addr × Value)} (r : NP xs ys) : xs.map (·.1) = ys.map (·.1) := by
  induction r with
  | nil => rfl
  | cons h _ ih => rw [List.map_cons, List.map_cons, ih, h.1]
theorem nd_dict (x : NdAt a xs h) (hk : ∀ x ∈ xs, NestedIs h x.1 (.ref x.2.1)) : ∃ ys, NP xs ys ∧ h.DictOfH (nestedKind P w) a ys := by
  obtain ⟨_, _, hn, hc, o, es, ep, h1, h2, h3, r⟩ := x
  have go : ∀ {xs : List NX} {l : List DictEntry}, Paired NdEnt xs l → (∀ x ∈ xs, calm x.1 = true ∧ x.1.depth ≤ 8) → (∀ x ∈ xs, NestedIs h x.1 (.ref x.2.1)) →
      ∃ ys, NP xs ys ∧ l = ys.map (entryOfKey (nestedKind P w)) ∧ ∀ y ∈ ys, (nestedKind P w).is h y.1 y.2.1 := by
    intro xs l r
    induction r with
    | nil => intro _ _; exact ⟨[], .nil, rfl, fun _ h => nomatch h⟩
    | @cons x e xs l q t ih =>
      intro hc hk
      obtain ⟨ys, i1, i2, i3⟩ := ih (fun x hx => hc x (List.mem_cons_of_mem _ hx)) fun x hx => hk x (List.mem_cons_of_mem _ hx)
      obtain ⟨q1, q2, q3⟩ := q
      have c1 := hc x List.mem_cons_self
      refine ⟨(x.1, x.2.1, e.val) :: ys, .cons ⟨rfl, rfl, q3⟩ i1, ?_, fun y hy => ?_⟩
      · rw [List.map_cons, ← i2]
        congr 1
        show e = ⟨x.1.hash w, .ref x.2.1, e.val⟩
        rw [kh_eq w _ c1.1, ← q1, ← q2]
      · rcases List.mem_cons.mp hy with e | hy
        · subst e; exact ⟨hk x List.mem_cons_self, c1.2⟩
        · exact i3 y hy
  obtain ⟨ys, i1, i2, i3⟩ := go r hc hk
  exact ⟨ys, i1, o, es, ep, h1, h2, h3, i2, i3, by rw [← i1.keys]; exact hn⟩
theorem nd_of {ys : List (NestedKey × Addr × Value)} (r : NP xs ys) (dd : h.DictOfH (nestedKind P w) a ys) (hd : (a == sysModules) = false) (hz : xs.length ≤ sizeLine) (hc : ∀ x ∈ xs, calm x.1 = true) : NdAt a xs h := by
  obtain ⟨o, es, ep, h1, h2, h3, h4, h5, h6⟩ := dd
  have go : ∀ {xs : List NX} {ys : List (NestedKey × Addr × Value)}, NP xs ys → (∀ x ∈ xs, calm x.1 = true) → (∀ y ∈ ys, (nestedKind P w).is h y.1 y.2.1) →
      Paired NdEnt xs (ys.map (entryOfKey (nestedKind P w))) ∧ ∀ x ∈ xs, calm x.1 = true ∧ x.1.depth ≤ 8 := by
    intro xs ys r
    induction r with
    | nil => intro _ _; exact ⟨.nil, fun _ h => nomatch h⟩
    | @cons x y xs ys q t ih =>
      intro hc h5
      obtain ⟨i1, i2⟩ := ih (fun x hx => hc x (List.mem_cons_of_mem _ hx)) fun y hy => h5 y (List.mem_cons_of_mem _ hy)
      obtain ⟨q1, q2, q3⟩ := q
      have c1 := hc x List.mem_cons_self
      refine ⟨.cons ⟨?_, ?_, q3⟩ i1, fun z hz => ?_⟩
      · show y.1.hash w = kh x.1
        rw [← q1, kh_eq w _ c1]
      · show Value.ref y.2.1 = .ref x.2.1
        rw [q2]
      · rcases List.mem_cons.mp hz with e | hz
        · subst e
          exact ⟨c1, by rw [q1]; exact (h5 y List.mem_cons_self).2⟩
        · exact i2 z hz
  obtain ⟨g1, g2⟩ := go r hc h5
  exact ⟨hd, hz, by rw [r.keys]; exact h6, g2, o, es, ep, h1, h2, h3, by rw [h4]; exact g1⟩
theorem NP.at {xs : List NX} {ys : List (NestedKey × Addr × Value)} (r : NP xs ys) (k : NestedKey) : RelO (valV (kvl xs) k) ((atKey ys k).map (·.2)) := by
  induction r with
  | nil => exact True.intro
  | @cons x y xs ys q t ih =>
    obtain ⟨q1, q2, q3⟩ := q
    by_cases e : x.1 = k
    · have e' : y.1 = k := q1.symm.trans e
      have b : atKey (y :: ys) k = some y.2 := by simp [atKey, List.find?_cons, e']
      rw [b, show kvl (x :: xs) = (x.1, x.2.2) :: kvl xs from rfl, valV_pos (p := (x.1, x.2.2)) e]
      exact q3
    · have e' : ¬ y.1 = k := fun z => e (q1.trans z)
      have b : atKey (y :: ys) k = atKey ys k := by simp [atKey, List.find?_cons, e']
      rw [b, show kvl (x :: xs) = (x.1, x.2.2) :: kvl xs from rfl, valV_neg (p := (x.1, x.2.2)) e]
      exact ih
theorem NP.any {xs : List NX} {ys : List (NestedKey × Addr × Value)} (r : NP xs ys) (k : NestedKey) : (xs.any fun x => decide (x.1 = k)) = (atKey ys k).isSome := by
  have e := (r.at k).isSome_eq
  rw [Option.isSome_map] at e
  rw [← e, ← valV_any]
  unfold kvl
  rw [List.any_map]
  rfl
theorem NP.put {xs : List NX} {ys : List (NestedKey × Addr × Value)} (r : NP xs ys) (k : NestedKey) (b : Addr) {v : V} {u : Value} (rv : RelV v u) : NP (putX xs k b v) (storedH ys k b u) := by
  unfold putX storedH
  rw [r.any k]
  split
  · induction r with
    | nil => exact .nil
    | @cons x y xs ys q t ih =>
      obtain ⟨q1, q2, q3⟩ := q
      rw [List.map_cons, List.map_cons]
      refine .cons ?_ ?_
      · unfold putAt
        by_cases e : x.1 = k
        · rw [if_pos e, if_pos (q1.symm.trans e)]; exact ⟨q1, q2, rv⟩
        · rw [if_neg e, if_neg (fun z => e (q1.trans z))]; exact ⟨q1, q2, q3⟩
      · have go : ∀ {xs : List NX} {ys : List (NestedKey × Addr × Value)}, NP xs ys → NP (xs.map fun x => if x.1 = k then (x.1, x.2.1, v) else x) (ys.map (putAt k u)) := by
          intro xs ys r
          induction r with
          | nil => exact .nil
          | @cons x y xs ys q t ih =>
            obtain ⟨q1, q2, q3⟩ := q
            rw [List.map_cons, List.map_cons]
            refine .cons ?_ ih
            unfold putAt
            by_cases e : x.1 = k
            · rw [if_pos e, if_pos (q1.symm.trans e)]; exact ⟨q1, q2, rv⟩
            · rw [if_neg e, if_neg (fun z => e (q1.trans z))]; exact ⟨q1, q2, q3⟩
        exact go t
  · exact Paired.snoc r ⟨rfl, rfl, rv⟩
theorem putX_len (xs : List NX) (k : NestedKey) (b : Addr) (v : V) : (putX xs k b v).length ≤ xs.length + 1 := by
  unfold putX
  split
  · rw [List.length_map]; omega
  · rw [List.length_append]; simp
theorem putX_mem {xs : List NX} {k : NestedKey} {b : Addr} {v : V} {x : NX} (h : x ∈ putX xs k b v) : (∃ y ∈ xs, x.1 = y.1 ∧ x.2.1 = y.2.1) ∨ (x.1 = k ∧ x.2.1 = b) := by
  unfold putX at h
  split at h
  · obtain ⟨y, hy, e⟩ := List.mem_map.mp h
    refine .inl ⟨y, hy, ?_⟩
    subst e
    split <;> exact ⟨rfl, rfl⟩
  · rcases List.mem_append.mp h with h | h
    · exact .inl ⟨x, h, rfl, rfl⟩
    · rw [List.mem_singleton.mp h]
      exact .inr ⟨rfl, rfl⟩
end
section
variable {X : Cx} {pins : List (Addr × Obj)} {σ : L2.St} {H : Hp} {s : Shared} {a b : Addr} {k : NestedKey} {v d : V} {u r : Value} {A : Around} {E : Value → Shared → Prop} {xs : List NX}
/-- the keys of the entries stand -/
def KIs (h : Heap) (xs : List NX) : Prop := ∀ x ∈ xs, NestedIs h x.1 (.ref x.2.1)
theorem nd_at (I : Inv X pins σ H s) (e : H a = some (ndO a xs)) : NdAt a xs s.heap := (I.hok a _ e).1
theorem nd_typeIs (x : NdAt a xs s.heap) : s.TypeIs (.ref a) "dict" := let ⟨_, _, _, _, o, _, _, h1, h2, _⟩ := x; ⟨o, h1, h2.1⟩
theorem nd_noDict (x : NdAt a xs s.heap) : ∀ b, Value.ref a = .ref b → ∃ ob, s.heap.get? b = some ob ∧ ob.dict = none := fun b q => by
  cases q
  obtain ⟨_, _, _, _, o, _, _, h1, h2, _⟩ := x
  exact ⟨o, h1, h2.2.1⟩
theorem nroom (hu : A.units + 64 < cLine) : (nestedKind X.prog X.w).room A.in1 := by
  show A.in1.units + 8 < cLine
  have : A.in1.units ≤ A.units + 2 := by show _ ≤ _; simp only [Around.in1]; omega
  omega
theorem n_getItem {Q : Value → Shared → Prop} (hu : A.units + 64 < cLine) (I : Inv X pins σ H s) (e : H a = some (ndO a xs)) (hk : KIs s.heap xs) (ky : NestedIs s.heap k (.ref b)) (kd : k.depth ≤ 8) (l : valV (kvl xs) k = some v)
    (h : ∀ w' s', Inv X pins σ H s' → RelV v w' → Q w' s') : wpAny (model X.prog X.w) A (getItem (.ref a) (.ref b)) Q E s := by
  obtain ⟨ys, rel, dd⟩ := nd_dict (P := X.prog) (w := X.w) (nd_at I e) hk
  obtain ⟨w', hw, rw'⟩ := RelO.some_of (v := v) (o := (atKey ys k).map (·.2)) (by rw [← l]; exact rel.at k)
  obtain ⟨p, hp, hp2⟩ := Option.map_eq_some_iff.mp hw
  refine wpAny_getItem_heap (nroom (X := X) hu) ⟨ky, kd⟩ dd hp ?_
  rw [hp2]
  exact h w' _ (I.tok _) rw'
theorem n_in {Q : Value → Shared → Prop} (hu : A.units + 64 < cLine) (I : Inv X pins σ H s) (e : H a = some (ndO a xs)) (hk : KIs s.heap xs) (ky : NestedIs s.heap k (.ref b)) (kd : k.depth ≤ 8)
    (h : ∀ s', Inv X pins σ H s' → Q (.bool (valV (kvl xs) k).isSome) s') : wpAny (model X.prog X.w) A (compareOp .In (.ref b) (.ref a)) Q E s := by
  have n := nd_at I e
  obtain ⟨ys, rel, dd⟩ := nd_dict (P := X.prog) (w := X.w) n hk
  refine wpAny_in_heap (nroom (X := X) hu) ⟨ky, kd⟩ n.1 dd ?_
  have q := (rel.at k).isSome_eq
  rw [Option.isSome_map] at q
  rw [← q]
  exact h _ (I.tok _)
theorem n_notIn {Q : Value → Shared → Prop} (hu : A.units + 64 < cLine) (I : Inv X pins σ H s) (e : H a = some (ndO a xs)) (hk : KIs s.heap xs) (ky : NestedIs s.heap k (.ref b)) (kd : k.depth ≤ 8)
    (h : ∀ s', Inv X pins σ H s' → Q (.bool (!(valV (kvl xs) k).isSome)) s') : wpAny (model X.prog X.w) A (compareOp .NotIn (.ref b) (.ref a)) Q E s := by
  have n := nd_at I e
  obtain ⟨ys, rel, dd⟩ := nd_dict (P := X.prog) (w := X.w) n hk
  refine wpAny_notIn_heap (nroom (X := X) hu) ⟨ky, kd⟩ n.1 dd ?_
  have q := (rel.at k).isSome_eq
  rw [Option.isSome_map] at q
  rw [← q]
  exact h _ (I.tok _)
theorem n_get {Q : Value → Shared → Prop} (hu : A.units + 64 < cLine) (I : Inv X pins σ H s) (e : H a = some (ndO a xs)) (hk : KIs s.heap xs) (ky : NestedIs s.heap k (.ref b)) (kd : k.depth ≤ 8)
    (h : ∀ w' s', Inv X pins σ H s' → RelV ((valV (kvl xs) k).getD .non) w' → Q w' s') : wpAny (model X.prog X.w) A (call (.builtin "dict.get") [.ref a, .ref b]) Q E s := by
  have n := nd_at I e
  obtain ⟨ys, rel, dd⟩ := nd_dict (P := X.prog) (w := X.w) n hk
  exact call_meetsIn PySem.F.slot_dict_get dd.typeIs PySem.F.entry_dict_get (PySem.F.args_dict_get_2 _ _) (meetsH_dict_get (nestedKind X.prog X.w) a b n.1) ⟨nroom (X := X) hu, k, ys, ⟨ky, kd⟩, dd, h _ _ (I.tok _) ((rel.at k).getD rfl)⟩
theorem n_get2 {Q : Value → Shared → Prop} (hu : A.units + 64 < cLine) (I : Inv X pins σ H s) (e : H a = some (ndO a xs)) (hk : KIs s.heap xs) (ky : NestedIs s.heap k (.ref b)) (kd : k.depth ≤ 8) (rd : RelV d r)
    (h : ∀ w' s', Inv X pins σ H s' → RelV ((valV (kvl xs) k).getD d) w' → Q w' s') : wpAny (model X.prog X.w) A (call (.builtin "dict.get") [.ref a, .ref b, r]) Q E s := by
  have n := nd_at I e
  obtain ⟨ys, rel, dd⟩ := nd_dict (P := X.prog) (w := X.w) n hk
  exact call_meetsIn PySem.F.slot_dict_get dd.typeIs PySem.F.entry_dict_get (PySem.F.args_dict_get_3 _ _ _) (meetsH_dict_get_default (nestedKind X.prog X.w) a b n.1 r) ⟨nroom (X := X) hu, k, ys, ⟨ky, kd⟩, dd, h _ _ (I.tok _) ((rel.at k).getD rd)⟩
theorem nd_put {h' : Heap} {ys : List (NestedKey × Addr × Value)} (n : NdAt a xs s.heap) (rel : NP xs ys) (ck : calm k = true) (hl : xs.length < sizeLine) (rv : RelV v u) (dd' : h'.DictOfH (nestedKind X.prog X.w) a (storedH ys k b u)) : NdAt a (putX xs k b v) h' := by
  refine nd_of (P := X.prog) (w := X.w) (rel.put k b rv) dd' n.1 (by have := putX_len xs k b v; omega) fun x hx => ?_
  rcases putX_mem hx with ⟨y, hy, e, _⟩ | ⟨e, _⟩
  · rw [e]; exact (n.2.2.2.1 y hy).1
  · rw [e]; exact ck
theorem n_setItem {Q : Unit → Shared → Prop} (hu : A.units + 64 < cLine) (I : Inv X pins σ H s) (e : H a = some (ndO a xs)) (hk : KIs s.heap xs) (ky : NestedIs s.heap k (.ref b)) (kd : k.depth ≤ 8) (ck : calm k = true) (hl : xs.length < sizeLine) (rv : RelV v u)
    (h : ∀ s', Inv X pins σ (upd H a (ndO a (putX xs k b v))) s' → Q () s') : wpAny (model X.prog X.w) A (setItem (.ref a) (.ref b) u) Q E s := by
  have n := nd_at I e
  obtain ⟨ys, rel, dd⟩ := nd_dict (P := X.prog) (w := X.w) n hk
  have hz : ys.length ≤ sizeLine := by rw [← Paired.length rel]; omega
  refine wpAny_setItem_heap (hsz := hz) (nroom (X := X) hu) ⟨ky, kd⟩ dd fun h' dd' hs => h _ ?_
  have n' := nd_put n rel ck hl rv dd'
  obtain ⟨_, _, _, _, q, es, ep, hq, _⟩ := id n'
  exact d_write I (by rw [e]; exact True.intro) hs ⟨q, hq⟩ (nd_ok n')
theorem n_setd {Q : Value → Shared → Prop} (hu : A.units + 64 < cLine) (I : Inv X pins σ H s) (e : H a = some (ndO a xs)) (hk : KIs s.heap xs) (ky : NestedIs s.heap k (.ref b)) (kd : k.depth ≤ 8) (ck : calm k = true) (hl : xs.length < sizeLine) (rv : RelV v u)
    (h1 : ∀ v', valV (kvl xs) k = some v' → ∀ (w' : Value) (s' : Shared), Inv X pins σ H s' → RelV v' w' → Q w' s')
    (h2 : valV (kvl xs) k = none → ∀ (w' : Value) (s' : Shared), Inv X pins σ (upd H a (ndO a (putX xs k b v))) s' → RelV v w' → Q w' s') : wpAny (model X.prog X.w) A (call (.builtin "dict.setdefault") [.ref a, .ref b, u]) Q E s := by
  have n := nd_at I e
  obtain ⟨ys, rel, dd⟩ := nd_dict (P := X.prog) (w := X.w) n hk
  have hz : ys.length ≤ sizeLine := by rw [← Paired.length rel]; omega
  have q := rel.at k
  refine call_setdefault_heap (hsz := hz) (nroom (X := X) hu) ⟨ky, kd⟩ n.1 dd (fun p hp => ?_) fun hn h' dd' hs => ?_
  · rw [hp] at q
    cases q0 : valV (kvl xs) k with
    | none => rw [q0] at q; exact (show False from q).elim
    | some v0 => rw [q0] at q; exact h1 v0 q0 _ _ (I.tok _) q
  · rw [hn] at q
    cases q0 : valV (kvl xs) k with
    | some v0 => rw [q0] at q; exact (show False from q).elim
    | none =>
      have n' := nd_put n rel ck hl rv dd'
      obtain ⟨_, _, _, _, q, es, ep, hq, _⟩ := id n'
      exact h2 q0 _ _ (d_write I (by rw [e]; exact True.intro) hs ⟨q, hq⟩ (nd_ok n')) rv
theorem nd_empty (h : Heap) (hb : sysModules < h.objs.size) : NdAt h.objs.size [] (h.push { cls := .type "dict", data := .dict #[] }) :=
  ⟨beq_eq_false_iff_ne.mpr (Ne.symm (Nat.ne_of_lt hb)), Nat.zero_le _, List.nodup_nil, (fun _ h => nomatch h), _, #[], 0, Heap.get?_push_size _ rfl, ⟨rfl, rfl, rfl⟩, rfl, .nil⟩
end
/-! ### the rows -/
/-- where the things stand, the keys are read so -/
def KAll (X : Cx) (H : Hp) (xs : List NX) (k : NestedKey) (b : Addr) : Prop := ∀ (pins : List (Addr × Obj)) (σ : L2.St) (s : Shared), Inv X pins σ H s → KIs s.heap xs ∧ NestedIs s.heap k (.ref b)
def tNNew : TE := fun _ H Q => ∀ p, H p = none → Q (.ref p) (upd H p (ndO p []))
def tNGet (X : Cx) (td ty : TE) : TE := fun σ H Q => td σ H fun x H1 => ty σ H1 fun y H2 => ∃ a b xs k v, x = .ref a ∧ y = .ref b ∧ H2 a = some (ndO a xs) ∧ KAll X H2 xs k b ∧ k.depth ≤ 8 ∧ valV (kvl xs) k = some v ∧ Q v H2
def tNIn (X : Cx) (neg : Bool) (ty td : TE) : TE := fun σ H Q => ty σ H fun y H1 => td σ H1 fun x H2 => ∃ a b xs k, x = .ref a ∧ y = .ref b ∧ H2 a = some (ndO a xs) ∧ KAll X H2 xs k b ∧ k.depth ≤ 8 ∧ Q (.bl ((valV (kvl xs) k).isSome != neg)) H2
def sNPut (X : Cx) (td ty tv : TE) : TS := fun D σ H => tv σ H fun v H1 => td σ H1 fun x H2 => ty σ H2 fun y H3 => ∃ a b xs k, x = .ref a ∧ y = .ref b ∧ H3 a = some (ndO a xs) ∧ KAll X H3 xs k b ∧ k.depth ≤ 8 ∧ calm k = true ∧ xs.length < sizeLine ∧ D.nx σ (upd H3 a (ndO a (putX xs k b v)))
def IsN (H : Hp) (a : Addr) : Prop := ∃ xs, H a = some (ndO a xs)
def tNGet1 (X : Cx) (td ty : TE) : TE := fun σ H Q => td σ H fun x H1 => ∃ a, x = .ref a ∧ IsN H1 a ∧ ty σ H1 fun y H2 => ∃ b xs k, y = .ref b ∧ H2 a = some (ndO a xs) ∧ KAll X H2 xs k b ∧ k.depth ≤ 8 ∧ Q ((valV (kvl xs) k).getD .non) H2
def tNGet2 (X : Cx) (td ty tx : TE) : TE := fun σ H Q => td σ H fun x H1 => ∃ a, x = .ref a ∧ IsN H1 a ∧ ty σ H1 fun y H2 => tx σ H2 fun z H3 => ∃ b xs k, y = .ref b ∧ H3 a = some (ndO a xs) ∧ KAll X H3 xs k b ∧ k.depth ≤ 8 ∧ Q ((valV (kvl xs) k).getD z) H3
def tNSetd (X : Cx) (td ty tx : TE) : TE := fun σ H Q => td σ H fun x H1 => ∃ a, x = .ref a ∧ IsN H1 a ∧ ty σ H1 fun y H2 => tx σ H2 fun z H3 => ∃ b xs k, y = .ref b ∧ H3 a = some (ndO a xs) ∧ KAll X H3 xs k b ∧ k.depth ≤ 8 ∧ calm k = true ∧ xs.length < sizeLine ∧
  (∀ v, valV (kvl xs) k = some v → Q v H3) ∧ (valV (kvl xs) k = none → Q z (upd H3 a (ndO a (putX xs k b z))))
section
variable {X : Cx} {o i e f value : Expr} {pos pos' apos cpos : Pos} {td ty tv tx : TE}
theorem pe_nnew : PE X (.Dict [] [] pos) tNNew := ⟨fun pins s σ H Q I h =>
  wpAny_Dict_empty ⟨.ref s.heap.objs.size, _, I.laid (a := s.heap.objs.size) (o := ndO s.heap.objs.size []) (t' := s.toks) (fun _ _ q => Heap.get?_push_of_some _ q) (Nat.le_refl _) (nd_ok (nd_empty s.heap I.big)), rfl, h _ (I.hok.fresh (Nat.le_refl _))⟩⟩
theorem pe_nget (hu : X.A.units + 64 < cLine) (ho : PE X o td) (hi : PE X i ty) (hs : NoSl i) : PE X (.Subscript o i pos) (tNGet X td ty) := by
  refine ⟨fun pins s σ H Q I h => ?_⟩
  refine subD_of PySem.F.slot_dict_getitem.lookup hs (thn (ho.run pins s σ H _ I h) fun u s1 ⟨x, H1, I1, rx, q1⟩ => thn (hi.run pins s1 σ H1 _ I1 q1) fun iv s2 ⟨y, H2, I2, ry, a, b, xs, k, v, ex, ey, hH, hk, kd, l, q2⟩ => ?_)
  subst ex ey
  obtain rfl : u = Value.ref a := rx
  obtain rfl : iv = Value.ref b := ry
  obtain ⟨k1, k2⟩ := hk _ _ _ I2
  exact ⟨nd_typeIs (nd_at I2 hH), n_getItem hu I2 hH k1 k2 kd l fun w' s3 I3 rw' => ⟨v, H2, I3, rw', q2⟩⟩
theorem pc_nin (hu : X.A.units + 64 < cLine) (hi : PE X i ty) (ho : PE X o td) : PC X .In i o (tNIn X false ty td) := by
  refine ⟨fun pins s σ H Q I h => ?_⟩
  refine thn (hi.run pins s σ H _ I h) fun iv s1 ⟨y, H1, I1, ry, q1⟩ => thn (ho.run pins s1 σ H1 _ I1 q1) fun u s2 ⟨x, H2, I2, rx, a, b, xs, k, ex, ey, hH, hk, kd, q2⟩ => ?_
  subst ex ey
  obtain rfl : u = Value.ref a := rx
  obtain rfl : iv = Value.ref b := ry
  obtain ⟨k1, k2⟩ := hk _ _ _ I2
  exact n_in hu I2 hH k1 k2 kd fun s3 I3 => ⟨.bl (valV (kvl xs) k).isSome, H2, I3, rfl, by simpa using q2⟩
theorem pc_nnotin (hu : X.A.units + 64 < cLine) (hi : PE X i ty) (ho : PE X o td) : PC X .NotIn i o (tNIn X true ty td) := by
  refine ⟨fun pins s σ H Q I h => ?_⟩
  refine thn (hi.run pins s σ H _ I h) fun iv s1 ⟨y, H1, I1, ry, q1⟩ => thn (ho.run pins s1 σ H1 _ I1 q1) fun u s2 ⟨x, H2, I2, rx, a, b, xs, k, ex, ey, hH, hk, kd, q2⟩ => ?_
  subst ex ey
  obtain rfl : u = Value.ref a := rx
  obtain rfl : iv = Value.ref b := ry
  obtain ⟨k1, k2⟩ := hk _ _ _ I2
  exact n_notIn hu I2 hH k1 k2 kd fun s3 I3 => ⟨.bl (!(valV (kvl xs) k).isSome), H2, I3, rfl, by simpa using q2⟩
theorem ps_nput (hu : X.A.units + 64 < cLine) (ho : PE X o td) (hi : PE X i ty) (hv : PE X value tv) (hs : swapsWith value (some (.Subscript o i pos')) pos.line X.env = pure false) :
    PS X (.Assign [.Subscript o i pos'] value pos) (sNPut X td ty tv) := by
  refine ⟨fun pins s σ H D I h => ?_⟩
  refine wpAny_Assign_Subscript (thn (hv.run pins s σ H _ I h) fun r s1 ⟨v, H1, I1, rv, q1⟩ => thn (ho.run pins s1 σ H1 _ I1 q1) fun u s2 ⟨x, H2, I2, rx, q2⟩ => thn (hi.run pins s2 σ H2 _ I2 q2) fun iv s3 ⟨y, H3, I3, ry, a, b, xs, k, ex, ey, hH, hk, kd, ck, hl, q3⟩ => ?_) hs
  subst ex ey
  obtain rfl : u = Value.ref a := rx
  obtain rfl : iv = Value.ref b := ry
  obtain ⟨k1, k2⟩ := hk _ _ _ I3
  exact n_setItem hu I3 hH k1 k2 kd ck hl rv fun s4 I4 => ⟨σ, _, I4, q3⟩
theorem pe_nget1 (hu : X.A.units + 64 < cLine) (ho : PE X o td) (he : PE X e ty) (m : M1 X o "get" apos e cpos) : PE X (.Call (.Attribute o "get" apos) [e] [] cpos) (tNGet1 X td ty) := by
  refine ⟨fun pins s σ H Q I h => ?_⟩
  refine wpAny_Call_method m.base m.few m.line PySem.F.plainAttrs_dict PySem.F.slot_dict_get PySem.F.type_dict_get (thn (ho.run pins s σ H _ I h) fun u s1 ⟨x, H1, I1, rx, a, ex, ⟨xs0, d⟩, q1⟩ => ?_)
  subst ex
  obtain rfl : u = Value.ref a := rx
  refine ⟨nd_typeIs (nd_at I1 d), nd_noDict (nd_at I1 d), ?_⟩
  rw [m.trees]
  refine Calls.callWith_builtin rfl (Calls.evalArgs_plain (Calls.spliced_cons (thn (he.run pins s1 σ H1 _ I1 q1) fun iv s2 ⟨y, H2, I2, ry, b, xs, k, ey, hH, hk, kd, q2⟩ => Calls.spliced_nil ?_)))
  subst ey
  obtain rfl : iv = Value.ref b := ry
  obtain ⟨k1, k2⟩ := hk _ _ _ I2
  exact n_get hu I2 hH k1 k2 kd fun w' s3 I3 rw' => ⟨_, H2, I3, rw', q2⟩
theorem pe_nget2 (hu : X.A.units + 64 < cLine) (ho : PE X o td) (he : PE X e ty) (hf : PE X f tx) (m : M2 X o "get" apos e f cpos) : PE X (.Call (.Attribute o "get" apos) [e, f] [] cpos) (tNGet2 X td ty tx) := by
  refine ⟨fun pins s σ H Q I h => ?_⟩
  refine wpAny_Call_method m.base m.few m.line PySem.F.plainAttrs_dict PySem.F.slot_dict_get PySem.F.type_dict_get (thn (ho.run pins s σ H _ I h) fun u s1 ⟨x, H1, I1, rx, a, ex, ⟨xs0, d⟩, q1⟩ => ?_)
  subst ex
  obtain rfl : u = Value.ref a := rx
  refine ⟨nd_typeIs (nd_at I1 d), nd_noDict (nd_at I1 d), ?_⟩
  rw [m.trees]
  refine Calls.callWith_builtin rfl (Calls.evalArgs_plain (Calls.spliced_cons (thn (he.run pins s1 σ H1 _ I1 q1) fun iv s2 ⟨y, H2, I2, ry, q2⟩ =>
    Calls.spliced_cons (thn (hf.run pins s2 σ H2 _ I2 q2) fun fv s3 ⟨z, H3, I3, rz, b, xs, k, ey, hH, hk, kd, q3⟩ => Calls.spliced_nil ?_))))
  subst ey
  obtain rfl : iv = Value.ref b := ry
  obtain ⟨k1, k2⟩ := hk _ _ _ I3
  exact n_get2 hu I3 hH k1 k2 kd rz fun w' s4 I4 rw' => ⟨_, H3, I4, rw', q3⟩
theorem pe_nsetd (hu : X.A.units + 64 < cLine) (ho : PE X o td) (he : PE X e ty) (hf : PE X f tx) (m : M2 X o "setdefault" apos e f cpos) : PE X (.Call (.Attribute o "setdefault" apos) [e, f] [] cpos) (tNSetd X td ty tx) := by
  refine ⟨fun pins s σ H Q I h => ?_⟩
  refine wpAny_Call_method m.base m.few m.line PySem.F.plainAttrs_dict PySem.F.slot_dict_setdefault PySem.F.type_dict_setdefault (thn (ho.run pins s σ H _ I h) fun u s1 ⟨x, H1, I1, rx, a, ex, ⟨xs0, d⟩, q1⟩ => ?_)
  subst ex
  obtain rfl : u = Value.ref a := rx
  refine ⟨nd_typeIs (nd_at I1 d), nd_noDict (nd_at I1 d), ?_⟩
  rw [m.trees]
  refine Calls.callWith_builtin rfl (Calls.evalArgs_plain (Calls.spliced_cons (thn (he.run pins s1 σ H1 _ I1 q1) fun iv s2 ⟨y, H2, I2, ry, q2⟩ =>
    Calls.spliced_cons (thn (hf.run pins s2 σ H2 _ I2 q2) fun fv s3 ⟨z, H3, I3, rz, b, xs, k, ey, hH, hk, kd, ck, hl, q3, q4⟩ => Calls.spliced_nil ?_))))
  subst ey
  obtain rfl : iv = Value.ref b := ry
  obtain ⟨k1, k2⟩ := hk _ _ _ I3
  exact n_setd hu I3 hH k1 k2 kd ck hl rz (fun v hv w' s4 I4 rw' => ⟨v, _, I4, rw', q3 v hv⟩) fun hn w' s4 I4 rw' => ⟨z, _, I4, rw', q4 hn⟩
end
end Mo
set_option maxRecDepth 100000
set_option maxHeartbeats 1000000
/-! Mo: values as pure data, a store of tracked cells, own lists of a frame; a def's meaning as a Lean function. -/
namespace Mo
open PySem PySem.Spec PyProof.Rows L2

/-- a value: tuples and resting lists by what they hold, a shared cell by its place -/
inductive D where
  | non | bl (b : Bool) | int (i : Int) | str (x : Str)
  | tup (l : List D) | lst (l : List D)
  | loc (n : Nat) | raw (v : V)
  /-- a list of numbers that nobody changes: the script -/
  | scr (l : List Int)
  /-- an exception of an own class, of one field, that nobody changes -/
  | ex (c n : Str) (d : D)

/-- a cell that may change -/
inductive Cell where
  | lst (l : List D)
  | dK (l : List (Key × D))
  /-- keys are tuples of any depth, without texts -/
  | dT (l : List (NestedKey × D))
  /-- a dict that is walked through -/
  | dF (l : List (Key × D))
  /-- such a dict of tuples, walked through -/
  | dG (l : List (NestedKey × D))

mutual
/-- a key as data -/
def dKey : NestedKey → D
  | .none => .non
  | .num i => .int i
  | .text x => .str x
  | .tup ks => .tup (dKeys ks)
def dKeys : List NestedKey → List D
  | [] => []
  | k :: ks => dKey k :: dKeys ks
end
def kdl (l : List (NestedKey × D)) : List (NestedKey × D) := l.map fun p => (p.1, dKey p.1)

/-- what a name stands for: a value, or a cell of its own -/
inductive Slot where
  | val (d : D)
  | own (c : Cell)

abbrev Store := List Cell
abbrev MEnv := List (Option Slot)

/-- what a run gives -/
inductive R (α : Type) where
  | ok (a : α) (S : Store)
  | bad

def R.bind {α β : Type} (r : R α) (f : α → Store → R β) : R β := match r with
  | .ok a S => f a S
  | .bad => .bad

theorem R.bind_ok {α β : Type} {r : R α} {f : α → Store → R β} {b : β} {S' : Store} (h : r.bind f = .ok b S') : ∃ a S, r = .ok a S ∧ f a S = .ok b S' := by
  cases r with
  | ok a S => exact ⟨a, S, rfl, h⟩
  | bad => cases h

section rel
variable (K : PySem.W.Frag) (g f : List Addr) (H : Hp)
/-- a list that rests: none of the cells, none of the own ones -/
def RestL (a : Addr) (vs : List V) : Prop := a ∉ g ∧ a ∉ f ∧ H a = some (.lst vs)
/-- .. any object that rests -/
def RestO (a : Addr) (u : HO) : Prop := a ∉ g ∧ a ∉ f ∧ H a = some u
/-- .. or one that is only read, perhaps the module's -/
def ScrL (a : Addr) (vs : List V) : Prop :=
  (a ∉ g ∧ a ∉ f ∧ Rd H a (.lst vs)) ∨
    ∃ (ob : Obj) (its : Array Value) (n : Nat), K.lookup a = some ob ∧ ob.cls = .type "list" ∧ ob.dict = none ∧ ob.data = .seq its n ∧ its.size ≤ sizeLine ∧ Vals vs its.toList
mutual
def RelD : D → V → Prop
  | .non, v => v = .non
  | .bl b, v => v = .bl b
  | .int i, v => v = .int i
  | .str x, v => v = .str x
  | .tup l, v => ∃ a vs, v = .ref a ∧ SqT K H a vs ∧ RelDs l vs
  | .lst l, v => ∃ a vs, v = .ref a ∧ RestL g f H a vs ∧ RelDs l vs
  | .scr l, v => ∃ a, v = .ref a ∧ ScrL K g f H a (l.map V.int)
  | .loc n, v => ∃ a, v = .ref a ∧ g[n]? = some a
  | .raw u, v => v = u
  | .ex c n d, v => ∃ (a C dd : Addr) (x : V), v = .ref a ∧ PySem.W.nsIn K mainGlobals c = some (some (.ref C)) ∧ RestO g f H a (exo a C (some dd)) ∧ RestO g f H dd (exd dd [(n, x)]) ∧ RelD d x
def RelDs : List D → List V → Prop
  | [], vs => vs = []
  | d :: ds, vs => ∃ v r, vs = v :: r ∧ RelD d v ∧ RelDs ds r
end
def RelKv {κ : Type} : List (κ × D) → List (κ × V) → Prop
  | [], vs => vs = []
  | p :: ps, vs => ∃ v r, vs = (p.1, v) :: r ∧ RelD K g f H p.2 v ∧ RelKv ps r
def RelC (a : Addr) : Cell → Prop
  | .lst l => ∃ vs, H a = some (.lst vs) ∧ RelDs K g f H l vs
  | .dK l => ∃ kvs, H a = some (.dK kvs) ∧ RelKv K g f H l kvs
  | .dT l => ∃ xs, H a = some (ndO a xs) ∧ RelKv K g f H (kdl l) (kal xs) ∧ RelKv K g f H l (kvl xs)
  | .dF l => ∃ kvs, (∃ ob, H a = some (.frz ob (.dK kvs))) ∧ RelKv K g f H l kvs
  | .dG l => ∃ xs, (∃ ob, H a = some (.frz ob (ndO a xs))) ∧ RelKv K g f H (kdl l) (kal xs) ∧ RelKv K g f H l (kvl xs)
structure RelS (S : Store) : Prop where
  len : g.length = S.length
  nod : g.Nodup
  cel : ∀ (n : Nat) (c : Cell) (a : Addr), S[n]? = some c → g[n]? = some a → RelC K g f H a c
end rel

/-- the world has gone on: cells may have come and changed, all else stands -/
structure Ext (g : List Addr) (H : Hp) (g' : List Addr) (H' : Hp) : Prop where
  more : ∃ ns, g' = g ++ ns ∧ ∀ p ∈ ns, H p = none
  keep : ∀ a u, H a = some u → a ∉ g → H' a = some u
  live : ∀ a, H a ≠ none → H' a ≠ none
  tups : ∀ a vs, Rd H a (.tup vs) → Rd H' a (.tup vs)
  frz : ∀ a o u, H a = some (.frz o u) → H' a = some (.frz o u)

section
variable {K : PySem.W.Frag} {g g' g1 g2 f f' : List Addr} {H H' H1 H2 : Hp}
theorem Ext.refl : Ext g H g H := ⟨⟨[], by simp, fun _ h => nomatch h⟩, fun _ _ h _ => h, fun _ h => h, fun _ _ h => h, fun _ _ _ h => h⟩
theorem Ext.trans (a : Ext g H g1 H1) (b : Ext g1 H1 g2 H2) : Ext g H g2 H2 := by
  obtain ⟨n1, e1, h1⟩ := a.more
  obtain ⟨n2, e2, h2⟩ := b.more
  refine ⟨⟨n1 ++ n2, by rw [e2, e1, List.append_assoc], fun p hp => ?_⟩, fun c u hc hn => ?_, fun c h => b.live c (a.live c h), fun c vs h => b.tups c vs (a.tups c vs h), fun c o u h => b.frz c o u (a.frz c o u h)⟩
  · rcases List.mem_append.mp hp with q | q
    · exact h1 p q
    · cases e : H p with
      | none => rfl
      | some u => exact absurd (h2 p q) (a.live p (by rw [e]; simp))
  · refine b.keep c u (a.keep c u hc hn) ?_
    rw [e1]
    intro q
    rcases List.mem_append.mp q with q | q
    · exact hn q
    · rw [h1 c q] at hc; cases hc
theorem Ext.get (x : Ext g H g' H') {n : Nat} {a : Addr} (h : g[n]? = some a) : g'[n]? = some a := by
  obtain ⟨ns, e, _⟩ := x.more
  have hl : n < g.length := by
    rcases Nat.lt_or_ge n g.length with q | q
    · exact q
    · rw [List.getElem?_eq_none q] at h; cases h
  rw [e, List.getElem?_append_left hl]
  exact h
theorem Ext.out (x : Ext g H g' H') {a : Addr} (hn : a ∉ g) (hl : H a ≠ none) : a ∉ g' := by
  obtain ⟨ns, e, h⟩ := x.more
  rw [e]
  intro q
  rcases List.mem_append.mp q with q | q
  · exact hn q
  · exact hl (h a q)
theorem SqT.ext {a : Addr} {vs : List V} (x : Ext g H g' H') (h : SqT K H a vs) : SqT K H' a vs := by
  rcases h with h | h
  · exact .inl (x.tups a vs h)
  · exact .inr h
theorem Rd.live {a : Addr} {u : HO} (h : Rd H a u) : H a ≠ none := by
  rcases h with h | ⟨ob, h⟩ <;> rw [h] <;> simp
theorem Rd.keep {a : Addr} {u : HO} (x : Ext g H g' H') (h : Rd H a u) (hn : a ∉ g) : Rd H' a u := by
  rcases h with h | ⟨ob, h⟩
  · exact .inl (x.keep _ _ h hn)
  · exact .inr ⟨ob, x.keep _ _ h hn⟩
theorem RestL.ext {a : Addr} {vs : List V} (x : Ext g H g' H') (h : RestL g f H a vs) : RestL g' f H' a vs :=
  ⟨x.out h.1 (by rw [h.2.2]; simp), h.2.1, x.keep _ _ h.2.2 h.1⟩
theorem ScrL.ext {a : Addr} {vs : List V} (x : Ext g H g' H') (h : ScrL K g f H a vs) : ScrL K g' f H' a vs := by
  rcases h with ⟨h1, h2, h3⟩ | h
  · exact .inl ⟨x.out h1 (Rd.live h3), h2, Rd.keep x h3 h1⟩
  · exact .inr h
theorem RestO.ext {a : Addr} {u : HO} (x : Ext g H g' H') (h : RestO g f H a u) : RestO g' f H' a u :=
  ⟨x.out h.1 (by rw [h.2.2]; simp), h.2.1, x.keep _ _ h.2.2 h.1⟩
theorem RestO.less {a : Addr} {u : HO} (h : RestO g f H a u) (s : ∀ b ∈ f', b ∈ f) : RestO g f' H a u := ⟨h.1, fun q => h.2.1 (s _ q), h.2.2⟩
theorem RestL.less {a : Addr} {vs : List V} (h : RestL g f H a vs) (s : ∀ b ∈ f', b ∈ f) : RestL g f' H a vs := ⟨h.1, fun q => h.2.1 (s _ q), h.2.2⟩
theorem ScrL.less {a : Addr} {vs : List V} (h : ScrL K g f H a vs) (s : ∀ b ∈ f', b ∈ f) : ScrL K g f' H a vs := by
  rcases h with ⟨h1, h2, h3⟩ | h
  · exact .inl ⟨h1, fun q => h2 (s _ q), h3⟩
  · exact .inr h
theorem RestL.sq {a : Addr} {vs : List V} (h : RestL g f H a vs) : SqL K H a vs := .of h.2.2
theorem ScrL.sq {a : Addr} {vs : List V} (h : ScrL K g f H a vs) : SqL K H a vs := by
  rcases h with ⟨_, _, h⟩ | h
  · exact .inl h
  · exact .inr h
mutual
theorem RelD.ext (x : Ext g H g' H') : ∀ (d : D) (v : V), RelD K g f H d v → RelD K g' f H' d v
  | .non, _, h => h
  | .bl _, _, h => h
  | .int _, _, h => h
  | .str _, _, h => h
  | .raw _, _, h => h
  | .tup l, _, h => by
    obtain ⟨a, vs, e, q, r⟩ := h
    exact ⟨a, vs, e, SqT.ext x q, RelDs.ext x l vs r⟩
  | .lst l, _, h => by
    obtain ⟨a, vs, e, q, r⟩ := h
    exact ⟨a, vs, e, q.ext x, RelDs.ext x l vs r⟩
  | .loc n, _, h => by
    obtain ⟨a, e, q⟩ := h
    exact ⟨a, e, x.get q⟩
  | .scr l, _, ⟨a, e, q⟩ => ⟨a, e, q.ext x⟩
  | .ex c n d, _, ⟨a, C, dd, y, e, k, q1, q2, r⟩ => ⟨a, C, dd, y, e, k, q1.ext x, q2.ext x, RelD.ext x d y r⟩
theorem RelDs.ext (x : Ext g H g' H') : ∀ (l : List D) (vs : List V), RelDs K g f H l vs → RelDs K g' f H' l vs
  | [], _, h => h
  | d :: ds, _, h => by
    obtain ⟨v, r, e, q, t⟩ := h
    exact ⟨v, r, e, RelD.ext x d v q, RelDs.ext x ds r t⟩
end
mutual
theorem RelD.less (s : ∀ b ∈ f', b ∈ f) : ∀ (d : D) (v : V), RelD K g f H d v → RelD K g f' H d v
  | .non, _, h => h
  | .bl _, _, h => h
  | .int _, _, h => h
  | .str _, _, h => h
  | .raw _, _, h => h
  | .tup l, _, h => by
    obtain ⟨a, vs, e, q, r⟩ := h
    exact ⟨a, vs, e, q, RelDs.less s l vs r⟩
  | .lst l, _, h => by
    obtain ⟨a, vs, e, q, r⟩ := h
    exact ⟨a, vs, e, q.less s, RelDs.less s l vs r⟩
  | .loc n, _, h => h
  | .scr l, _, ⟨a, e, q⟩ => ⟨a, e, q.less s⟩
  | .ex c n d, _, ⟨a, C, dd, y, e, k, q1, q2, r⟩ => ⟨a, C, dd, y, e, k, q1.less s, q2.less s, RelD.less s d y r⟩
theorem RelDs.less (s : ∀ b ∈ f', b ∈ f) : ∀ (l : List D) (vs : List V), RelDs K g f H l vs → RelDs K g f' H l vs
  | [], _, h => h
  | d :: ds, _, h => by
    obtain ⟨v, r, e, q, t⟩ := h
    exact ⟨v, r, e, RelD.less s d v q, RelDs.less s ds r t⟩
end
theorem RelKv.ext {κ : Type} (x : Ext g H g' H') : ∀ (l : List (κ × D)) (vs : List (κ × V)), RelKv K g f H l vs → RelKv K g' f H' l vs
  | [], _, h => h
  | p :: ps, _, h => by
    obtain ⟨v, r, e, q, t⟩ := h
    exact ⟨v, r, e, RelD.ext x _ v q, RelKv.ext x ps r t⟩
theorem RelKv.less {κ : Type} (s : ∀ b ∈ f', b ∈ f) : ∀ (l : List (κ × D)) (vs : List (κ × V)), RelKv K g f H l vs → RelKv K g f' H l vs
  | [], _, h => h
  | p :: ps, _, h => by
    obtain ⟨v, r, e, q, t⟩ := h
    exact ⟨v, r, e, RelD.less s _ v q, RelKv.less s ps r t⟩
theorem RelC.less {a : Addr} (s : ∀ b ∈ f', b ∈ f) : ∀ {c : Cell}, RelC K g f H a c → RelC K g f' H a c
  | .lst l, ⟨vs, e, r⟩ => ⟨vs, e, RelDs.less s l vs r⟩
  | .dK l, ⟨vs, e, r⟩ => ⟨vs, e, RelKv.less s l vs r⟩
  | .dT l, ⟨vs, e, r, r'⟩ => ⟨vs, e, RelKv.less s _ _ r, RelKv.less s _ _ r'⟩
  | .dF l, ⟨vs, e, r⟩ => ⟨vs, e, RelKv.less s l vs r⟩
  | .dG l, ⟨vs, e, r, r'⟩ => ⟨vs, e, RelKv.less s _ _ r, RelKv.less s _ _ r'⟩
theorem RelC.live {a : Addr} : ∀ {c : Cell}, RelC K g f H a c → H a ≠ none
  | .lst l, ⟨vs, e, r⟩ => by rw [e]; simp
  | .dK l, ⟨vs, e, r⟩ => by rw [e]; simp
  | .dT l, ⟨vs, e, r, _⟩ => by rw [e]; simp
  | .dF l, ⟨vs, ⟨ob, e⟩, r⟩ => by rw [e]; simp
  | .dG l, ⟨vs, ⟨ob, e⟩, r, _⟩ => by rw [e]; simp
/-- an own cell stands through what expressions do -/
theorem RelC.ext {a : Addr} (x : Ext g H g' H') (hn : a ∉ g) : ∀ {c : Cell}, RelC K g f H a c → RelC K g' f H' a c
  | .lst l, ⟨vs, e, r⟩ => ⟨vs, x.keep _ _ e hn, RelDs.ext x l vs r⟩
  | .dK l, ⟨vs, e, r⟩ => ⟨vs, x.keep _ _ e hn, RelKv.ext x l vs r⟩
  | .dT l, ⟨vs, e, r, r'⟩ => ⟨vs, x.keep _ _ e hn, RelKv.ext x _ _ r, RelKv.ext x _ _ r'⟩
  | .dF l, ⟨vs, ⟨ob, e⟩, r⟩ => ⟨vs, ⟨ob, x.keep _ _ e hn⟩, RelKv.ext x l vs r⟩
  | .dG l, ⟨vs, ⟨ob, e⟩, r, r'⟩ => ⟨vs, ⟨ob, x.keep _ _ e hn⟩, RelKv.ext x _ _ r, RelKv.ext x _ _ r'⟩
theorem RelS.less {S : Store} (s : ∀ b ∈ f', b ∈ f) (h : RelS K g f H S) : RelS K g f' H S := ⟨h.len, h.nod, fun n c a e1 e2 => (h.cel n c a e1 e2).less s⟩
theorem RelS.live {S : Store} (h : RelS K g f H S) {a : Addr} (m : a ∈ g) : H a ≠ none := by
  obtain ⟨n, hn⟩ := List.mem_iff_getElem?.mp m
  have hl : n < S.length := by
    rw [← h.len]
    rcases Nat.lt_or_ge n g.length with q | q
    · exact q
    · rw [List.getElem?_eq_none q] at hn; cases hn
  exact (h.cel n S[n] a (List.getElem?_eq_getElem hl) hn).live
end
/-! ### the state of a frame -/
structure Sta (K : PySem.W.Frag) (g w o : List Addr) (ρ : MEnv) (S : Store) (σ : L2.St) (H : Hp) : Prop where
  len : ρ.length = σ.length
  val : ∀ (i : Nat) (d : D), ρ[i]? = some (some (.val d)) → ∃ v, σ[i]? = some (some v) ∧ RelD K g (w ++ o) H d v
  own : ∀ (i : Nat) (c : Cell), ρ[i]? = some (some (.own c)) → ∃ a, σ[i]? = some (some (V.ref a)) ∧ a ∈ o ∧ RelC K g (w ++ o) H a c
  inj : ∀ (i j : Nat) (c d : Cell) (a : Addr), ρ[i]? = some (some (.own c)) → ρ[j]? = some (some (.own d)) → σ[i]? = some (some (V.ref a)) → σ[j]? = some (some (V.ref a)) → i = j
  out : ∀ a ∈ o, a ∉ g ∧ a ∉ w
  liv : ∀ a ∈ w ++ o, H a ≠ none
  sto : RelS K g (w ++ o) H S

section
variable {K : PySem.W.Frag} {g g' g1 g2 w o f f' : List Addr} {H H' H1 H2 : Hp} {ρ : MEnv} {S S' : Store} {σ : L2.St}
/-- behind an expression -/
theorem Sta.ext (s : Sta K g w o ρ S σ H) (x : Ext g H g' H') (t : RelS K g' (w ++ o) H' S') : Sta K g' w o ρ S' σ H' where
  len := s.len
  val := fun i d e => let ⟨v, e1, r⟩ := s.val i d e; ⟨v, e1, RelD.ext x d v r⟩
  own := fun i c e => let ⟨a, e1, m, r⟩ := s.own i c e; ⟨a, e1, m, r.ext x (s.out a m).1⟩
  inj := s.inj
  out := fun a m => ⟨x.out (s.out a m).1 (s.liv a (List.mem_append_right _ m)), (s.out a m).2⟩
  liv := fun a m => x.live a (s.liv a m)
  sto := t

/-! ### what an expression means -/
abbrev ME := MEnv → Store → R D
abbrev MT := MEnv → Store → R Bool
abbrev MA := MEnv → Store → R (List D)
/-- what is had behind an expression whose meaning is d, S' -/
def FinE (K : PySem.W.Frag) (g f : List Addr) (H : Hp) (d : D) (S' : Store) (Q : VK) : Prop :=
  ∀ v g' H', Ext g H g' H' → RelS K g' f H' S' → RelD K g' f H' d v → Q v H'
def tE (K : PySem.W.Frag) (m : ME) : TE := fun σ H Q => ∃ g w o ρ S d S', Sta K g w o ρ S σ H ∧ m ρ S = .ok d S' ∧ FinE K g (w ++ o) H d S' Q
def tM (K : PySem.W.Frag) (m : MT) : TT := fun σ H Q => ∃ g w o ρ S b S', Sta K g w o ρ S σ H ∧ m ρ S = .ok b S' ∧
  ∀ g' H', Ext g H g' H' → RelS K g' (w ++ o) H' S' → Q b H'
def tA (K : PySem.W.Frag) (m : MA) : TA := fun σ H Q => ∃ g w o ρ S l S', Sta K g w o ρ S σ H ∧ m ρ S = .ok l S' ∧
  ∀ vs g' H', Ext g H g' H' → RelS K g' (w ++ o) H' S' → RelDs K g' (w ++ o) H' l vs → Q vs H'
def EM (X : Cx) (e : Expr) (m : ME) : Prop := PE X e (tE X.K m)
def TM (X : Cx) (e : Expr) (m : MT) : Prop := PT X e (tM X.K m)
def AM (X : Cx) (es : List Expr) (m : MA) : Prop := PA X es (tA X.K m)
end
section
variable {X : Cx} {e : Expr}
theorem PE.of {t t' : TE} (h : PE X e t) (i : ∀ σ H Q, t' σ H Q → t σ H Q) : PE X e t' := ⟨fun pins s σ H Q I q => h.run pins s σ H Q I (i σ H Q q)⟩
theorem PT.of {t t' : TT} (h : PT X e t) (i : ∀ σ H Q, t' σ H Q → t σ H Q) : PT X e t' := ⟨fun pins s σ H Q I q => h.run pins s σ H Q I (i σ H Q q)⟩
theorem PA.of {es : List Expr} {t t' : TA} (h : PA X es t) (i : ∀ σ H Q, t' σ H Q → t σ H Q) : PA X es t' := ⟨fun pos pins s σ H Q I q => h.run pos pins s σ H Q I (i σ H Q q)⟩
theorem PS.of {st : Stmt} {t t' : TS} (h : PS X st t) (i : ∀ D σ H, t' D σ H → t D σ H) : PS X st t' := ⟨fun pins s σ H D I q => h.run pins s σ H D I (i D σ H q)⟩
theorem PSs.of {st : List Stmt} {t t' : TS} (h : PSs X st t) (i : ∀ D σ H, t' D σ H → t D σ H) : PSs X st t' := ⟨fun pins s σ H D I q => h.run pins s σ H D I (i D σ H q)⟩

/-! ### names and constants -/
def mVar (i : Nat) : ME := fun ρ S => match ρ[i]? with
  | some (some (.val d)) => .ok d S
  | _ => .bad
def mC (d : D) : ME := fun _ S => .ok d S
theorem em_var {i : Nat} (h : PE X e (tVar i)) : EM X e (mVar i) := PE.of h fun σ H Q ⟨g, w, o, ρ, S, d, S', s, hm, q⟩ => by
  unfold mVar at hm
  split at hm
  · rename_i d' e'
    cases hm
    obtain ⟨v, e1, r⟩ := s.val i _ e'
    exact ⟨v, e1, q v g H .refl s.sto r⟩
  · cases hm
/-- a constant: what stands for it whatever the heap -/
theorem em_c {v : V} {d : D} (h : PE X e (tC v)) (hd : ∀ K g f H, RelD K g f H d v) : EM X e (mC d) := PE.of h fun σ H Q ⟨g, w, o, ρ, S, d', S', s, hm, q⟩ => by
  unfold mC at hm
  cases hm
  exact q v g H .refl s.sto (hd _ _ _ _)
theorem em_int {i j pos} : EM X (.Constant (.int i) j pos) (mC (.int i)) := em_c pe_int fun _ _ _ _ => rfl
theorem em_bl {b j pos} : EM X (.Constant (.bool b) j pos) (mC (.bl b)) := em_c pe_bl fun _ _ _ _ => rfl
theorem em_non {j pos} : EM X (.Constant .none j pos) (mC .non) := em_c pe_non fun _ _ _ _ => rfl
theorem em_str {x j pos} : EM X (.Constant (.str x) j pos) (mC (.str x)) := em_c pe_str fun _ _ _ _ => rfl

/-! ### two-place operations -/
abbrev G2 := D → D → Store → R D
def m2 (h : G2) (a b : ME) : ME := fun ρ S => (a ρ S).bind fun x S1 => (b ρ S1).bind fun y S2 => h x y S2
/-- a rule on values, by what the data say -/
def OpD (K : PySem.W.Frag) (r : R2) (h : G2) : Prop := ∀ (g f : List Addr) (H : Hp) (S : Store) (dx dy d : D) (S' : Store) (x y : V) (Q : VK),
  RelS K g f H S → RelD K g f H dx x → RelD K g f H dy y → h dx dy S = .ok d S' → FinE K g f H d S' Q → r x y H Q
variable {a b c : Expr} {ma mb mc : ME} {pos : Pos}
theorem op_of {r : R2} {h : G2} (od : OpD X.K r h) {σ : L2.St} {H : Hp} {Q : VK} (q : tE X.K (m2 h ma mb) σ H Q) : tOp r (tE X.K ma) (tE X.K mb) σ H Q := by
  obtain ⟨g, w, o, ρ, S, d, S', s, hm, q⟩ := q
  obtain ⟨x, S1, h1, hm⟩ := R.bind_ok hm
  obtain ⟨y, S2, h2, hm⟩ := R.bind_ok hm
  refine ⟨g, w, o, ρ, S, x, S1, s, h1, fun vx g1 H1 x1 s1 r1 => ?_⟩
  have st1 := s.ext x1 s1
  refine ⟨g1, w, o, ρ, S1, y, S2, st1, h2, fun vy g2 H2 x2 s2 r2 => ?_⟩
  exact od g2 (w ++ o) H2 S2 x y d S' vx vy Q s2 (RelD.ext x2 x vx r1) r2 hm fun v g3 H3 x3 s3 r3 => q v g3 H3 ((x1.trans x2).trans x3) s3 r3
theorem em_op {op : Operator} {r : R2} {h : G2} (ho : OpR X (binaryOp op) r) (od : OpD X.K r h) (ha : EM X a ma) (hb : EM X b mb) : EM X (.BinOp a op b pos) (m2 h ma mb) :=
  PE.of (pe_op ho ha hb) fun _ _ _ q => op_of od q
theorem em_cmp {op : CmpOp} {r : R2} {h : G2} (ho : OpR X (compareOp op) r) (od : OpD X.K r h) (ha : EM X a ma) (hb : EM X b mb) (hm : behindInMarks op b = false) : EM X (.Compare a [op] [b] pos) (m2 h ma mb) :=
  PE.of (pe_cmpR ho ha hb hm) fun _ _ _ q => op_of od q
theorem em_ix {r : R2} {h : G2} (ho : IxR X r) (od : OpD X.K r h) (ha : EM X a ma) (hb : EM X b mb) (hs : PlainIx b) : EM X (.Subscript a b pos) (m2 h ma mb) :=
  PE.of (pe_ix ho ha hb hs) fun _ _ _ q => op_of od q
end
end Mo
set_option maxRecDepth 100000
set_option maxHeartbeats 1000000
/-! Mo: statements. -/
namespace Mo
open PySem PySem.Spec PyProof.Rows L2

inductive Fl where
  | nx (ρ : MEnv)
  | rt (d : D)
  | bk (ρ : MEnv)
  | ct (ρ : MEnv)
abbrev MS := MEnv → Store → R Fl

/-- .. behind a statement: own cells may have changed, too -/
structure ExtS (g o : List Addr) (H : Hp) (g' o' : List Addr) (H' : Hp) : Prop where
  more : ∃ ns, g' = g ++ ns ∧ ∀ p ∈ ns, H p = none
  keep : ∀ a u, H a = some u → a ∉ g → a ∉ o → H' a = some u
  live : ∀ a, H a ≠ none → H' a ≠ none
  tups : ∀ a vs, Rd H a (.tup vs) → Rd H' a (.tup vs)
  frz : ∀ a o u, H a = some (.frz o u) → H' a = some (.frz o u)
  lam : ∀ a ∈ o', a ∈ o ∨ H a = none

section
variable {K : PySem.W.Frag} {g g' g1 g2 w o o' o1 o2 f f' : List Addr} {H H' H1 H2 : Hp} {ρ : MEnv} {S S' : Store} {σ : L2.St}
theorem Ext.s (x : Ext g H g' H') : ExtS g o H g' o H' := ⟨x.more, fun a u h n _ => x.keep a u h n, x.live, x.tups, x.frz, fun _ h => .inl h⟩
theorem ExtS.refl : ExtS g o H g o H := Ext.s .refl
theorem ExtS.trans (a : ExtS g o H g1 o1 H1) (b : ExtS g1 o1 H1 g2 o2 H2) : ExtS g o H g2 o2 H2 := by
  obtain ⟨n1, e1, h1⟩ := a.more
  obtain ⟨n2, e2, h2⟩ := b.more
  have back : ∀ p, H1 p = none → H p = none := fun p q => by
    cases e : H p with
    | none => rfl
    | some u => exact absurd q (a.live p (by rw [e]; simp))
  refine ⟨⟨n1 ++ n2, by rw [e2, e1, List.append_assoc], fun p hp => ?_⟩, fun c u hc hn ho => ?_, fun c h => b.live c (a.live c h), fun c vs h => b.tups c vs (a.tups c vs h), fun c o u h => b.frz c o u (a.frz c o u h), fun c h => ?_⟩
  · rcases List.mem_append.mp hp with q | q
    · exact h1 p q
    · exact back p (h2 p q)
  · refine b.keep c u (a.keep c u hc hn ho) ?_ fun q => ?_
    · rw [e1]
      intro q
      rcases List.mem_append.mp q with q | q
      · exact hn q
      · rw [h1 c q] at hc; cases hc
    · rcases a.lam c q with q | q
      · exact ho q
      · rw [q] at hc; cases hc
  · rcases b.lam c h with q | q
    · exact a.lam c q
    · exact .inr (back c q)
/-- seen from a frame without own cells -/
theorem ExtS.ext (x : ExtS g [] H g' o' H') : Ext g H g' H' := ⟨x.more, fun a u h n => x.keep a u h n (by simp), x.live, x.tups, x.frz⟩

theorem Sta.set {i : Nat} {d : D} {v : V} (s : Sta K g w o ρ S σ H) (r : RelD K g (w ++ o) H d v) : Sta K g w o (ρ.set i (some (.val d))) S (σ.set i (some v)) H where
  len := by rw [List.length_set, List.length_set]; exact s.len
  val := fun j e h => by
    by_cases hj : i = j
    · subst hj
      have hl : i < ρ.length := by
        rcases Nat.lt_or_ge i ρ.length with q | q
        · exact q
        · rw [List.getElem?_eq_none (by rw [List.length_set]; exact q)] at h; cases h
      rw [List.getElem?_set_self hl] at h
      cases h
      exact ⟨v, List.getElem?_set_self (by rw [← s.len]; exact hl), r⟩
    · rw [List.getElem?_set_ne hj] at h ⊢
      exact s.val j e h
  own := fun j c h => by
    by_cases hj : i = j
    · subst hj
      have hl : i < ρ.length := by
        rcases Nat.lt_or_ge i ρ.length with q | q
        · exact q
        · rw [List.getElem?_eq_none (by rw [List.length_set]; exact q)] at h; cases h
      rw [List.getElem?_set_self hl] at h
      cases h
    · rw [List.getElem?_set_ne hj] at h ⊢
      exact s.own j c h
  inj := fun j k c e a h1 h2 h3 h4 => by
    have nj : ∀ {j c}, (ρ.set i (some (.val d)))[j]? = some (some (Slot.own c)) → i ≠ j := fun {j c} h hj => by
      subst hj
      rcases Nat.lt_or_ge i ρ.length with q | q
      · rw [List.getElem?_set_self q] at h; cases h
      · rw [List.getElem?_eq_none (by rw [List.length_set]; exact q)] at h; cases h
    have n1 := nj h1
    have n2 := nj h2
    rw [List.getElem?_set_ne n1] at h1 h3
    rw [List.getElem?_set_ne n2] at h2 h4
    exact s.inj j k c e a h1 h2 h3 h4
  out := s.out
  liv := s.liv
  sto := s.sto

/-- what is had behind a statement -/
def FinS (K : PySem.W.Frag) (g w o : List Addr) (H : Hp) (fl : Fl) (S' : Store) (E : Ends) : Prop := ∀ g' o' H', ExtS g o H g' o' H' → match fl with
  | .nx ρ' => ∀ σ', Sta K g' w o' ρ' S' σ' H' → E.nx σ' H'
  | .bk ρ' => ∀ σ', Sta K g' w o' ρ' S' σ' H' → E.bk σ' H'
  | .ct ρ' => ∀ σ', Sta K g' w o' ρ' S' σ' H' → E.ct σ' H'
  | .rt d => ∀ v, RelS K g' w H' S' → RelD K g' w H' d v → E.rt v H'
def tS (K : PySem.W.Frag) (m : MS) : TS := fun E σ H => ∃ g w o ρ S fl S', Sta K g w o ρ S σ H ∧ m ρ S = .ok fl S' ∧ FinS K g w o H fl S' E
def SM (X : Cx) (st : Stmt) (m : MS) : Prop := PS X st (tS X.K m)
def SsM (X : Cx) (st : List Stmt) (m : MS) : Prop := PSs X st (tS X.K m)
theorem FinS.after {fl : Fl} {E : Ends} (q : FinS K g w o H fl S' E) (x : ExtS g o H g1 o1 H1) : FinS K g1 w o1 H1 fl S' E := fun g' o' H' y => q g' o' H' (x.trans y)
end

section
variable {X : Cx} {st : Stmt} {rest : List Stmt} {e c : Expr} {m m1 m2 ma mb : MS} {me : ME} {mt : MT} {pos : Pos}
def mNil : MS := fun ρ S => .ok (.nx ρ) S
theorem ssm_nil : SsM X [] mNil := PSs.of pss_nil fun E σ H ⟨g, w, o, ρ, S, fl, S', s, hm, q⟩ => by
  cases hm
  exact q g o H .refl σ s
def mSeq (m1 m2 : MS) : MS := fun ρ S => (m1 ρ S).bind fun fl S1 => match fl with
  | .nx ρ1 => m2 ρ1 S1
  | fl => .ok fl S1
theorem ssm_cons (h1 : SM X st m1) (h2 : SsM X rest m2) : SsM X (st :: rest) (mSeq m1 m2) := PSs.of (pss_cons h1 h2) fun E σ H ⟨g, w, o, ρ, S, fl, S', s, hm, q⟩ => by
  obtain ⟨f1, S1, e1, hm⟩ := R.bind_ok hm
  refine ⟨g, w, o, ρ, S, f1, S1, s, e1, fun g1 o1 H1 x1 => ?_⟩
  cases f1 with
  | nx ρ1 => exact fun σ1 s1 => ⟨g1, w, o1, ρ1, S1, fl, S', s1, hm, q.after x1⟩
  | rt d => cases hm; exact q g1 o1 H1 x1
  | bk d => cases hm; exact q g1 o1 H1 x1
  | ct d => cases hm; exact q g1 o1 H1 x1
theorem ssm_one (h1 : SM X st m1) : SsM X [st] m1 := pss_one h1
/-- name = e -/
def mSet (i : Nat) (m : ME) : MS := fun ρ S => (m ρ S).bind fun d S1 => .ok (.nx (ρ.set i (some (.val d)))) S1
theorem sm_set {i : Nat} (h : PS X st (tAsg (tE X.K me) (gName i))) : SM X st (mSet i me) := PS.of h fun E σ H ⟨g, w, o, ρ, S, fl, S', s, hm, q⟩ => by
  obtain ⟨d, S1, e1, hm⟩ := R.bind_ok hm
  cases hm
  exact ⟨g, w, o, ρ, S, d, S', s, e1, fun v g1 H1 x1 s1 r1 => q g1 o H1 x1.s _ ((s.ext x1 s1).set r1)⟩
def mRet (m : ME) : MS := fun ρ S => (m ρ S).bind fun d S1 => .ok (.rt d) S1
theorem sm_ret (h : EM X e me) : SM X (.Return (some e) pos) (mRet me) := PS.of (ps_ret h) fun E σ H ⟨g, w, o, ρ, S, fl, S', s, hm, q⟩ => by
  obtain ⟨d, S1, e1, hm⟩ := R.bind_ok hm
  cases hm
  have sub : ∀ b ∈ w, b ∈ w ++ o := fun b hb => List.mem_append_left _ hb
  exact ⟨g, w, o, ρ, S, d, S', s, e1, fun v g1 H1 x1 s1 r1 => q g1 o H1 x1.s v (s1.less sub) (RelD.less sub d v r1)⟩
def mRetN : MS := fun _ S => .ok (.rt .non) S
theorem sm_retN : SM X (.Return none pos) mRetN := PS.of ps_retN fun E σ H ⟨g, w, o, ρ, S, fl, S', s, hm, q⟩ => by
  cases hm
  have sub : ∀ b ∈ w, b ∈ w ++ o := fun b hb => List.mem_append_left _ hb
  exact q g o H .refl .non (s.sto.less sub) rfl
def mDrop (m : ME) : MS := fun ρ S => (m ρ S).bind fun _ S1 => .ok (.nx ρ) S1
theorem sm_drop (h : PS X st (tDrop (tE X.K me))) : SM X st (mDrop me) := PS.of h fun E σ H ⟨g, w, o, ρ, S, fl, S', s, hm, q⟩ => by
  obtain ⟨d, S1, e1, hm⟩ := R.bind_ok hm
  cases hm
  exact ⟨g, w, o, ρ, S, d, S', s, e1, fun v g1 H1 x1 s1 r1 => q g1 o H1 x1.s _ (s.ext x1 s1)⟩
def mIf (c : MT) (a b : MS) : MS := fun ρ S => (c ρ S).bind fun k S1 => if k = true then a ρ S1 else b ρ S1
theorem sm_if {a b : List Stmt} (hc : TM X c mt) (ha : SsM X a ma) (hb : SsM X b mb) : SM X (.If c a b pos) (mIf mt ma mb) := PS.of (ps_if hc ha hb) fun E σ H ⟨g, w, o, ρ, S, fl, S', s, hm, q⟩ => by
  obtain ⟨k, S1, e1, hm⟩ := R.bind_ok hm
  refine ⟨g, w, o, ρ, S, k, S1, s, e1, fun g1 H1 x1 s1 => ?_⟩
  have st1 := s.ext x1 s1
  cases k with
  | true => exact ⟨g1, w, o, ρ, S1, fl, S', st1, hm, q.after x1.s⟩
  | false => exact ⟨g1, w, o, ρ, S1, fl, S', st1, hm, q.after x1.s⟩
def mPass : MS := mNil
theorem sm_pass : SM X (.Pass pos) mPass := PS.of ps_pass fun E σ H ⟨g, w, o, ρ, S, fl, S', s, hm, q⟩ => by
  cases hm
  exact q g o H .refl σ s
theorem sm_doc {x j pos pos'} : SM X (.Expr (.Constant (.str x) j pos) pos') mPass := PS.of ps_doc fun E σ H ⟨g, w, o, ρ, S, fl, S', s, hm, q⟩ => by
  cases hm
  exact q g o H .refl σ s
def mBrk : MS := fun ρ S => .ok (.bk ρ) S
def mCnt : MS := fun ρ S => .ok (.ct ρ) S
theorem sm_break : SM X (.Break pos) mBrk := PS.of ps_break fun E σ H ⟨g, w, o, ρ, S, fl, S', s, hm, q⟩ => by
  cases hm
  exact q g o H .refl σ s
theorem sm_continue : SM X (.Continue pos) mCnt := PS.of ps_continue fun E σ H ⟨g, w, o, ρ, S, fl, S', s, hm, q⟩ => by
  cases hm
  exact q g o H .refl σ s
/-- a step of the proof alone, ahead of statements -/
theorem ssm_ghost {sts : List Stmt} {gh : MEnv → MEnv} (h : SsM X sts m)
    (hg : ∀ g w o ρ S σ H, Sta X.K g w o ρ S σ H → ∃ o', (∀ a ∈ o', a ∈ o) ∧ Sta X.K g w o' (gh ρ) S σ H) : SsM X sts (fun ρ S => m (gh ρ) S) := PSs.of h fun E σ H ⟨g, w, o, ρ, S, fl, S', s, hm, q⟩ => by
  obtain ⟨o', so, s'⟩ := hg g w o ρ S σ H s
  refine ⟨g, w, o', gh ρ, S, fl, S', s', hm, fun g1 o1 H1 x1 => q g1 o1 H1 ⟨x1.more, fun a u h n ho => x1.keep a u h n fun z => ho (so a z), x1.live, x1.tups, x1.frz, fun a h => ?_⟩⟩
  rcases x1.lam a h with z | z
  · exact .inl (so a z)
  · exact .inr z
end
end Mo
set_option maxRecDepth 100000
set_option maxHeartbeats 1000000
/-! Mo: tests, arguments, displays, calls, defs. -/
namespace Mo
open PySem PySem.Spec PyProof.Rows L2

section
variable {X : Cx} {a b c e : Expr} {rest : List Expr} {ma mb mc me : ME} {ta tb tc : MT} {pos : Pos} {l : MA}

/-! ### tests -/
def isB : D → Store → R Bool
  | .bl k, S => .ok k S
  | _, _ => .bad
def mB (m : ME) : MT := fun ρ S => (m ρ S).bind isB
theorem isB_ok {d : D} {S S' : Store} {k : Bool} (h : isB d S = .ok k S') : d = .bl k ∧ S' = S := by
  cases d <;> cases h
  exact ⟨rfl, rfl⟩
theorem tm_ofB {t : TT} (h : PT X e t) (i : ∀ σ H Q, (tE X.K me σ H fun x H1 => ∃ k, x = .bl k ∧ Q k H1) → t σ H Q) : TM X e (mB me) := PT.of h fun σ H Q ⟨g, w, o, ρ, S, k, S', s, hm, q⟩ => by
  obtain ⟨d, S1, h1, h2⟩ := R.bind_ok hm
  obtain ⟨rfl, rfl⟩ := isB_ok h2
  exact i σ H Q ⟨g, w, o, ρ, S, _, _, s, h1, fun v g1 H1 x1 s1 r1 => ⟨k, r1, q g1 H1 x1 s1⟩⟩
theorem tm_val (h : EM X e me) (he : ∀ whole, isTrue e X.env whole = (do let v ← whole; standAt e.pos; holding [v] (truthy v)) := by intro _; rfl) : TM X e (mB me) := tm_ofB (pt_val h he) fun _ _ _ q => q
theorem tm_cmp {op : CmpOp} {r : R2} {h : G2} (ho : OpR X (compareOp op) r) (od : OpD X.K r h) (ha : EM X a ma) (hb : EM X b mb) (hm : behindInMarks op b = false) : TM X (.Compare a [op] [b] pos) (mB (m2 h ma mb)) :=
  tm_ofB (pt_cmpR ho ha hb hm) fun σ H Q q => op_of od q
def WM (X : Cx) (e : Expr) (m : MT) : Prop := PW X e (tM X.K m)
theorem WM.tm (h : WM X e ta) : TM X e ta := PW.pt h
theorem PW.of {t t' : TT} (h : PW X e t) (i : ∀ σ H Q, t' σ H Q → t σ H Q) : PW X e t' := ⟨fun wh pins s σ H Q I q => h.run wh pins s σ H Q I (i σ H Q q)⟩
def mAndT (a b : MT) : MT := fun ρ S => (a ρ S).bind fun k S1 => if k = true then b ρ S1 else .ok false S1
def mOrT (a b : MT) : MT := fun ρ S => (a ρ S).bind fun k S1 => if k = true then .ok true S1 else b ρ S1
def mNotT (a : MT) : MT := fun ρ S => (a ρ S).bind fun k S1 => .ok (!k) S1
theorem wm_and1 (ha : TM X a ta) : WM X (.BoolOp .And [a] pos) ta := pw_and1 ha
theorem wm_or1 (ha : TM X a ta) : WM X (.BoolOp .Or [a] pos) ta := pw_or1 ha
theorem wm_and (ha : TM X a ta) (hb : WM X (.BoolOp .And (b :: rest) pos) tb) : WM X (.BoolOp .And (a :: b :: rest) pos) (mAndT ta tb) := PW.of (pw_and ha hb) fun σ H Q ⟨g, w, o, ρ, S, k, S', s, hm, q⟩ => by
  obtain ⟨k1, S1, h1, hm⟩ := R.bind_ok hm
  refine ⟨g, w, o, ρ, S, k1, S1, s, h1, fun g1 H1 x1 s1 => ?_⟩
  cases k1 with
  | true => exact ⟨g1, w, o, ρ, S1, k, S', s.ext x1 s1, hm, fun g2 H2 x2 s2 => q g2 H2 (x1.trans x2) s2⟩
  | false => cases hm; exact q g1 H1 x1 s1
theorem wm_or (ha : TM X a ta) (hb : WM X (.BoolOp .Or (b :: rest) pos) tb) : WM X (.BoolOp .Or (a :: b :: rest) pos) (mOrT ta tb) := PW.of (pw_or ha hb) fun σ H Q ⟨g, w, o, ρ, S, k, S', s, hm, q⟩ => by
  obtain ⟨k1, S1, h1, hm⟩ := R.bind_ok hm
  refine ⟨g, w, o, ρ, S, k1, S1, s, h1, fun g1 H1 x1 s1 => ?_⟩
  cases k1 with
  | true => cases hm; exact q g1 H1 x1 s1
  | false => exact ⟨g1, w, o, ρ, S1, k, S', s.ext x1 s1, hm, fun g2 H2 x2 s2 => q g2 H2 (x1.trans x2) s2⟩
theorem tm_not (ha : TM X a ta) : TM X (.UnaryOp .Not a pos) (mNotT ta) := PT.of (pt_not ha) fun σ H Q ⟨g, w, o, ρ, S, k, S', s, hm, q⟩ => by
  obtain ⟨k1, S1, h1, hm⟩ := R.bind_ok hm
  cases hm
  exact ⟨g, w, o, ρ, S, k1, S', s, h1, fun g1 H1 x1 s1 => q g1 H1 x1 s1⟩
/-- and, or, not as values -/
def mAnd (a b : ME) : ME := fun ρ S => (a ρ S).bind fun d S1 => (isB d S1).bind fun k S2 => if k = true then b ρ S2 else .ok (.bl false) S2
def mOr (a b : ME) : ME := fun ρ S => (a ρ S).bind fun d S1 => (isB d S1).bind fun k S2 => if k = true then .ok (.bl true) S2 else b ρ S2
def mNot (a : ME) : ME := fun ρ S => (a ρ S).bind fun d S1 => (isB d S1).bind fun k S2 => .ok (.bl (!k)) S2
theorem em_one {op} (h : EM X a ma) : EM X (.BoolOp op [a] pos) ma := pe_one h
theorem em_and (ha : EM X a ma) (hb : EM X (.BoolOp .And (b :: rest) pos) mb) : EM X (.BoolOp .And (a :: b :: rest) pos) (mAnd ma mb) := PE.of (pe_and ha hb) fun σ H Q ⟨g, w, o, ρ, S, d, S', s, hm, q⟩ => by
  obtain ⟨d1, S1, h1, hm⟩ := R.bind_ok hm
  obtain ⟨k, S2, h2, hm⟩ := R.bind_ok hm
  obtain ⟨rfl, rfl⟩ := isB_ok h2
  refine ⟨g, w, o, ρ, S, _, _, s, h1, fun v g1 H1 x1 s1 r1 => ⟨k, r1, ?_⟩⟩
  cases k with
  | true => exact ⟨g1, w, o, ρ, _, d, S', s.ext x1 s1, hm, fun v g2 H2 x2 s2 r2 => q v g2 H2 (x1.trans x2) s2 r2⟩
  | false => cases hm; exact q _ g1 H1 x1 s1 rfl
theorem em_or (ha : EM X a ma) (hb : EM X (.BoolOp .Or (b :: rest) pos) mb) : EM X (.BoolOp .Or (a :: b :: rest) pos) (mOr ma mb) := PE.of (pe_or ha hb) fun σ H Q ⟨g, w, o, ρ, S, d, S', s, hm, q⟩ => by
  obtain ⟨d1, S1, h1, hm⟩ := R.bind_ok hm
  obtain ⟨k, S2, h2, hm⟩ := R.bind_ok hm
  obtain ⟨rfl, rfl⟩ := isB_ok h2
  refine ⟨g, w, o, ρ, S, _, _, s, h1, fun v g1 H1 x1 s1 r1 => ⟨k, r1, ?_⟩⟩
  cases k with
  | true => cases hm; exact q _ g1 H1 x1 s1 rfl
  | false => exact ⟨g1, w, o, ρ, _, d, S', s.ext x1 s1, hm, fun v g2 H2 x2 s2 r2 => q v g2 H2 (x1.trans x2) s2 r2⟩
theorem em_not (ha : EM X a ma) : EM X (.UnaryOp .Not a pos) (mNot ma) := PE.of (pe_not ha) fun σ H Q ⟨g, w, o, ρ, S, d, S', s, hm, q⟩ => by
  obtain ⟨d1, S1, h1, hm⟩ := R.bind_ok hm
  obtain ⟨k, S2, h2, hm⟩ := R.bind_ok hm
  obtain ⟨rfl, rfl⟩ := isB_ok h2
  cases hm
  exact ⟨g, w, o, ρ, S, _, _, s, h1, fun v g1 H1 x1 s1 r1 => ⟨k, r1, q _ g1 H1 x1 s1 rfl⟩⟩
def mIfE (c : MT) (a b : ME) : ME := fun ρ S => (c ρ S).bind fun k S1 => if k = true then a ρ S1 else b ρ S1
theorem em_ifE (hc : TM X c tc) (ha : EM X a ma) (hb : EM X b mb) : EM X (.IfExp c a b pos) (mIfE tc ma mb) := PE.of (pe_ifExp hc ha hb) fun σ H Q ⟨g, w, o, ρ, S, d, S', s, hm, q⟩ => by
  obtain ⟨k, S1, h1, hm⟩ := R.bind_ok hm
  refine ⟨g, w, o, ρ, S, k, S1, s, h1, fun g1 H1 x1 s1 => ?_⟩
  cases k with
  | true => exact ⟨g1, w, o, ρ, _, d, S', s.ext x1 s1, hm, fun v g2 H2 x2 s2 r2 => q v g2 H2 (x1.trans x2) s2 r2⟩
  | false => exact ⟨g1, w, o, ρ, _, d, S', s.ext x1 s1, hm, fun v g2 H2 x2 s2 r2 => q v g2 H2 (x1.trans x2) s2 r2⟩
/-- a < b < c -/
def mChain (h h' : G2) (a b c : ME) : ME := fun ρ S => (a ρ S).bind fun x S1 => (b ρ S1).bind fun y S2 => (h x y S2).bind fun d S3 => (isB d S3).bind fun k S4 =>
  if k = true then (c ρ S4).bind fun z S5 => h' y z S5 else .ok (.bl false) S4
theorem chain_of {r r' : R2} {h h' : G2} (od : OpD X.K r h) (od' : OpD X.K r' h') {σ : L2.St} {H : Hp} {Q : VK} (q : tE X.K (mChain h h' ma mb mc) σ H Q) : tChain r r' (tE X.K ma) (tE X.K mb) (tE X.K mc) σ H Q := by
  obtain ⟨g, w, o, ρ, S, d, S', s, hm, q⟩ := q
  obtain ⟨x, S1, h1, hm⟩ := R.bind_ok hm
  obtain ⟨y, S2, h2, hm⟩ := R.bind_ok hm
  obtain ⟨d3, S3, h3, hm⟩ := R.bind_ok hm
  obtain ⟨k, S4, h4, hq⟩ := R.bind_ok hm
  obtain ⟨rfl, rfl⟩ := isB_ok h4
  refine ⟨g, w, o, ρ, S, x, S1, s, h1, fun vx g1 H1 x1 s1 r1 => ?_⟩
  have t1 := s.ext x1 s1
  refine ⟨g1, w, o, ρ, S1, y, S2, t1, h2, fun vy g2 H2 x2 s2 r2 => ?_⟩
  refine od g2 (w ++ o) H2 S2 x y _ _ vx vy _ s2 (RelD.ext x2 x vx r1) r2 h3 fun v3 g3 H3 x3 s3 r3 => ⟨k, r3, ?_⟩
  have t3 := (t1.ext x2 s2).ext x3 s3
  cases k with
  | true =>
    rw [if_pos rfl] at hq ⊢
    obtain ⟨z, S5, h5, hq⟩ := R.bind_ok hq
    refine ⟨g3, w, o, ρ, _, z, S5, t3, h5, fun vz g4 H4 x4 s4 r4 => ?_⟩
    exact od' g4 (w ++ o) H4 S5 y z d S' vy vz Q s4 (RelD.ext (x3.trans x4) y vy r2) r4 hq fun v g5 H5 x5 s5 r5 => q v g5 H5 ((((x1.trans x2).trans x3).trans x4).trans x5) s5 r5
  | false => cases hq; exact q _ g3 H3 ((x1.trans x2).trans x3) s3 rfl
theorem em_chain {op op' : CmpOp} {r r' : R2} {h h' : G2} (ho : OpR X (compareOp op) r) (od : OpD X.K r h) (ho' : OpR X (compareOp op') r') (od' : OpD X.K r' h') (ha : EM X a ma) (hb : EM X b mb) (hc : EM X c mc)
    (hm : lastMarks [op, op'] [b, c] = false := by with_unfolding_all rfl) : EM X (.Compare a [op, op'] [b, c] pos) (mChain h h' ma mb mc) := PE.of (pe_chain ho ho' ha hb hc hm) fun _ _ _ q => chain_of od od' q
theorem tm_chain {op op' : CmpOp} {r r' : R2} {h h' : G2} (ho : OpR X (compareOp op) r) (od : OpD X.K r h) (ho' : OpR X (compareOp op') r') (od' : OpD X.K r' h') (ha : EM X a ma) (hb : EM X b mb) (hc : EM X c mc)
    (hm : lastMarks [op, op'] [b, c] = false := by with_unfolding_all rfl) : TM X (.Compare a [op, op'] [b, c] pos) (mB (mChain h h' ma mb mc)) := tm_ofB (pt_chain ho ho' ha hb hc hm) fun _ _ _ q => chain_of od od' q

/-! ### arguments -/
def aNil : MA := fun _ S => .ok [] S
def aCons (m : ME) (r : MA) : MA := fun ρ S => (m ρ S).bind fun d S1 => (r ρ S1).bind fun ds S2 => .ok (d :: ds) S2
theorem am_nil : AM X [] aNil := PA.of pa_nil fun σ H Q ⟨g, w, o, ρ, S, ds, S', s, hm, q⟩ => by
  cases hm
  exact q [] g H .refl s.sto rfl
theorem am_cons (ha : EM X e me) (hr : AM X rest l) (hs : starEach (e :: rest) X.env = (false, eval e X.env) :: starEach rest X.env := by rfl) : AM X (e :: rest) (aCons me l) := PA.of (pa_cons ha hr hs) fun σ H Q ⟨g, w, o, ρ, S, ds, S', s, hm, q⟩ => by
  obtain ⟨d, S1, h1, hm⟩ := R.bind_ok hm
  obtain ⟨dr, S2, h2, hm⟩ := R.bind_ok hm
  cases hm
  refine ⟨g, w, o, ρ, S, d, S1, s, h1, fun v g1 H1 x1 s1 r1 => ?_⟩
  refine ⟨g1, w, o, ρ, S1, dr, _, s.ext x1 s1, h2, fun vs g2 H2 x2 s2 r2 => ?_⟩
  exact q (v :: vs) g2 H2 (x1.trans x2) s2 ⟨v, vs, rfl, RelD.ext x2 d v r1, r2⟩
end

section
variable {K : PySem.W.Frag} {g g' f : List Addr} {H : Hp}
theorem Ext.new {p : Addr} {u : HO} (h : H p = none) : Ext g H g (upd H p u) where
  more := ⟨[], by simp, fun _ h => nomatch h⟩
  keep := fun a u' e _ => by rw [upd_ne (ne_of_none e h)]; exact e
  live := fun a n => by
    by_cases e : a = p
    · subst e; rw [upd_same]; simp
    · rw [upd_ne e]; exact n
  tups := fun a vs r => by
    have e : a ≠ p := fun e => Rd.live r (e ▸ h)
    rcases r with r | ⟨ob, r⟩
    · exact .inl (by rw [upd_ne e]; exact r)
    · exact .inr ⟨ob, by rw [upd_ne e]; exact r⟩
  frz := fun a o u' e => by rw [upd_ne (ne_of_none e h)]; exact e
/-- the cells stand where what is new is none of them -/
theorem RelC.new {p a : Addr} {u : HO} (h : H p = none) : ∀ {c : Cell}, RelC K g f H a c → RelC K g f (upd H p u) a c
  | .lst l, ⟨vs, e, r⟩ => ⟨vs, by rw [upd_ne (ne_of_none e h)]; exact e, RelDs.ext (.new h) l vs r⟩
  | .dK l, ⟨vs, e, r⟩ => ⟨vs, by rw [upd_ne (ne_of_none e h)]; exact e, RelKv.ext (.new h) l vs r⟩
  | .dT l, ⟨vs, e, r, r'⟩ => ⟨vs, by rw [upd_ne (ne_of_none e h)]; exact e, RelKv.ext (.new h) _ _ r, RelKv.ext (.new h) _ _ r'⟩
  | .dF l, ⟨vs, ⟨ob, e⟩, r⟩ => ⟨vs, ⟨ob, by rw [upd_ne (ne_of_none e h)]; exact e⟩, RelKv.ext (.new h) l vs r⟩
  | .dG l, ⟨vs, ⟨ob, e⟩, r, r'⟩ => ⟨vs, ⟨ob, by rw [upd_ne (ne_of_none e h)]; exact e⟩, RelKv.ext (.new h) _ _ r, RelKv.ext (.new h) _ _ r'⟩
theorem RelS.new {S : Store} {p : Addr} {u : HO} (s : RelS K g f H S) (h : H p = none) : RelS K g f (upd H p u) S :=
  ⟨s.len, s.nod, fun n c a e1 e2 => (s.cel n c a e1 e2).new h⟩
theorem RelDs.length : ∀ {l : List D} {vs : List V}, RelDs K g f H l vs → l.length = vs.length
  | [], _, h => by cases h; rfl
  | d :: ds, _, ⟨v, r, e, _, t⟩ => by rw [e, List.length_cons, List.length_cons, RelDs.length t]
theorem RelDs.get : ∀ {l : List D} {vs : List V} {i : Nat} {d : D}, RelDs K g f H l vs → l[i]? = some d → ∃ v, vs[i]? = some v ∧ RelD K g f H d v
  | [], _, i, _, _, e => by simp at e
  | d :: ds, _, 0, _, ⟨v, r, e, q, _⟩, h => by
    simp at h; subst h; subst e
    exact ⟨v, rfl, q⟩
  | d :: ds, _, i + 1, _, ⟨v, r, e, _, t⟩, h => by
    subst e
    exact RelDs.get (i := i) t (by simpa using h)
theorem RelDs.append : ∀ {l m : List D} {vs us : List V}, RelDs K g f H l vs → RelDs K g f H m us → RelDs K g f H (l ++ m) (vs ++ us)
  | [], _, _, _, h, q => by cases h; exact q
  | d :: ds, _, _, _, ⟨v, r, e, h, t⟩, q => by
    subst e
    exact ⟨v, _, rfl, h, RelDs.append t q⟩
theorem RelDs.set : ∀ {l : List D} {vs : List V} {i : Nat} {d : D} {v : V}, RelDs K g f H l vs → RelD K g f H d v → RelDs K g f H (l.set i d) (vs.set i v)
  | [], _, _, _, _, h, _ => by cases h; rfl
  | x :: ds, _, 0, _, v, ⟨y, r, e, _, t⟩, q => by subst e; exact ⟨v, r, rfl, q, t⟩
  | x :: ds, _, i + 1, _, _, ⟨y, r, e, h, t⟩, q => by subst e; exact ⟨y, _, rfl, h, RelDs.set t q⟩
end

section
variable {X : Cx} {es : List Expr} {pos : Pos} {l : MA}
def mTup (l : MA) : ME := fun ρ S => (l ρ S).bind fun ds S1 => if ds.length ≤ sizeLine then .ok (.tup ds) S1 else .bad
theorem em_tup {x1} (h : AM X es l) : EM X (.Tuple es x1 pos) (mTup l) := PE.of (pe_tup h) fun σ H Q ⟨g, w, o, ρ, S, d, S', s, hm, q⟩ => by
  obtain ⟨ds, S1, h1, hm⟩ := R.bind_ok hm
  split at hm
  · rename_i hl
    cases hm
    refine ⟨g, w, o, ρ, S, ds, _, s, h1, fun vs g1 H1 x1 s1 r1 => ⟨by rw [← r1.length]; exact hl, fun p hp => ?_⟩⟩
    refine q _ g1 _ (x1.trans (.new hp)) (s1.new hp) ⟨p, vs, rfl, .inl (.inl upd_same), RelDs.ext (.new hp) ds vs r1⟩
  · cases hm

/-! ### what makes a new list -/
abbrev ML := MEnv → Store → R (List D)
end
section
variable {K : PySem.W.Frag} {g g' f : List Addr} {H : Hp} {p : Addr}
theorem RestL.fresh {a : Addr} {vs : List V} (hp : H p = none) (h : RestL g f H a vs) : RestL g (f ++ [p]) H a vs := by
  refine ⟨h.1, fun m => ?_, h.2.2⟩
  rcases List.mem_append.mp m with m | m
  · exact h.2.1 m
  · have e := h.2.2
    rw [List.mem_singleton.mp m, hp] at e
    cases e
theorem ScrL.fresh {a : Addr} {vs : List V} (hp : H p = none) (h : ScrL K g f H a vs) : ScrL K g (f ++ [p]) H a vs := by
  rcases h with ⟨h1, h2, h3⟩ | h
  · refine .inl ⟨h1, fun m => ?_, h3⟩
    rcases List.mem_append.mp m with m | m
    · exact h2 m
    · rw [List.mem_singleton.mp m] at h3
      exact Rd.live h3 hp
  · exact .inr h
theorem RestO.fresh {a : Addr} {v : HO} (hp : H p = none) (h : RestO g f H a v) : RestO g (f ++ [p]) H a v := by
  refine ⟨h.1, fun m => ?_, h.2.2⟩
  rcases List.mem_append.mp m with m | m
  · exact h.2.1 m
  · have e := h.2.2
    rw [List.mem_singleton.mp m, hp] at e
    cases e
theorem RestO.toG {a : Addr} {v : HO} (h : RestO g (f ++ [p]) H a v) : RestO (g ++ [p]) f H a v := by
  refine ⟨fun m => ?_, fun m => h.2.1 (List.mem_append_left _ m), h.2.2⟩
  rcases List.mem_append.mp m with m | m
  · exact h.1 m
  · exact h.2.1 (List.mem_append_right _ m)
theorem RestL.toG {a : Addr} {vs : List V} (h : RestL g (f ++ [p]) H a vs) : RestL (g ++ [p]) f H a vs := by
  refine ⟨fun m => ?_, fun m => h.2.1 (List.mem_append_left _ m), h.2.2⟩
  rcases List.mem_append.mp m with m | m
  · exact h.1 m
  · exact h.2.1 (List.mem_append_right _ m)
theorem ScrL.toG {a : Addr} {vs : List V} (h : ScrL K g (f ++ [p]) H a vs) : ScrL K (g ++ [p]) f H a vs := by
  rcases h with ⟨h1, h2, h3⟩ | h
  · refine .inl ⟨fun m => ?_, fun m => h2 (List.mem_append_left _ m), h3⟩
    rcases List.mem_append.mp m with m | m
    · exact h1 m
    · exact h2 (List.mem_append_right _ m)
  · exact .inr h
theorem get_more {n : Nat} {a : Addr} (h : g[n]? = some a) : (g ++ [p])[n]? = some a := by
  have hl : n < g.length := by
    rcases Nat.lt_or_ge n g.length with q | q
    · exact q
    · rw [List.getElem?_eq_none q] at h; cases h
  rw [List.getElem?_append_left hl]
  exact h
mutual
theorem RelD.fresh (hp : H p = none) : ∀ (d : D) (v : V), RelD K g f H d v → RelD K g (f ++ [p]) H d v
  | .non, _, h => h
  | .bl _, _, h => h
  | .int _, _, h => h
  | .str _, _, h => h
  | .raw _, _, h => h
  | .tup l, _, ⟨a, vs, e, q, r⟩ => ⟨a, vs, e, q, RelDs.fresh hp l vs r⟩
  | .lst l, _, ⟨a, vs, e, q, r⟩ => ⟨a, vs, e, q.fresh hp, RelDs.fresh hp l vs r⟩
  | .loc n, _, h => h
  | .scr l, _, ⟨a, e, q⟩ => ⟨a, e, q.fresh hp⟩
  | .ex c n d, _, ⟨a, C, dd, y, e, k, q1, q2, r⟩ => ⟨a, C, dd, y, e, k, q1.fresh hp, q2.fresh hp, RelD.fresh hp d y r⟩
theorem RelDs.fresh (hp : H p = none) : ∀ (l : List D) (vs : List V), RelDs K g f H l vs → RelDs K g (f ++ [p]) H l vs
  | [], _, h => h
  | d :: ds, _, ⟨v, r, e, q, t⟩ => ⟨v, r, e, RelD.fresh hp d v q, RelDs.fresh hp ds r t⟩
end
mutual
theorem RelD.toG : ∀ (d : D) (v : V), RelD K g (f ++ [p]) H d v → RelD K (g ++ [p]) f H d v
  | .non, _, h => h
  | .bl _, _, h => h
  | .int _, _, h => h
  | .str _, _, h => h
  | .raw _, _, h => h
  | .tup l, _, ⟨a, vs, e, q, r⟩ => ⟨a, vs, e, q, RelDs.toG l vs r⟩
  | .lst l, _, ⟨a, vs, e, q, r⟩ => ⟨a, vs, e, q.toG, RelDs.toG l vs r⟩
  | .loc n, _, ⟨a, e, q⟩ => ⟨a, e, get_more q⟩
  | .scr l, _, ⟨a, e, q⟩ => ⟨a, e, q.toG⟩
  | .ex c n d, _, ⟨a, C, dd, y, e, k, q1, q2, r⟩ => ⟨a, C, dd, y, e, k, q1.toG, q2.toG, RelD.toG d y r⟩
theorem RelDs.toG : ∀ (l : List D) (vs : List V), RelDs K g (f ++ [p]) H l vs → RelDs K (g ++ [p]) f H l vs
  | [], _, h => h
  | d :: ds, _, ⟨v, r, e, q, t⟩ => ⟨v, r, e, RelD.toG d v q, RelDs.toG ds r t⟩
end
theorem RelKv.fresh {κ : Type} (hp : H p = none) : ∀ (l : List (κ × D)) (vs : List (κ × V)), RelKv K g f H l vs → RelKv K g (f ++ [p]) H l vs
  | [], _, h => h
  | d :: ds, _, ⟨v, r, e, q, t⟩ => ⟨v, r, e, RelD.fresh hp d.2 v q, RelKv.fresh hp ds r t⟩
theorem RelKv.toG {κ : Type} : ∀ (l : List (κ × D)) (vs : List (κ × V)), RelKv K g (f ++ [p]) H l vs → RelKv K (g ++ [p]) f H l vs
  | [], _, h => h
  | d :: ds, _, ⟨v, r, e, q, t⟩ => ⟨v, r, e, RelD.toG d.2 v q, RelKv.toG ds r t⟩
theorem RelC.fresh {a : Addr} (hp : H p = none) : ∀ {c : Cell}, RelC K g f H a c → RelC K g (f ++ [p]) H a c
  | .lst l, ⟨vs, e, r⟩ => ⟨vs, e, RelDs.fresh hp l vs r⟩
  | .dK l, ⟨vs, e, r⟩ => ⟨vs, e, RelKv.fresh hp l vs r⟩
  | .dT l, ⟨vs, e, r, r'⟩ => ⟨vs, e, RelKv.fresh hp _ _ r, RelKv.fresh hp _ _ r'⟩
  | .dF l, ⟨vs, e, r⟩ => ⟨vs, e, RelKv.fresh hp l vs r⟩
  | .dG l, ⟨vs, e, r, r'⟩ => ⟨vs, e, RelKv.fresh hp _ _ r, RelKv.fresh hp _ _ r'⟩
theorem RelC.toG {a : Addr} : ∀ {c : Cell}, RelC K g (f ++ [p]) H a c → RelC K (g ++ [p]) f H a c
  | .lst l, ⟨vs, e, r⟩ => ⟨vs, e, RelDs.toG l vs r⟩
  | .dK l, ⟨vs, e, r⟩ => ⟨vs, e, RelKv.toG l vs r⟩
  | .dT l, ⟨vs, e, r, r'⟩ => ⟨vs, e, RelKv.toG _ _ r, RelKv.toG _ _ r'⟩
  | .dF l, ⟨vs, e, r⟩ => ⟨vs, e, RelKv.toG l vs r⟩
  | .dG l, ⟨vs, e, r, r'⟩ => ⟨vs, e, RelKv.toG _ _ r, RelKv.toG _ _ r'⟩
theorem RelS.fresh {S : Store} (hp : H p = none) (s : RelS K g f H S) : RelS K g (f ++ [p]) H S := ⟨s.len, s.nod, fun n c a e1 e2 => (s.cel n c a e1 e2).fresh hp⟩
theorem RelS.addG {S : Store} {c : Cell} (s : RelS K g (f ++ [p]) H S) (hn : p ∉ g) (r : RelC K g (f ++ [p]) H p c) : RelS K (g ++ [p]) f H (S ++ [c]) where
  len := by rw [List.length_append, List.length_append, s.len]; rfl
  nod := List.nodup_append.mpr ⟨s.nod, by simp, fun a ha b hb e => by rw [List.mem_singleton.mp hb] at e; exact hn (e ▸ ha)⟩
  cel := fun n d a e1 e2 => by
    rcases Nat.lt_or_ge n S.length with q | q
    · rw [List.getElem?_append_left q] at e1
      rw [List.getElem?_append_left (by rw [s.len]; exact q)] at e2
      exact (s.cel n d a e1 e2).toG
    · rw [List.getElem?_append_right q] at e1
      rw [List.getElem?_append_right (by rw [s.len]; exact q)] at e2
      have z : n - S.length = 0 := by
        rcases Nat.eq_zero_or_pos (n - S.length) with z | z
        · exact z
        · rw [List.getElem?_eq_none (by simp only [List.length_singleton]; omega)] at e1; cases e1
      rw [z] at e1
      rw [s.len, z] at e2
      cases e1; cases e2
      exact r.toG
end
section
variable {X : Cx} {es : List Expr} {pos : Pos} {l : MA}
/-- the new list's place is none of the cells and is forbidden to all else -/
def FinN (K : PySem.W.Frag) (g f : List Addr) (H : Hp) (l : List D) (S' : Store) (Q : VK) : Prop :=
  ∀ p vs g' H', Ext g H g' H' → H p = none → p ∉ g' → H' p = some (.lst vs) → RelS K g' (f ++ [p]) H' S' → RelDs K g' (f ++ [p]) H' l vs → Q (.ref p) H'
def tN (K : PySem.W.Frag) (m : ML) : TE := fun σ H Q => ∃ g w o ρ S l S', Sta K g w o ρ S σ H ∧ m ρ S = .ok l S' ∧ FinN K g (w ++ o) H l S' Q
def NM (X : Cx) (e : Expr) (m : ML) : Prop := PE X e (tN X.K m)
theorem Sta.noF {K : PySem.W.Frag} {g w o : List Addr} {ρ : MEnv} {S : Store} {σ : L2.St} {H : Hp} (s : Sta K g w o ρ S σ H) {p : Addr} (h : H p = none) : p ∉ w ++ o := fun m => s.liv p m h
theorem RelS.noG {K : PySem.W.Frag} {g f : List Addr} {S : Store} {H : Hp} (s : RelS K g f H S) {p : Addr} (h : H p = none) : p ∉ g := fun m => s.live m h
theorem sub_app {f : List Addr} {p : Addr} : ∀ b ∈ f, b ∈ f ++ [p] := fun _ h => List.mem_append_left _ h
/-- .. as a value -/
def mLst (m : ML) : ME := fun ρ S => (m ρ S).bind fun ds S1 => .ok (.lst ds) S1
theorem em_new {e : Expr} {m : ML} (h : NM X e m) : EM X e (mLst m) := PE.of h fun σ H Q ⟨g, w, o, ρ, S, d, S', s, hm, q⟩ => by
  obtain ⟨ds, S1, h1, hm⟩ := R.bind_ok hm
  cases hm
  exact ⟨g, w, o, ρ, S, ds, _, s, h1, fun p vs g1 H1 x1 hp n1 e1 s1 r1 => q _ g1 H1 x1 (s1.less sub_app) ⟨p, vs, rfl, ⟨n1, s.noF hp, e1⟩, RelDs.less sub_app _ _ r1⟩⟩
/-- .. as a cell of the store -/
def mLoc (m : ML) : ME := fun ρ S => (m ρ S).bind fun ds S1 => .ok (.loc S1.length) (S1 ++ [.lst ds])
theorem em_loc {e : Expr} {m : ML} (h : NM X e m) : EM X e (mLoc m) := PE.of h fun σ H Q ⟨g, w, o, ρ, S, d, S', s, hm, q⟩ => by
  obtain ⟨ds, S1, h1, hm⟩ := R.bind_ok hm
  cases hm
  refine ⟨g, w, o, ρ, S, ds, _, s, h1, fun p vs g1 H1 x1 hp n1 e1 s1 r1 => ?_⟩
  obtain ⟨ns, eg, hns⟩ := x1.more
  have x2 : Ext g H (g1 ++ [p]) H1 := ⟨⟨ns ++ [p], by rw [eg, List.append_assoc], fun b hb => by
    rcases List.mem_append.mp hb with z | z
    · exact hns b z
    · rw [List.mem_singleton.mp z]; exact hp⟩, x1.keep, x1.live, x1.tups, x1.frz⟩
  exact q _ _ H1 x2 (s1.addG n1 ⟨vs, e1, r1⟩) ⟨p, rfl, by rw [← s1.len]; exact List.getElem?_concat_length⟩
/-- name = a new list, its own -/
def mOwnL (i : Nat) (m : ML) : MS := fun ρ S => (m ρ S).bind fun ds S1 => .ok (.nx (ρ.set i (some (.own (.lst ds))))) S1
theorem Sta.setOwn {K : PySem.W.Frag} {g g' w o : List Addr} {ρ : MEnv} {S S' : Store} {σ : L2.St} {H H' : Hp} {i : Nat} {p : Addr} {c : Cell} (s : Sta K g w o ρ S σ H) (x : Ext g H g' H') (hp : H p = none) (hn : p ∉ g')
    (t : RelS K g' ((w ++ o) ++ [p]) H' S') (r : RelC K g' ((w ++ o) ++ [p]) H' p c) : Sta K g' w (o ++ [p]) (ρ.set i (some (.own c))) S' (σ.set i (some (.ref p))) H' := by
  have ea : w ++ (o ++ [p]) = (w ++ o) ++ [p] := (List.append_assoc w o [p]).symm
  have hpo : p ∉ w ++ o := s.noF hp
  have neP : ∀ {j : Nat} {c : Cell} {b : Addr}, ρ[j]? = some (some (.own c)) → σ[j]? = some (some (V.ref b)) → b ≠ p := fun {j c b} h1 h2 e => by
    obtain ⟨a, e1, m, _⟩ := s.own j c h1
    rw [h2] at e1; cases e1
    exact hpo (List.mem_append_right _ (e ▸ m))
  have lt_of : ∀ {u : Slot} {d : Option Slot}, (ρ.set i (some u))[i]? = some d → i < ρ.length := fun {u d} h => by
    rcases Nat.lt_or_ge i ρ.length with q | q
    · exact q
    · rw [List.getElem?_eq_none (by rw [List.length_set]; exact q)] at h; cases h
  refine ⟨by rw [List.length_set, List.length_set]; exact s.len, fun j d h => ?_, fun j d h => ?_, fun j k d e a h1 h2 h3 h4 => ?_, fun a ha => ?_, fun a ha => ?_, by rw [ea]; exact t⟩
  · by_cases hj : i = j
    · subst hj
      rw [List.getElem?_set_self (lt_of h)] at h
      cases h
    · rw [List.getElem?_set_ne hj] at h ⊢
      obtain ⟨v, e1, r1⟩ := s.val j d h
      exact ⟨v, e1, by rw [ea]; exact RelD.ext x d v (RelD.fresh hp d v r1)⟩
  · by_cases hj : i = j
    · subst hj
      have hl := lt_of h
      rw [List.getElem?_set_self hl] at h
      cases h
      exact ⟨p, List.getElem?_set_self (by rw [← s.len]; exact hl), by simp, by rw [ea]; exact r⟩
    · rw [List.getElem?_set_ne hj] at h ⊢
      obtain ⟨a, e1, m, r1⟩ := s.own j d h
      exact ⟨a, e1, List.mem_append_left _ m, by rw [ea]; exact (r1.fresh hp).ext x (s.out a m).1⟩
  · by_cases hj : i = j
    · subst hj
      have hl := lt_of h1
      rw [List.getElem?_set_self (by rw [← s.len]; exact hl)] at h3
      cases h3
      by_cases hk : i = k
      · exact hk
      · rw [List.getElem?_set_ne hk] at h2 h4
        exact absurd rfl (neP h2 h4)
    · rw [List.getElem?_set_ne hj] at h1 h3
      by_cases hk : i = k
      · subst hk
        have hl := lt_of h2
        rw [List.getElem?_set_self (by rw [← s.len]; exact hl)] at h4
        cases h4
        exact absurd rfl (neP h1 h3)
      · rw [List.getElem?_set_ne hk] at h2 h4
        exact s.inj j k d e a h1 h2 h3 h4
  · rcases List.mem_append.mp ha with m | m
    · exact ⟨x.out (s.out a m).1 (s.liv a (List.mem_append_right _ m)), (s.out a m).2⟩
    · rw [List.mem_singleton.mp m]
      exact ⟨hn, fun z => hpo (List.mem_append_left _ z)⟩
  · rw [ea] at ha
    rcases List.mem_append.mp ha with m | m
    · exact x.live a (s.liv a m)
    · rw [List.mem_singleton.mp m]
      exact r.live
theorem ExtS.own {g g' o : List Addr} {H H' : Hp} {p : Addr} (x : Ext g H g' H') (hp : H p = none) : ExtS g o H g' (o ++ [p]) H' := ⟨x.more, fun a u h n _ => x.keep a u h n, x.live, x.tups, x.frz, fun a h => by
  rcases List.mem_append.mp h with m | m
  · exact .inl m
  · rw [List.mem_singleton.mp m]; exact .inr hp⟩
theorem sm_own {st : Stmt} {i : Nat} {m : ML} (h : PS X st (tAsg (tN X.K m) (gName i))) : SM X st (mOwnL i m) := PS.of h fun E σ H ⟨g, w, o, ρ, S, fl, S', s, hm, q⟩ => by
  obtain ⟨d, S1, e1, hm⟩ := R.bind_ok hm
  cases hm
  exact ⟨g, w, o, ρ, S, d, _, s, e1, fun p vs g1 H1 x1 hp n1 e1 s1 r1 => q g1 (o ++ [p]) H1 (.own x1 hp) _ (s.setOwn x1 hp n1 s1 ⟨vs, e1, r1⟩)⟩
/-- [a, b, ..] -/
def mDisp (l : MA) : ML := fun ρ S => (l ρ S).bind fun ds S1 => if ds.length ≤ sizeLine then .ok ds S1 else .bad
theorem nm_lst (h : AM X es l) : NM X (.List es pos) (mDisp l) := PE.of (pe_lst h) fun σ H Q ⟨g, w, o, ρ, S, d, S', s, hm, q⟩ => by
  obtain ⟨ds, S1, h1, hm⟩ := R.bind_ok hm
  split at hm
  · rename_i hl
    cases hm
    refine ⟨g, w, o, ρ, S, _, _, s, h1, fun vs g1 H1 x1 s1 r1 => ⟨by rw [← r1.length]; exact hl, fun p hp => ?_⟩⟩
    have hH : H p = none := by
      cases e : H p with
      | none => rfl
      | some u => exact absurd hp (x1.live p (by rw [e]; simp))
    exact q p vs g1 _ (x1.trans (.new hp)) hH (s1.noG hp) upd_same ((s1.fresh hp).new hp) (RelDs.ext (.new hp) _ _ (RelDs.fresh hp _ _ r1))
  · cases hm
end
end Mo
set_option maxRecDepth 100000
set_option maxHeartbeats 1000000
/-! Mo: calls and defs. -/
namespace Mo
open PySem PySem.Spec PyProof.Rows L2

/-- a def's meaning -/
abbrev MF := List D → Store → R D
def spM (K : PySem.W.Frag) (n : Nat) (m : MF) : Sp := fun vs H Q _ => vs.length = n ∧ ∃ g f ds S d S', (∀ a ∈ f, H a ≠ none) ∧ RelS K g f H S ∧ RelDs K g f H ds vs ∧ m ds S = .ok d S' ∧ FinE K g f H d S' Q

/-- a def keeps its promise wherever nothing is being shown (repr) -/
structure FnG (P : Program) (w : World) (K : PySem.W.Frag) (mg : Str → Option Value) (base : Heap) (CX : CXT) (k : Nat) (a : Addr) (fd : FuncData) (ps : List Str) (sp : Sp) : Prop where
  many : ∀ vs H Q E, sp vs H Q E → vs.length = ps.length
  go : ∀ (A : Around) (out : List Env) (s : Shared) (H : Hp) (ar : Args) (us : List Value) (vs : List V) (Q : VK) (E : XK),
    A.guards = some [] → Room k A → Env0 P w K mg base A out s H → BindsTo s fd ar (ps.zip us) → Vals vs us → sp vs H Q E →
      codeAny (model P w) A (.call (.ref a) ar) (CR CX out P w H s Q E) s

section
variable {X : Cx} {CX : CXT} {k n : Nat} {a : Addr} {fd : FuncData} {ps : List Str} {sp : Sp} {E : XK}
theorem FnG.run {pins : List (Addr × Obj)} {σ : L2.St} {H : Hp} {s : Shared} {Q : VK} {us : List Value} {vs : List V} {kw : List (Str × Value)} {all : List Value} (F : FnG X.prog X.w X.K X.mg X.base CX k a fd ps sp)
    (hg : X.A.guards = some []) (hr : Room k X.A) (hb : all.length = ps.length → BindsTo s fd ⟨us, kw⟩ (ps.zip all)) (hx : Passes CX X E) (I : Inv X pins σ H s) (r : Vals vs all) (h : sp vs H Q E) :
    wpAny (model X.prog X.w) X.A (call (.ref a) us kw) (EP X pins σ Q) X.xe s := by
  have hl : all.length = ps.length := r.length ▸ F.many _ _ _ _ h
  refine wpAny_call ?_
  refine codeAny_mono (F.go X.A X.stack s H _ all vs Q E hg hr I.env0 (hb hl) r h) ?_
  intro q s' hq
  match q, hq with
  | .error e, hq => exact hx pins σ H s e s' I hq
  | .ok (.ret u), hq => exact I.after hq
  | .ok .next, hq => exact hq.elim
  | .ok .brk, hq => exact hq.elim
  | .ok .cont, hq => exact hq.elim

/-- the meaning of a call: the written arguments, the defaults -/
def mCall (m : MF) (n : Nat) (dv : List D) (l : MA) : ME := fun ρ S => (l ρ S).bind fun ds S1 => if (ds ++ dv).length = n then m (ds ++ dv) S1 else .bad
theorem call_of {m : MF} {dv : List D} {dvs : List V} {l : MA} {σ : L2.St} {H : Hp} {Q : VK} {E : XK} (hd : ∀ K g f H, RelDs K g f H dv dvs) (q : tE X.K (mCall m n dv l) σ H Q) : tCall (spM X.K n m) dvs E (tA X.K l) σ H Q := by
  obtain ⟨g, w, o, ρ, S, d, S', s, hm, q⟩ := q
  obtain ⟨ds, S1, h1, hm⟩ := R.bind_ok hm
  split at hm
  · rename_i hl
    refine ⟨g, w, o, ρ, S, ds, S1, s, h1, fun vs g1 H1 x1 s1 r1 => ?_⟩
    have r2 := RelDs.append r1 (hd X.K g1 (w ++ o) H1)
    refine ⟨by rw [← r2.length]; exact hl, g1, w ++ o, ds ++ dv, S1, d, S', fun b hb => x1.live b (s.liv b hb), s1, r2, hm, fun v g2 H2 x2 s2 r3 => q v g2 H2 (x1.trans x2) s2 r3⟩
  · cases hm
variable {x : Str} {p pos : Pos} {e : Expr} {es : List Expr} {l : MA} {m : MF} {dv : List D} {dvs : List V} {dws : List Value}
/-- f(e, ..) -/
theorem em_call (F : FnG X.prog X.w X.K X.mg X.base CX0 k a fd ps (spM X.K n m)) (hgd : X.A.guards = some []) (hr : Room k X.A) (hg : Gl X x) (hm : X.mg x = some (.ref a)) (hk : PySem.W.keepIn X.K (.ref a) = true) (hb : Binds X.K fd ps dws) (hd : Vals dvs dws)
    (hdd : ∀ K g f H, RelDs K g f H dv dvs) (ha : AM X (e :: es) l) (hdb : (x == ("__debug__" : Str)) = false := by decide) (he : starEach (e :: es) X.env = (false, eval e X.env) :: starEach es X.env := by rfl)
    (hpl : (backTo pos (starEach es X.env)).any (·.1) = false := by rfl) : EM X (.Call (.Name x p) (e :: es) [] pos) (mCall m n dv l) := by
  refine ⟨fun pins s σ H Q I h => ?_⟩
  have h := call_of (E := E0) hdd h
  refine wpAny_Call_Name_kw (ld_glob I hg hm (PySem.W.callWith_K (h₀ := X.base) I.ok.mod.kin hk ?_ he hpl) hdb)
  refine thn (PA.run ha pos pins s σ H _ I h) fun us s1 ⟨vs, H1, I1, r, q⟩ => ⟨I1.kIn, ?_⟩
  exact F.run hgd hr (hb s1 us I1.kIn) pass0 I1 (r.append hd) q
theorem em_call0 (F : FnG X.prog X.w X.K X.mg X.base CX0 k a fd ps (spM X.K n m)) (hgd : X.A.guards = some []) (hr : Room k X.A) (hg : Gl X x) (hm : X.mg x = some (.ref a)) (hk : PySem.W.keepIn X.K (.ref a) = true) (hb : Binds X.K fd ps dws) (hd : Vals dvs dws)
    (hdd : ∀ K g f H, RelDs K g f H dv dvs) (hdb : (x == ("__debug__" : Str)) = false := by decide) : EM X (.Call (.Name x p) [] [] pos) (mCall m n dv aNil) := by
  refine ⟨fun pins s σ H Q I h => ?_⟩
  obtain ⟨g, w, o, ρ, S, d, S', s1, hq, q⟩ := h
  refine wpAny_Call_Name_kw (ld_glob I hg hm (PySem.W.callWith_K0 I.kIn hk ?_) hdb)
  have hq : (if dv.length = n then m dv S else .bad) = .ok d S' := hq
  split at hq
  · rename_i hl
    have r2 := hdd X.K g (w ++ o) H
    exact F.run (vs := dvs) (us := []) hgd hr (hb s [] I.kIn) pass0 I hd ⟨by rw [← r2.length]; exact hl, g, w ++ o, dv, S, d, S', s1.liv, s1.sto, r2, hq, q⟩
  · cases hq
/-- keywords' values, from the left -/
def KM (X : Cx) (kws : List Keyword) (m : MA) : Prop := PK X kws (tA X.K m)
theorem PK.of {kws : List Keyword} {t t' : TA} (h : PK X kws t) (i : ∀ σ H Q, t' σ H Q → t σ H Q) : PK X kws t' := ⟨fun pos pins s σ H Q I q => h.run pos pins s σ H Q I (i σ H Q q)⟩
theorem km_nil : KM X [] aNil := PK.of pk_nil fun σ H Q ⟨g, w, o, ρ, S, ds, S', s, hm, q⟩ => by
  cases hm
  exact q [] g H .refl s.sto rfl
theorem km_cons {kws : List Keyword} {nm : Option Str} {kpos : Pos} {me : ME} (ha : EM X e me) (hr : KM X kws l) : KM X (⟨nm, e, kpos⟩ :: kws) (aCons me l) := PK.of (pk_cons ha hr) fun σ H Q ⟨g, w, o, ρ, S, ds, S', s, hm, q⟩ => by
  obtain ⟨d, S1, h1, hm⟩ := R.bind_ok hm
  obtain ⟨dr, S2, h2, hm⟩ := R.bind_ok hm
  cases hm
  refine ⟨g, w, o, ρ, S, d, S1, s, h1, fun v g1 H1 x1 s1 r1 => ?_⟩
  refine ⟨g1, w, o, ρ, S1, dr, _, s.ext x1 s1, h2, fun vs g2 H2 x2 s2 r2 => ?_⟩
  exact q (v :: vs) g2 H2 (x1.trans x2) s2 ⟨v, vs, rfl, RelD.ext x2 d v r1, r2⟩
/-- how names bind: the places that the positional values and the keywords' ones take -/
structure Mix (fd : FuncData) (ps ks : List Str) (np : Nat) (pick : ∀ {α : Type}, List α → List α → List α) : Prop where
  to : ∀ us ws : List Value, us.length = np → ws.length = ks.length → bindArgs fd ⟨us, ks.zip ws⟩ = pure (ps.zip (pick us ws))
  map : ∀ (vs zs : List V) (us ws : List Value), Vals vs us → Vals zs ws → us.length = np → ws.length = ks.length → Vals (pick vs zs) (pick us ws)
  rel : ∀ (K : PySem.W.Frag) (g f : List Addr) (H : Hp) (ds es : List D) (vs zs : List V), RelDs K g f H ds vs → RelDs K g f H es zs → ds.length = np → es.length = ks.length → RelDs K g f H (pick ds es) (pick vs zs)
def mCallK (m : MF) (n np nk : Nat) (pick : List D → List D → List D) (l lk : MA) : ME := fun ρ S => (l ρ S).bind fun ds S1 => (lk ρ S1).bind fun es S2 =>
  if ds.length = np ∧ es.length = nk ∧ (pick ds es).length = n then m (pick ds es) S2 else .bad
variable {kws : List Keyword} {ks : List Str} {lk : MA} {np : Nat} {pick : ∀ {α : Type}, List α → List α → List α}
theorem em_callK (F : FnG X.prog X.w X.K X.mg X.base CX0 k a fd ps (spM X.K n m)) (hgd : X.A.guards = some []) (hr : Room k X.A) (hg : Gl X x) (hm : X.mg x = some (.ref a)) (hk : PySem.W.keepIn X.K (.ref a) = true) (hb : Mix fd ps ks np pick)
    (ha : AM X (e :: es) l) (hkw : KM X kws lk) (hall : (backToKw pos (keywordEach kws X.env)).all (·.1.isSome) = true := by rfl) (hks : (backToKw pos (keywordEach kws X.env)).filterMap (·.1) = ks := by rfl)
    (hdb : (x == ("__debug__" : Str)) = false := by decide) (he : starEach (e :: es) X.env = (false, eval e X.env) :: starEach es X.env := by rfl)
    (hpl : ((backTo pos (starEach (e :: es) X.env)).any (·.1) || (backToKw pos (keywordEach kws X.env)).any (·.1.isNone)) = false := by rfl) :
    EM X (.Call (.Name x p) (e :: es) kws pos) (mCallK m n np ks.length pick l lk) := by
  refine ⟨fun pins s σ H Q I ⟨g, w, o, ρ, S, d, S', st, hq, q⟩ => ?_⟩
  obtain ⟨ds, S1, h1, hq⟩ := R.bind_ok hq
  obtain ⟨ds2, S2, h2, hq⟩ := R.bind_ok hq
  split at hq
  · rename_i hl
    obtain ⟨l1, l2, l3⟩ := hl
    refine wpAny_Call_Name_kw (ld_glob I hg hm (PySem.W.callWith_KW (h₀ := X.base) I.ok.mod.kin hk hall ?_ hpl he) hdb)
    refine thn (PA.run ha pos pins s σ H _ I ⟨g, w, o, ρ, S, ds, S1, st, h1, fun vs g1 H1 x1 s1 r1 => (⟨g1, H1, rfl, x1, s1, r1⟩ : ∃ g1 H2, H1 = H2 ∧ Ext g H g1 H2 ∧ RelS X.K g1 (w ++ o) H2 S1 ∧ RelDs X.K g1 (w ++ o) H2 ds vs)⟩) fun us s1 ⟨vs, H1, I1, r, g1, H1', e1, x1, t1, r1⟩ => ?_
    subst e1
    refine thn (PK.run hkw pos pins s1 σ H1 _ I1 ⟨g1, w, o, ρ, S1, ds2, S2, st.ext x1 t1, h2, fun zs g2 H2 x2 s2 r2 => (⟨g2, H2, rfl, x2, s2, r2⟩ : ∃ g2 H3, H2 = H3 ∧ Ext g1 H1 g2 H3 ∧ RelS X.K g2 (w ++ o) H3 S2 ∧ RelDs X.K g2 (w ++ o) H3 ds2 zs)⟩) fun ws s2 ⟨zs, H2, I2, rz, g2, H2', e2, x2, t2, r2⟩ => ⟨I2.kIn, ?_⟩
    subst e2
    rw [hks]
    have u1 : us.length = np := by rw [← r.length, ← r1.length]; exact l1
    have u2 : ws.length = ks.length := by rw [← rz.length, ← r2.length]; exact l2
    have rr := hb.rel X.K g2 (w ++ o) H2 ds ds2 vs zs (RelDs.ext x2 ds vs r1) r2 l1 l2
    refine F.run hgd hr (fun _ => .of_eq (hb.to us ws u1 u2)) pass0 I2 (hb.map vs zs us ws r rz u1 u2) ⟨by rw [← rr.length]; exact l3, g2, w ++ o, pick ds ds2, S2, d, S', fun b hbm => x2.live b (x1.live b (st.liv b hbm)), t2, rr, hq, ?_⟩
    exact fun v g3 H3 x3 s3 r3 => q v g3 H3 ((x1.trans x2).trans x3) s3 r3
  · cases hq
theorem em_callK0 (F : FnG X.prog X.w X.K X.mg X.base CX0 k a fd ps (spM X.K n m)) (hgd : X.A.guards = some []) (hr : Room k X.A) (hg : Gl X x) (hm : X.mg x = some (.ref a)) (hk : PySem.W.keepIn X.K (.ref a) = true) (hb : Mix fd ps ks 0 pick)
    (hkw : KM X kws lk) (hall : (backToKw pos (keywordEach kws X.env)).all (·.1.isSome) = true := by rfl) (hks : (backToKw pos (keywordEach kws X.env)).filterMap (·.1) = ks := by rfl)
    (hdb : (x == ("__debug__" : Str)) = false := by decide) (hpl : ((backTo pos (starEach [] X.env)).any (·.1) || (backToKw pos (keywordEach kws X.env)).any (·.1.isNone)) = false := by rfl) :
    EM X (.Call (.Name x p) [] kws pos) (mCallK m n 0 ks.length pick aNil lk) := by
  refine ⟨fun pins s σ H Q I ⟨g, w, o, ρ, S, d, S', st, hq, q⟩ => ?_⟩
  obtain ⟨ds, S1, h1, hq⟩ := R.bind_ok hq
  cases h1
  obtain ⟨ds2, S2, h2, hq⟩ := R.bind_ok hq
  split at hq
  · rename_i hl
    obtain ⟨l1, l2, l3⟩ := hl
    refine wpAny_Call_Name_kw (ld_glob I hg hm (PySem.W.callWith_KW0 (h₀ := X.base) I.ok.mod.kin hk hall ?_ hpl) hdb)
    refine thn (PK.run hkw pos pins s σ H _ I ⟨g, w, o, ρ, _, ds2, S2, st, h2, fun zs g2 H2 x2 s2 r2 => (⟨g2, H2, rfl, x2, s2, r2⟩ : ∃ g2 H3, H2 = H3 ∧ Ext g H g2 H3 ∧ RelS X.K g2 (w ++ o) H3 S2 ∧ RelDs X.K g2 (w ++ o) H3 ds2 zs)⟩) fun ws s2 ⟨zs, H2, I2, rz, g2, H2', e2, x2, t2, r2⟩ => ⟨I2.kIn, ?_⟩
    subst e2
    rw [hks]
    have u2 : ws.length = ks.length := by rw [← rz.length, ← r2.length]; exact l2
    have rr := hb.rel X.K g2 (w ++ o) H2 [] ds2 [] zs rfl r2 rfl l2
    refine F.run (us := []) hgd hr (fun _ => .of_eq (hb.to [] ws rfl u2)) pass0 I2 (hb.map [] zs [] ws .nil rz rfl u2) ⟨by rw [← rr.length]; exact l3, g2, w ++ o, pick [] ds2, S2, d, S', fun b hbm => x2.live b (st.liv b hbm), t2, rr, hq, ?_⟩
    exact fun v g3 H3 x3 s3 r3 => q v g3 H3 (x2.trans x3) s3 r3
  · cases hq
end

/-! ### defs -/
/-- the meaning of a def by its body's: N names, the parameters ahead -/
def mDef (N : Nat) (b : MS) : MF := fun ds S => (b (ds.map (fun d => some (.val d)) ++ List.replicate (N - ds.length) none) S).bind fun fl S1 => match fl with
  | .rt d => .ok d S1
  | .nx _ => .ok .non S1
  | _ => .bad
theorem start_get {ds : List D} {n i : Nat} {d : Slot} (h : (ds.map (fun d => some (Slot.val d)) ++ List.replicate n none)[i]? = some (some d)) : ∃ e, ds[i]? = some e ∧ d = .val e := by
  rcases Nat.lt_or_ge i ds.length with q | q
  · rw [List.getElem?_append_left (by simpa using q), List.getElem?_map] at h
    cases e : ds[i]? with
    | none => rw [e] at h; cases h
    | some x => rw [e] at h; cases h; exact ⟨x, rfl, rfl⟩
  · rw [List.getElem?_append_right (by simpa using q)] at h
    rw [List.getElem?_replicate] at h
    split at h <;> cases h
theorem Sta.start {K : PySem.W.Frag} {g f : List Addr} {ds : List D} {S : Store} {H : Hp} {N : List Str} {vs : List V} (hf : ∀ a ∈ f, H a ≠ none) (s : RelS K g f H S) (r : RelDs K g f H ds vs) :
    Sta K g f [] (ds.map (fun d => some (.val d)) ++ List.replicate (N.length - ds.length) none) S (L2.start N vs) H where
  len := by
    unfold L2.start
    rw [List.length_append, List.length_append, List.length_map, List.length_map, List.length_replicate, List.length_replicate, r.length]
  val := fun i d h => by
    obtain ⟨e, h1, h2⟩ := start_get h
    cases h2
    obtain ⟨v, e1, q⟩ := r.get h1
    refine ⟨v, ?_, by rw [List.append_nil]; exact q⟩
    unfold L2.start
    have hl : i < vs.length := by
      rcases Nat.lt_or_ge i vs.length with z | z
      · exact z
      · rw [List.getElem?_eq_none z] at e1; cases e1
    rw [List.getElem?_append_left (by simpa using hl), List.getElem?_map, e1]
    rfl
  own := fun i c h => by
    obtain ⟨e, h1, h2⟩ := start_get h
    cases h2
  inj := fun i j c d a h _ _ _ => by
    obtain ⟨e, h1, h2⟩ := start_get h
    cases h2
  out := fun a h => nomatch h
  liv := fun a h => by rw [List.append_nil] at h; exact hf a h
  sto := by rw [List.append_nil]; exact s

section
variable {P : Program} {w : World} {K : PySem.W.Frag} {mg : Str → Option Value} {base : Heap}
theorem def_start {N ps : List Str} {b : MS} {X : Cx} {body : List Stmt} {Q : VK} {E : XK} {vs : List V} {H : Hp} (hX : X.K = K) (hb : SsM X body b) (h : spM K ps.length (mDef N.length b) vs H Q E) :
    ∃ t, PSs X body t ∧ t { nx := fun _ H' => Q .non H', rt := Q } (start N vs) H := by
  subst hX
  obtain ⟨hl, g, f, ds, S, d, S', hf, s, r, hm, q⟩ := h
  obtain ⟨fl, S1, h1, hm⟩ := R.bind_ok hm
  refine ⟨_, hb, g, f, [], _, S, fl, S1, Sta.start hf s r, h1, fun g1 o1 H1 x1 => ?_⟩
  cases fl with
  | rt v => cases hm; exact fun v t rr => q v g1 H1 x1.ext t rr
  | nx ρ => cases hm; exact fun σ st => q .non g1 H1 x1.ext (st.sto.less fun b hb => List.mem_append_left _ hb) rfl
  | bk ρ => cases hm
  | ct ρ => cases hm
/-- THE RULE for a def -/
theorem def_ok {x qual : Str} {st : Stmt} {a : Addr} {fd : FuncData} {N ps : List Str} {k : Nat} {b : MS} (F : Fun K x qual st a fd) (S : FnScope N ps (defScope st))
    (hb : ∀ (cdv : Value) (A : Around) (out : List Env) (s : Shared) (H : Hp) (E : XK), (A.deeper (envOfC qual (defScope st) s.heap.objs.size a cdv)).guards = some [] → Room k (A.deeper (envOfC qual (defScope st) s.heap.objs.size a cdv)) →
      SsM (cxOf CX0 P w K mg base N qual (defScope st) a cdv A out s H E).nox (defBody st) b) : FnG P w K mg base CX0 (k + 1) a fd ps (spM K ps.length (mDef N.length b)) := by
  refine ⟨fun vs H Q E h => h.1, ?_⟩
  intro A out s H ar us vs Q E hgd hr e0 hbi rv hsp
  obtain ⟨oc, od, kV, doc, pm, an, cdv, ct, osl, rfl, lk, hcd⟩ := F.ex
  have hl : vs.length = ps.length := hsp.1
  have hK : K.In s.heap := e0.mod.kin.keeps fun b o e => (e0.bs b o e).1
  have hlim : s.heap.NoLimit := e0.mod.nolimit.keeps fun b o e => (e0.bs b o e).1
  refine codeAny_call_function hr.depth (hK _ _ lk) rfl S.co S.gen rfl (PySem.W.codeRec_of hK hcd) (hbi _ _ _ _ ?_)
  have kinds : ∀ y ∈ ps.zip us, (defScope st).names.lookup y.1 = some .local ∨ ((defScope st).names.lookup y.1 = some .cell ∧ ((cellsFrom (s.heap.objs.size + 1) (defScope st).names []).lookup y.1).isSome = true) := by
    rintro ⟨nm, v⟩ hy
    exact (S.par nm (List.of_mem_zip hy).1).imp id fun q => ⟨q, PySem.W.cellsFrom_some _ _ _ (.inl q)⟩
  refine wpAny_newFunctionEnv_cells S.kind kinds fun en hen s1 ic => ?_
  subst hen
  refine ⟨hlim.keeps ic.toInCall.keep, codeAny_func ?_⟩
  obtain ⟨t, ht, hq⟩ := def_start (N := N) (ps := ps) (K := K) rfl (hb cdv A out s H E hgd (hr.deeper _)) hsp
  have I := inv_start (CX := CX0) (mg := mg) (E := E) S hr.hd e0 hl rv ic
  refine wpAny_mono ((PSs.nox ht).run [] s1 (start N vs) H _ I hq) (fun fl s' hs => ?_) fun _ _ q => q
  match fl, hs with
  | .ret u, ⟨v, σ', H', J, rr, q⟩ => exact ⟨v, H', J.os, J.bare, J.base, J.hok, rr, q⟩
  | .next, ⟨σ', H', J, q⟩ => exact ⟨V.non, H', J.os, J.bare, J.base, J.hok, rfl, q⟩
  | .brk, ⟨_, _, _, q⟩ => exact q.elim
  | .cont, ⟨_, _, _, q⟩ => exact q.elim
end
end Mo
set_option maxRecDepth 100000
set_option maxHeartbeats 1000000
/-! Mo: targets, loops, comprehensions. -/
namespace Mo
open PySem PySem.Spec PyProof.Rows L2

/-! ### targets -/
inductive Pat where
  | nm (i : Nat)
  | tp (ps : List Pat)
mutual
def Pat.bind : Pat → D → Option (List (Nat × D))
  | .nm i, d => some [(i, d)]
  | .tp ps, .tup l => Pat.binds ps l
  | .tp _, _ => none
def Pat.binds : List Pat → List D → Option (List (Nat × D))
  | [], [] => some []
  | p :: ps, d :: ds => match Pat.bind p d, Pat.binds ps ds with
    | some a, some b => some (a ++ b)
    | _, _ => none
  | [], _ :: _ => none
  | _ :: _, [] => none
end
mutual
def Pat.ixs : Pat → List Nat
  | .nm i => [i]
  | .tp ps => Pat.ixsAll ps
def Pat.ixsAll : List Pat → List Nat
  | [] => []
  | p :: ps => Pat.ixs p ++ Pat.ixsAll ps
end
mutual
theorem Pat.bind_ixs : ∀ (p : Pat) (d : D) (l : List (Nat × D)), p.bind d = some l → l.map (·.1) = p.ixs
  | .nm i, d, l, h => by unfold Pat.bind at h; cases h; simp [Pat.ixs]
  | .tp ps, d, l, h => by
    cases d <;> unfold Pat.bind at h <;> first | cases h; done | skip
    unfold Pat.ixs
    exact Pat.binds_ixs ps _ l h
theorem Pat.binds_ixs : ∀ (ps : List Pat) (ds : List D) (l : List (Nat × D)), Pat.binds ps ds = some l → l.map (·.1) = Pat.ixsAll ps
  | [], [], l, h => by unfold Pat.binds at h; cases h; simp [Pat.ixsAll]
  | p :: ps, d :: ds, l, h => by
    unfold Pat.binds at h
    split at h
    · rename_i a b ha hb
      cases h
      rw [List.map_append, Pat.bind_ixs p d a ha, Pat.binds_ixs ps ds b hb]
      rw [Pat.ixsAll]
    · cases h
  | [], _ :: _, l, h => by unfold Pat.binds at h; cases h
  | _ :: _, [], l, h => by unfold Pat.binds at h; cases h
end
def setA {α : Type} (f : α → Option β) (σ : List (Option β)) : List (Nat × α) → List (Option β)
  | [] => σ
  | (i, x) :: r => setA f (σ.set i (f x)) r
abbrev setV (σ : L2.St) (l : List (Nat × V)) : L2.St := setA some σ l
abbrev setD (ρ : MEnv) (l : List (Nat × D)) : MEnv := setA (fun d => some (.val d)) ρ l
theorem setA_append {α β : Type} (f : α → Option β) : ∀ (σ : List (Option β)) (l m : List (Nat × α)), setA f σ (l ++ m) = setA f (setA f σ l) m
  | _, [], _ => rfl
  | σ, (i, x) :: r, m => setA_append f (σ.set i (f x)) r m

/-- to each slot its value -/
def RelIx (K : PySem.W.Frag) (g f : List Addr) (H : Hp) : List (Nat × D) → List (Nat × V) → Prop
  | [], vs => vs = []
  | p :: ps, vs => ∃ v r, vs = (p.1, v) :: r ∧ RelD K g f H p.2 v ∧ RelIx K g f H ps r
theorem RelIx.append {K : PySem.W.Frag} {g f : List Addr} {H : Hp} : ∀ {l m : List (Nat × D)} {vs us : List (Nat × V)}, RelIx K g f H l vs → RelIx K g f H m us → RelIx K g f H (l ++ m) (vs ++ us)
  | [], _, _, _, h, q => by cases h; exact q
  | p :: ps, _, _, _, ⟨v, r, e, h, t⟩, q => by
    subst e
    exact ⟨v, _, rfl, h, RelIx.append t q⟩
theorem RelIx.fst {K : PySem.W.Frag} {g f : List Addr} {H : Hp} : ∀ {l : List (Nat × D)} {vs : List (Nat × V)}, RelIx K g f H l vs → vs.map (·.1) = l.map (·.1)
  | [], _, h => by cases h; rfl
  | p :: ps, _, ⟨v, r, e, _, t⟩ => by subst e; rw [List.map_cons, List.map_cons, RelIx.fst t]
theorem Sta.setA {K : PySem.W.Frag} {g w o : List Addr} {S : Store} {H : Hp} : ∀ {l : List (Nat × D)} {vs : List (Nat × V)} {ρ : MEnv} {σ : L2.St}, Sta K g w o ρ S σ H → RelIx K g (w ++ o) H l vs → Sta K g w o (setD ρ l) S (setV σ vs) H
  | [], _, _, _, s, h => by cases h; exact s
  | (i, d) :: ps, _, ρ, σ, s, ⟨v, r, e, h, t⟩ => by
    subst e
    exact Sta.setA (ρ := ρ.set i (some (.val d))) (σ := σ.set i (some v)) (s.set h) t
def tG (K : PySem.W.Frag) (p : Pat) : TG := fun v σ H Q => ∃ g f d l, RelD K g f H d v ∧ p.bind d = some l ∧ ∀ vs, RelIx K g f H l vs → Q (setV σ vs) H
def tGs (K : PySem.W.Frag) (ps : List Pat) : TGs := fun vs σ H Q => ∃ g f ds l, RelDs K g f H ds vs ∧ Pat.binds ps ds = some l ∧ ∀ us, RelIx K g f H l us → Q (setV σ us) H
def GM (X : Cx) (tg : Expr) (p : Pat) : Prop := PG X tg (tG X.K p)
def GsM (X : Cx) (tgs : List Expr) (ps : List Pat) : Prop := PGs X tgs (tGs X.K ps)
section
variable {X : Cx} {tg e iter : Expr} {tgs body : List Expr} {p : Pat} {ps : List Pat} {pos : Pos}
theorem PG.of {t t' : TG} (h : PG X tg t) (i : ∀ v σ H Q, t' v σ H Q → t v σ H Q) : PG X tg t' := ⟨fun pins s σ H v u Q I r q => h.run pins s σ H v u Q I r (i v σ H Q q)⟩
theorem PGs.of {t t' : TGs} (h : PGs X tgs t) (i : ∀ v σ H Q, t' v σ H Q → t v σ H Q) : PGs X tgs t' := ⟨fun pins s σ H v u Q I r q => h.run pins s σ H v u Q I r (i v σ H Q q)⟩
theorem gm_name {i : Nat} (h : PG X tg (gName i)) : GM X tg (.nm i) := PG.of h fun v σ H Q ⟨g, f, d, l, r, hb, q⟩ => by
  unfold Pat.bind at hb
  cases hb
  exact q [(i, v)] ⟨v, [], rfl, r, rfl⟩
theorem gsm_nil : GsM X [] [] := PGs.of pgs_nil fun vs σ H Q ⟨g, f, ds, l, r, hb, q⟩ => by
  cases ds with
  | nil =>
    unfold Pat.binds at hb
    cases hb
    cases r
    exact ⟨rfl, q [] rfl⟩
  | cons d ds => unfold Pat.binds at hb; cases hb
theorem gsm_cons (h1 : GM X tg p) (h2 : GsM X tgs ps) (hs : (assignEach (tg :: tgs) X.env).map (·.2) = assign tg X.env :: (assignEach tgs X.env).map (·.2) := by rfl) : GsM X (tg :: tgs) (p :: ps) := PGs.of (pgs_cons h1 h2 hs) fun vs σ H Q ⟨g, f, ds, l, r, hb, q⟩ => by
  cases ds with
  | nil => unfold Pat.binds at hb; cases hb
  | cons d ds =>
    obtain ⟨v, rr, e, r1, r2⟩ := r
    unfold Pat.binds at hb
    split at hb
    · rename_i a b ha hb'
      cases hb
      refine ⟨v, rr, e, g, f, d, a, r1, ha, fun us1 ru1 => ⟨g, f, ds, b, r2, hb', fun us2 ru2 => ?_⟩⟩
      have := q (us1 ++ us2) (ru1.append ru2)
      unfold setV at this
      rw [setA_append] at this
      exact this
    · cases hb
theorem gm_tup {k : Nat} (hc : X.calm = true) (h : GsM X tgs ps) (hn : (assignEach tgs X.env).length = ps.length := by rfl) (hst : (assignEach tgs X.env).findIdx? (·.1) = none := by rfl) : GM X (.Tuple tgs k pos) (.tp ps) := PG.of (pg_tup hc h hn hst) fun v σ H Q ⟨g, f, d, l, r, hb, q⟩ => by
  cases d <;> unfold Pat.bind at hb <;> first | cases hb; done | skip
  rename_i ds
  obtain ⟨a, vs, e, hq, rd⟩ := r
  refine ⟨a, vs, e, hq, ?_, g, f, ds, l, rd, hb, q⟩
  rw [← rd.length]
  have len : ∀ (ps : List Pat) (ds : List D) (l : List (Nat × D)), Pat.binds ps ds = some l → ds.length = ps.length := by
    intro ps
    induction ps with
    | nil => intro ds l h; cases ds with
      | nil => rfl
      | cons _ _ => unfold Pat.binds at h; cases h
    | cons p ps ih => intro ds l h; cases ds with
      | nil => unfold Pat.binds at h; cases h
      | cons d ds =>
        unfold Pat.binds at h
        split at h
        · rename_i b ha hb
          rw [List.length_cons, List.length_cons, ih ds _ hb]
        · cases h
  exact len ps ds l hb
/-- target = e -/
def mAsg (p : Pat) (m : ME) : MS := fun ρ S => (m ρ S).bind fun d S1 => match p.bind d with
  | some l => .ok (.nx (setD ρ l)) S1
  | none => .bad
theorem sm_asg {st : Stmt} {me : ME} (h : PS X st (tAsg (tE X.K me) (tG X.K p))) : SM X st (mAsg p me) := PS.of h fun E σ H ⟨g, w, o, ρ, S, fl, S', s, hm, q⟩ => by
  obtain ⟨d, S1, e1, hm⟩ := R.bind_ok hm
  split at hm
  · rename_i l hl
    cases hm
    exact ⟨g, w, o, ρ, S, d, _, s, e1, fun v g1 H1 x1 s1 r1 => ⟨g1, w ++ o, d, l, r1, hl, fun vs rv => q g1 o H1 x1.s _ ((s.ext x1 s1).setA rv)⟩⟩
  · cases hm
end

/-! ### what is walked -/
section
variable {K : PySem.W.Frag} {g g' g1 w o o1 f : List Addr} {H H' H1 : Hp}
theorem ExtS.out (x : ExtS g o H g' o1 H') {a : Addr} (h1 : a ∉ g) (h3 : H a ≠ none) : a ∉ g' := by
  obtain ⟨ns, e, h⟩ := x.more
  rw [e]
  intro q
  rcases List.mem_append.mp q with q | q
  · exact h1 q
  · exact h3 (h a q)
theorem RestL.extS {a : Addr} {vs : List V} (x : ExtS g o H g' o1 H') (h : RestL g (w ++ o) H a vs) : RestL g' (w ++ o1) H' a vs := by
  have hl : H a ≠ none := by rw [h.2.2]; simp
  have ho : a ∉ o := fun m => h.2.1 (List.mem_append_right _ m)
  refine ⟨x.out h.1 hl, fun m => ?_, x.keep a _ h.2.2 h.1 ho⟩
  rcases List.mem_append.mp m with m | m
  · exact h.2.1 (List.mem_append_left _ m)
  · exact (x.lam a m).elim ho hl
theorem RestO.extS {a : Addr} {v : HO} (x : ExtS g o H g' o1 H') (h : RestO g (w ++ o) H a v) : RestO g' (w ++ o1) H' a v := by
  have hl : H a ≠ none := by rw [h.2.2]; simp
  have ho : a ∉ o := fun m => h.2.1 (List.mem_append_right _ m)
  refine ⟨x.out h.1 hl, fun m => ?_, x.keep a _ h.2.2 h.1 ho⟩
  rcases List.mem_append.mp m with m | m
  · exact h.2.1 (List.mem_append_left _ m)
  · exact (x.lam a m).elim ho hl
theorem ScrL.extS {a : Addr} {vs : List V} (x : ExtS g o H g' o1 H') (h : ScrL K g (w ++ o) H a vs) : ScrL K g' (w ++ o1) H' a vs := by
  rcases h with ⟨h1, h2, h3⟩ | h
  · have ho : a ∉ o := fun m => h2 (List.mem_append_right _ m)
    have kp : ∀ u, H a = some u → H' a = some u := fun u e => x.keep a u e h1 ho
    refine .inl ⟨x.out h1 (Rd.live h3), fun m => ?_, ?_⟩
    · rcases List.mem_append.mp m with m | m
      · exact h2 (List.mem_append_left _ m)
      · rcases x.lam a m with z | z
        · exact ho z
        · exact Rd.live h3 z
    · rcases h3 with h3 | ⟨ob, h3⟩
      · exact .inl (kp _ h3)
      · exact .inr ⟨ob, kp _ h3⟩
  · exact .inr h
theorem ExtS.get (x : ExtS g o H g' o1 H') {n : Nat} {a : Addr} (h : g[n]? = some a) : g'[n]? = some a := by
  obtain ⟨ns, e, _⟩ := x.more
  have hl : n < g.length := by
    rcases Nat.lt_or_ge n g.length with q | q
    · exact q
    · rw [List.getElem?_eq_none q] at h; cases h
  rw [e, List.getElem?_append_left hl]
  exact h
theorem SqT.extS {a : Addr} {vs : List V} (x : ExtS g o H g' o1 H') (h : SqT K H a vs) : SqT K H' a vs := by
  rcases h with h | h
  · exact .inl (x.tups a vs h)
  · exact .inr h
mutual
theorem RelD.extS (x : ExtS g o H g' o1 H') : ∀ (d : D) (v : V), RelD K g (w ++ o) H d v → RelD K g' (w ++ o1) H' d v
  | .non, _, h => h
  | .bl _, _, h => h
  | .int _, _, h => h
  | .str _, _, h => h
  | .raw _, _, h => h
  | .tup l, _, ⟨a, vs, e, q, r⟩ => ⟨a, vs, e, SqT.extS x q, RelDs.extS x l vs r⟩
  | .lst l, _, ⟨a, vs, e, q, r⟩ => ⟨a, vs, e, q.extS x, RelDs.extS x l vs r⟩
  | .loc n, _, ⟨a, e, q⟩ => ⟨a, e, x.get q⟩
  | .scr l, _, ⟨a, e, q⟩ => ⟨a, e, q.extS x⟩
  | .ex c n d, _, ⟨a, C, dd, y, e, k, q1, q2, r⟩ => ⟨a, C, dd, y, e, k, q1.extS x, q2.extS x, RelD.extS x d y r⟩
theorem RelDs.extS (x : ExtS g o H g' o1 H') : ∀ (l : List D) (vs : List V), RelDs K g (w ++ o) H l vs → RelDs K g' (w ++ o1) H' l vs
  | [], _, h => h
  | d :: ds, _, ⟨v, r, e, q, t⟩ => ⟨v, r, e, RelD.extS x d v q, RelDs.extS x ds r t⟩
end
/-- a later heap in which nothing that stood has changed -/
def Grow (K : PySem.W.Frag) (g : List Addr) (H H' : Hp) : Prop := Ext g H g H' ∧ ∀ f S, RelS K g f H S → RelS K g f H' S
theorem Grow.refl : Grow K g H H := ⟨.refl, fun _ _ h => h⟩
theorem Grow.new {p : Addr} {u : HO} (h : H p = none) : Grow K g H (upd H p u) := ⟨.new h, fun _ _ s => s.new h⟩
/-- the iterator gives the items of l, in order, whatever is done between -/
structure Walks (K : PySem.W.Frag) (g w o : List Addr) (H : Hp) (J : It) (l : List D) : Prop where
  item : ∀ i d g1 o1 H1, l[i]? = some d → ExtS g o H g1 o1 H1 → J.go i H1 ∧ ∀ x H2, J.yld i H1 x H2 → Grow K g1 H1 H2 ∧ RelD K g1 (w ++ o1) H2 d x
  stop : ∀ i g1 o1 H1, l.length ≤ i → ExtS g o H g1 o1 H1 → J.stop i H1
def tI (K : PySem.W.Frag) (m : ML) : TI := fun σ H R => ∃ g w o ρ S l S', Sta K g w o ρ S σ H ∧ m ρ S = .ok l S' ∧
  ∀ g' H' J, Ext g H g' H' → RelS K g' (w ++ o) H' S' → Walks K g' w o H' J l → R J H'
def IM (X : Cx) (tg iter : Expr) (m : ML) : Prop := PI X tg iter (tI X.K m)
end
section
variable {X : Cx} {tg iter e c : Expr} {p : Pat} {pos : Pos} {me : ME} {ml : ML} {mb : MS} {mc mt : MT} {body : List Stmt}
theorem PI.of {t t' : TI} (h : PI X tg iter t) (i : ∀ σ H Q, t' σ H Q → t σ H Q) : PI X tg iter t' := ⟨fun pins s σ H Q I q => h.run pins s σ H Q I (i σ H Q q)⟩
theorem lt_of_get {α : Type} {l : List α} {i : Nat} {x : α} (h : l[i]? = some x) : i < l.length := by
  rcases Nat.lt_or_ge i l.length with q | q
  · exact q
  · rw [List.getElem?_eq_none q] at h; cases h
/-- the items of a list that rests, of a tuple -/
def seqD : D → Store → R (List D)
  | .lst l, S => .ok l S
  | _, _ => .bad
def tupD : D → Store → R (List D)
  | .tup l, S => .ok l S
  | _, _ => .bad
theorem seqD_ok {d : D} {S S' : Store} {l : List D} (h : seqD d S = .ok l S') : d = .lst l ∧ S' = S := by cases d <;> cases h; exact ⟨rfl, rfl⟩
theorem tupD_ok {d : D} {S S' : Store} {l : List D} (h : tupD d S = .ok l S') : d = .tup l ∧ S' = S := by cases d <;> cases h; exact ⟨rfl, rfl⟩
def iLst (m : ME) : ML := fun ρ S => (m ρ S).bind seqD
def iTup (m : ME) : ML := fun ρ S => (m ρ S).bind tupD
theorem Walks.list {K : PySem.W.Frag} {g w o : List Addr} {H : Hp} {a : Addr} {vs : List V} {l : List D} (hr : RestL g (w ++ o) H a vs) (r : RelDs K g (w ++ o) H l vs) : Walks K g w o H (Itl K a) l where
  item := fun i d g1 o1 H1 h x => by
    have q := hr.extS x
    have r1 := RelDs.extS x l vs r
    obtain ⟨v, e, rv⟩ := r1.get h
    refine ⟨⟨vs, v, q.sq, e⟩, fun y H2 ⟨e2, hy⟩ => ?_⟩
    subst e2
    have := hy vs q.sq
    rw [e] at this
    cases this
    exact ⟨.refl, rv⟩
  stop := fun i g1 o1 H1 h x => ⟨vs, (hr.extS x).sq, by rw [← r.length]; exact h⟩
theorem Walks.tuple {K : PySem.W.Frag} {g w o : List Addr} {H : Hp} {a : Addr} {vs : List V} {l : List D} (hr : SqT K H a vs) (r : RelDs K g (w ++ o) H l vs) : Walks K g w o H (Itt K a) l where
  item := fun i d g1 o1 H1 h x => by
    have q := SqT.extS x hr
    have r1 := RelDs.extS x l vs r
    obtain ⟨v, e, rv⟩ := r1.get h
    refine ⟨⟨vs, v, q, e⟩, fun y H2 ⟨e2, hy⟩ => ?_⟩
    subst e2
    have := hy vs q
    rw [e] at this
    cases this
    exact ⟨.refl, rv⟩
  stop := fun i g1 o1 H1 h x => ⟨vs, SqT.extS x hr, by rw [← r.length]; exact h⟩
theorem im_list (h : EM X iter me) : IM X tg iter (iLst me) := PI.of (pi_list h) fun σ H Rr ⟨g, w, o, ρ, S, l, S', s, hm, q⟩ => by
  obtain ⟨d, S1, h1, h2⟩ := R.bind_ok hm
  obtain ⟨rfl, rfl⟩ := seqD_ok h2
  refine ⟨g, w, o, ρ, S, _, _, s, h1, fun v g1 H1 x1 s1 ⟨a, vs, e, hr, r⟩ => ⟨a, e, ⟨vs, hr.sq⟩, q g1 H1 _ x1 s1 (.list hr r)⟩⟩
theorem im_tup (h : EM X iter me) : IM X tg iter (iTup me) := PI.of (pi_tup h) fun σ H Rr ⟨g, w, o, ρ, S, l, S', s, hm, q⟩ => by
  obtain ⟨d, S1, h1, h2⟩ := R.bind_ok hm
  obtain ⟨rfl, rfl⟩ := tupD_ok h2
  refine ⟨g, w, o, ρ, S, _, _, s, h1, fun v g1 H1 x1 s1 ⟨a, vs, e, hr, r⟩ => ⟨a, e, ⟨vs, hr⟩, q g1 H1 _ x1 s1 (.tuple hr r)⟩⟩
/-- range -/
def rangeD (lo hi : Int) : List D := (List.range (hi - lo).toNat).map fun k => .int (lo + (k : Nat))
theorem Walks.range {K : PySem.W.Frag} {g w o : List Addr} {H : Hp} {lo : Int} {n : Nat} : Walks K g w o H (Itr lo n) ((List.range n).map fun k => .int (lo + (k : Nat))) where
  item := fun i d g1 o1 H1 h x => by
    have hi : i < n := by have := lt_of_get h; simpa using this
    refine ⟨hi, fun y H2 ⟨e2, hy⟩ => ?_⟩
    subst e2; subst hy
    rw [List.getElem?_map, List.getElem?_range hi] at h
    cases h
    exact ⟨.refl, rfl⟩
  stop := fun i g1 o1 H1 h x => by
    have : n ≤ i := by simpa using h
    exact this
def iRange1 (l : MA) : ML := fun ρ S => (l ρ S).bind fun ds S1 => match ds with
  | [.int j] => if -(2 ^ 62) ≤ j ∧ j < 2 ^ 62 then .ok (rangeD 0 j) S1 else .bad
  | _ => .bad
def iRange2 (l : MA) : ML := fun ρ S => (l ρ S).bind fun ds S1 => match ds with
  | [.int i, .int j] => if -(2 ^ 62) ≤ i ∧ i < 2 ^ 62 ∧ -(2 ^ 62) ≤ j ∧ j < 2 ^ 62 then .ok (rangeD i j) S1 else .bad
  | _ => .bad
theorem im_range1 {a : Expr} {l : MA} {p : Pos} (hg : Gl X "range") (hm : X.mg "range" = none) (ha : AM X [a] l) (hs : starEach [a] X.env = [(false, eval a X.env)] := by rfl) : IM X tg (.Call (.Name "range" p) [a] [] pos) (iRange1 l) :=
  PI.of (pi_range1 hg hm ha hs) fun σ H Rr ⟨g, w, o, ρ, S, l, S', s, hm, q⟩ => by
    obtain ⟨ds, S1, h1, h2⟩ := R.bind_ok hm
    split at h2
    · rename_i j
      split at h2
      · rename_i hj
        cases h2
        refine ⟨g, w, o, ρ, S, _, _, s, h1, fun vs g1 H1 x1 s1 ⟨v, r, e, rv, rn⟩ => ⟨j, ?_, hj.1, hj.2, q g1 H1 _ x1 s1 ?_⟩⟩
        · rw [e]; cases rv; cases rn; rfl
        · unfold rangeD; rw [Int.sub_zero]; exact .range
      · cases h2
    · cases h2
theorem im_range2 {a b : Expr} {l : MA} {p : Pos} (hg : Gl X "range") (hm : X.mg "range" = none) (ha : AM X [a, b] l) (hs : starEach [a, b] X.env = [(false, eval a X.env), (false, eval b X.env)] := by rfl)
    (hs2 : starEach [b] X.env = [(false, eval b X.env)] := by rfl) : IM X tg (.Call (.Name "range" p) [a, b] [] pos) (iRange2 l) :=
  PI.of (pi_range2 hg hm ha hs hs2) fun σ H Rr ⟨g, w, o, ρ, S, l, S', s, hm, q⟩ => by
    obtain ⟨ds, S1, h1, h2⟩ := R.bind_ok hm
    split at h2
    · rename_i i j
      split at h2
      · rename_i hj
        cases h2
        refine ⟨g, w, o, ρ, S, _, _, s, h1, fun vs g1 H1 x1 s1 ⟨v, r, e, rv, v2, r2, e2, rv2, rn⟩ => ⟨i, j, ?_, hj, q g1 H1 _ x1 s1 .range⟩⟩
        rw [e]; cases rv; subst e2; cases rv2; cases rn; rfl
      · cases h2
    · cases h2

/-! ### for -/
def mForL (p : Pat) (mb : MS) : List D → MS
  | [], ρ, S => .ok (.nx ρ) S
  | d :: ds, ρ, S => match p.bind d with
    | none => .bad
    | some l => (mb (setD ρ l) S).bind fun fl S1 => match fl with
      | .nx ρ1 => mForL p mb ds ρ1 S1
      | .ct ρ1 => mForL p mb ds ρ1 S1
      | .bk ρ1 => .ok (.nx ρ1) S1
      | .rt d => .ok (.rt d) S1
def mFor (p : Pat) (it : ML) (mb : MS) : MS := fun ρ S => (it ρ S).bind fun l S1 => mForL p mb l ρ S1
theorem sm_for (hp : PassesOwn (model X.prog X.w) X.A X.env X.xe) (hc : X.calm = true) (hi : IM X tg iter ml) (hg : GM X tg p) (hb : SsM X body mb) (hs : ∀ x, foldedSetIterable iter X.env x = pure x := by intro _; rfl) :
    SM X (.For tg iter body [] pos) (mFor p ml mb) := PS.of (ps_for hp hc hi hg hb hs) fun E σ H ⟨g, w, o, ρ, S, fl, S', s, hm, q⟩ => by
  obtain ⟨l, S1, h1, hm⟩ := R.bind_ok hm
  refine ⟨g, w, o, ρ, S, l, S1, s, h1, fun g1 H1 J x1 s1 wk => ?_⟩
  refine ⟨fun i m σ2 H2 => m = l.length - i ∧ i ≤ l.length ∧ ∃ g2 o2 ρ2 S2 fl S', ExtS g1 o H1 g2 o2 H2 ∧ Sta X.K g2 w o2 ρ2 S2 σ2 H2 ∧ mForL p mb (l.drop i) ρ2 S2 = .ok fl S' ∧ FinS X.K g2 w o2 H2 fl S' E,
    ⟨l.length, by simp, Nat.zero_le _, g1, o, ρ, S1, fl, S', .refl, s.ext x1 s1, by simpa using hm, q.after x1.s⟩, ?_⟩
  rintro i m σ2 H2 ⟨rfl, hi, g2, o2, ρ2, S2, fl, S', x2, s2, hm, q⟩
  by_cases hlt : i < l.length
  · have hd : l.drop i = l[i] :: l.drop (i + 1) := List.drop_eq_getElem_cons hlt
    have hget : l[i]? = some l[i] := List.getElem?_eq_getElem hlt
    obtain ⟨go, yl⟩ := wk.item i l[i] g2 o2 H2 hget x2
    rw [hd] at hm
    unfold mForL at hm
    split at hm
    · cases hm
    rename_i bl hbl
    obtain ⟨f3, S3, h3, hm⟩ := R.bind_ok hm
    refine .inr ⟨go, fun σ3 H3 => ∃ g3 o3 ρ3 S3 fl S', ExtS g1 o H1 g3 o3 H3 ∧ Sta X.K g3 w o3 ρ3 S3 σ3 H3 ∧ mForL p mb (l.drop (i + 1)) ρ3 S3 = .ok fl S' ∧ FinS X.K g3 w o3 H3 fl S' E, fun σ' H' n => ⟨l.length - (i + 1), by omega, rfl, hlt, n⟩, fun x H3 hy => ?_⟩
    obtain ⟨⟨x3, t3⟩, rx⟩ := yl x H3 hy
    have s3 : Sta X.K g2 w o2 ρ2 S2 σ2 H3 := s2.ext x3 (t3 _ _ s2.sto)
    refine ⟨g2, w ++ o2, l[i], bl, rx, hbl, fun vs rv => ?_⟩
    refine ⟨g2, w, o2, _, S2, f3, S3, s3.setA rv, h3, fun g4 o4 H4 x4 => ?_⟩
    have x24 := x3.s.trans x4
    cases f3 with
    | nx ρ1 => exact fun σ' st => ⟨g4, o4, ρ1, S3, fl, S', x2.trans x24, st, hm, q.after x24⟩
    | ct ρ1 => exact fun σ' st => ⟨g4, o4, ρ1, S3, fl, S', x2.trans x24, st, hm, q.after x24⟩
    | bk ρ1 => cases hm; exact q g4 o4 H4 x24
    | rt d => cases hm; exact q g4 o4 H4 x24
  · have e : i = l.length := by omega
    subst e
    rw [List.drop_length] at hm
    cases hm
    exact .inl ⟨wk.stop _ g2 o2 H2 (Nat.le_refl _) x2, q g2 o2 H2 .refl σ2 s2⟩

/-! ### while -/
def mWhileN (c : MT) (b : MS) : Nat → MS
  | 0, _, _ => .bad
  | n + 1, ρ, S => (c ρ S).bind fun k S1 => if k = true then (b ρ S1).bind fun fl S2 => match fl with
      | .nx ρ1 => mWhileN c b n ρ1 S2
      | .ct ρ1 => mWhileN c b n ρ1 S2
      | .bk ρ1 => .ok (.nx ρ1) S2
      | .rt d => .ok (.rt d) S2
    else .ok (.nx ρ) S1
/-- more turns than any loop here takes -/
def manyTurns : Nat := 2 ^ 64
def mWhile (c : MT) (b : MS) : MS := mWhileN c b manyTurns
theorem mWhileN_more {c : MT} {b : MS} {fl : Fl} {S' : Store} : ∀ {n m : Nat} {ρ : MEnv} {S : Store}, n ≤ m → mWhileN c b n ρ S = .ok fl S' → mWhileN c b m ρ S = .ok fl S'
  | 0, _, _, _, _, h => by cases h
  | n + 1, 0, _, _, hl, _ => by omega
  | n + 1, m + 1, ρ, S, hl, h => by
    unfold mWhileN at h ⊢
    obtain ⟨k, S1, h1, h2⟩ := R.bind_ok h
    rw [h1]
    show (if k = true then _ else _) = _
    cases k with
    | false => exact h2
    | true =>
      rw [if_pos rfl] at h2 ⊢
      obtain ⟨f2, S2, h3, h4⟩ := R.bind_ok h2
      rw [h3]
      cases f2 with
      | nx ρ1 => exact mWhileN_more (by omega) h4
      | ct ρ1 => exact mWhileN_more (by omega) h4
      | bk ρ1 => exact h4
      | rt d => exact h4
theorem sm_while (hp : PassesOwn (model X.prog X.w) X.A X.env X.xe) (hc : TM X c mc) (hb : SsM X body mb) : SM X (.While c body [] pos) (mWhile mc mb) := PS.of (ps_while hp hc hb) fun E σ H ⟨g, w, o, ρ, S, fl, S', s, hm, q⟩ => by
  refine ⟨fun n σ2 H2 => ∃ g2 o2 ρ2 S2 fl S', ExtS g o H g2 o2 H2 ∧ Sta X.K g2 w o2 ρ2 S2 σ2 H2 ∧ mWhileN mc mb n ρ2 S2 = .ok fl S' ∧ FinS X.K g2 w o2 H2 fl S' E, ⟨manyTurns, g, o, ρ, S, fl, S', .refl, s, hm, q⟩, ?_⟩
  rintro n σ2 H2 ⟨g2, o2, ρ2, S2, fl, S', x2, s2, hm, q⟩
  cases n with
  | zero => cases hm
  | succ n =>
    unfold mWhileN at hm
    obtain ⟨k, S3, h1, hm⟩ := R.bind_ok hm
    refine ⟨g2, w, o2, ρ2, S2, k, S3, s2, h1, fun g3 H3 x3 t3 => ?_⟩
    have s3 := s2.ext x3 t3
    cases k with
    | false => cases hm; exact q g3 o2 H3 x3.s σ2 s3
    | true =>
      rw [if_pos rfl] at hm
      obtain ⟨f4, S4, h4, hm⟩ := R.bind_ok hm
      refine iteT ⟨fun σ5 H5 => ∃ g5 o5 ρ5 S5 fl S', ExtS g o H g5 o5 H5 ∧ Sta X.K g5 w o5 ρ5 S5 σ5 H5 ∧ mWhileN mc mb n ρ5 S5 = .ok fl S' ∧ FinS X.K g5 w o5 H5 fl S' E, fun σ' H' hn => ⟨n, Nat.lt_succ_self _, hn⟩, ?_⟩
      refine ⟨g3, w, o2, ρ2, S3, f4, S4, s3, h4, fun g4 o4 H4 x4 => ?_⟩
      have x24 := x3.s.trans x4
      cases f4 with
      | nx ρ1 => exact fun σ' st => ⟨g4, o4, ρ1, S4, fl, S', x2.trans x24, st, hm, q.after x24⟩
      | ct ρ1 => exact fun σ' st => ⟨g4, o4, ρ1, S4, fl, S', x2.trans x24, st, hm, q.after x24⟩
      | bk ρ1 => cases hm; exact q g4 o4 H4 x24
      | rt d => cases hm; exact q g4 o4 H4 x24
end
end Mo
set_option maxRecDepth 100000
set_option maxHeartbeats 1000000
/-! Mo: comprehensions; own lists and cells that change. -/
namespace Mo
open PySem PySem.Spec PyProof.Rows L2

section
variable {K : PySem.W.Frag} {g f : List Addr} {H : Hp} {p : Addr} {u : HO}
theorem Rd.mut {b : Addr} {v : HO} (hm : Mut (H p)) (hv : ¬ Mut (some v)) (h : Rd H b v) : b ≠ p := by
  intro e
  subst e
  rcases h with h | ⟨ob, h⟩
  · rw [h] at hm; exact hv hm
  · rw [h] at hm; exact hm
theorem Rd.upd {b : Addr} {v : HO} (hne : b ≠ p) (h : Rd H b v) : Rd (upd H p u) b v := by
  rcases h with h | ⟨ob, h⟩
  · exact .inl (by rw [upd_ne hne]; exact h)
  · exact .inr ⟨ob, by rw [upd_ne hne]; exact h⟩
/-- p is forbidden, or a cell: what rests is elsewhere -/
theorem RestL.upd {a : Addr} {vs : List V} (hp : p ∈ f ∨ p ∈ g) (h : RestL g f H a vs) : RestL g f (upd H p u) a vs := by
  have ne : a ≠ p := by
    intro e
    subst e
    exact hp.elim h.2.1 h.1
  exact ⟨h.1, h.2.1, by rw [upd_ne ne]; exact h.2.2⟩
theorem RestO.upd {a : Addr} {v : HO} (hp : p ∈ f ∨ p ∈ g) (h : RestO g f H a v) : RestO g f (upd H p u) a v := by
  have ne : a ≠ p := by
    intro e
    subst e
    exact hp.elim h.2.1 h.1
  exact ⟨h.1, h.2.1, by rw [upd_ne ne]; exact h.2.2⟩
theorem ScrL.upd {a : Addr} {vs : List V} (hp : p ∈ f ∨ p ∈ g) (h : ScrL K g f H a vs) : ScrL K g f (upd H p u) a vs := by
  rcases h with ⟨h1, h2, h3⟩ | h
  · refine .inl ⟨h1, h2, Rd.upd (fun e => ?_) h3⟩
    subst e
    exact hp.elim h2 h1
  · exact .inr h
theorem SqT.upd {a : Addr} {vs : List V} (hm : Mut (H p)) (h : SqT K H a vs) : SqT K (upd H p u) a vs := by
  rcases h with h | h
  · exact .inl (Rd.upd (Rd.mut (v := .tup vs) hm (fun z => z) h) h)
  · exact .inr h
mutual
theorem RelD.upd (hm : Mut (H p)) (hp : p ∈ f ∨ p ∈ g) : ∀ (d : D) (v : V), RelD K g f H d v → RelD K g f (upd H p u) d v
  | .non, _, h => h
  | .bl _, _, h => h
  | .int _, _, h => h
  | .str _, _, h => h
  | .raw _, _, h => h
  | .tup l, _, ⟨a, vs, e, q, r⟩ => ⟨a, vs, e, SqT.upd hm q, RelDs.upd hm hp l vs r⟩
  | .lst l, _, ⟨a, vs, e, q, r⟩ => ⟨a, vs, e, q.upd hp, RelDs.upd hm hp l vs r⟩
  | .loc n, _, h => h
  | .scr l, _, ⟨a, e, q⟩ => ⟨a, e, q.upd hp⟩
  | .ex c n d, _, ⟨a, C, dd, y, e, k, q1, q2, r⟩ => ⟨a, C, dd, y, e, k, q1.upd hp, q2.upd hp, RelD.upd hm hp d y r⟩
theorem RelDs.upd (hm : Mut (H p)) (hp : p ∈ f ∨ p ∈ g) : ∀ (l : List D) (vs : List V), RelDs K g f H l vs → RelDs K g f (upd H p u) l vs
  | [], _, h => h
  | d :: ds, _, ⟨v, r, e, q, t⟩ => ⟨v, r, e, RelD.upd hm hp d v q, RelDs.upd hm hp ds r t⟩
end
theorem RelKv.upd {κ : Type} (hm : Mut (H p)) (hp : p ∈ f ∨ p ∈ g) : ∀ (l : List (κ × D)) (vs : List (κ × V)), RelKv K g f H l vs → RelKv K g f (upd H p u) l vs
  | [], _, h => h
  | d :: ds, _, ⟨v, r, e, q, t⟩ => ⟨v, r, e, RelD.upd hm hp d.2 v q, RelKv.upd hm hp ds r t⟩
theorem RelC.upd {a : Addr} (hm : Mut (H p)) (hp : p ∈ f ∨ p ∈ g) (hne : a ≠ p) : ∀ {c : Cell}, RelC K g f H a c → RelC K g f (upd H p u) a c
  | .lst l, ⟨vs, e, r⟩ => ⟨vs, by rw [upd_ne hne]; exact e, RelDs.upd hm hp l vs r⟩
  | .dK l, ⟨vs, e, r⟩ => ⟨vs, by rw [upd_ne hne]; exact e, RelKv.upd hm hp l vs r⟩
  | .dT l, ⟨vs, e, r, r'⟩ => ⟨vs, by rw [upd_ne hne]; exact e, RelKv.upd hm hp _ _ r, RelKv.upd hm hp _ _ r'⟩
  | .dF l, ⟨vs, ⟨ob, e⟩, r⟩ => ⟨vs, ⟨ob, by rw [upd_ne hne]; exact e⟩, RelKv.upd hm hp l vs r⟩
  | .dG l, ⟨vs, ⟨ob, e⟩, r, r'⟩ => ⟨vs, ⟨ob, by rw [upd_ne hne]; exact e⟩, RelKv.upd hm hp _ _ r, RelKv.upd hm hp _ _ r'⟩
theorem RelS.updF {S : Store} (s : RelS K g f H S) (hm : Mut (H p)) (hp : p ∈ f) (hn : p ∉ g) : RelS K g f (upd H p u) S :=
  ⟨s.len, s.nod, fun n c a e1 e2 => (s.cel n c a e1 e2).upd hm (.inl hp) fun e => hn (e ▸ List.mem_of_getElem? e2)⟩
/-- a cell of the store changes -/
theorem RelS.updG {S : Store} {n : Nat} {c : Cell} (s : RelS K g f H S) (hm : Mut (H p)) (hp : g[n]? = some p) (r : RelC K g f (upd H p u) p c) : RelS K g f (upd H p u) (S.set n c) where
  len := by rw [List.length_set]; exact s.len
  nod := s.nod
  cel := fun m d a e1 e2 => by
    by_cases hk : n = m
    · subst hk
      rw [hp] at e2; cases e2
      have hl : n < S.length := by rw [← s.len]; exact lt_of_get hp
      rw [List.getElem?_set_self hl] at e1
      cases e1
      exact r
    · rw [List.getElem?_set_ne hk] at e1
      refine (s.cel m d a e1 e2).upd hm (.inr (List.mem_of_getElem? hp)) fun e => ?_
      subst e
      have h1 := lt_of_get hp
      have h2 := lt_of_get e2
      rw [List.getElem?_eq_getElem h1] at hp
      rw [List.getElem?_eq_getElem h2] at e2
      cases hp
      exact hk ((List.getElem_inj s.nod).mp (Option.some.inj e2).symm)
/-- a forbidden place that no name stands for changes -/
theorem Sta.updF {w o : List Addr} {ρ : MEnv} {S : Store} {σ : L2.St} (s : Sta K g w o ρ S σ H) (hm : Mut (H p)) (hp : p ∈ w ++ o) (hn : p ∉ g) (hno : ∀ (i : Nat) (c : Cell), ρ[i]? = some (some (Slot.own c)) → σ[i]? ≠ some (some (V.ref p))) : Sta K g w o ρ S σ (upd H p u) where
  len := s.len
  val := fun i d e => let ⟨v, e1, r⟩ := s.val i d e; ⟨v, e1, RelD.upd hm (.inl hp) d v r⟩
  own := fun i c e => let ⟨a, e1, m, r⟩ := s.own i c e; ⟨a, e1, m, r.upd hm (.inl hp) fun q => hno i c e (q ▸ e1)⟩
  inj := s.inj
  out := s.out
  liv := fun a m => by
    by_cases e : a = p
    · subst e; rw [upd_same]; simp
    · rw [upd_ne e]; exact s.liv a m
  sto := s.sto.updF hm hp hn
/-- the own cell of name i changes -/
theorem Sta.updO {w o : List Addr} {ρ : MEnv} {S : Store} {σ : L2.St} {i : Nat} {c c' : Cell} (s : Sta K g w o ρ S σ H) (hi : ρ[i]? = some (some (.own c))) (hσ : σ[i]? = some (some (V.ref p))) (hm : Mut (H p)) (r : RelC K g (w ++ o) (L2.upd H p u) p c') :
    Sta K g w o (ρ.set i (some (.own c'))) S σ (L2.upd H p u) := by
  obtain ⟨a, e1, m, r0⟩ := s.own i c hi
  rw [hσ] at e1; cases e1
  have hn := (s.out p m).1
  have hf : p ∈ w ++ o := List.mem_append_right _ m
  have hl : i < ρ.length := lt_of_get hi
  refine ⟨by rw [List.length_set]; exact s.len, fun j d e => ?_, fun j d e => ?_, fun j k d e a h1 h2 h3 h4 => ?_, s.out, fun a ma => ?_, s.sto.updF hm hf hn⟩
  · by_cases hj : i = j
    · subst hj; rw [List.getElem?_set_self hl] at e; cases e
    · rw [List.getElem?_set_ne hj] at e
      obtain ⟨v, e1, r1⟩ := s.val j d e
      exact ⟨v, e1, RelD.upd hm (.inl hf) d v r1⟩
  · by_cases hj : i = j
    · subst hj
      rw [List.getElem?_set_self hl] at e
      cases e
      exact ⟨p, hσ, m, r⟩
    · rw [List.getElem?_set_ne hj] at e
      obtain ⟨a, e1, m1, r1⟩ := s.own j d e
      exact ⟨a, e1, m1, r1.upd hm (.inl hf) fun q => hj (s.inj i j c d p hi e hσ (q ▸ e1))⟩
  · have own_of : ∀ {j : Nat} {d : Cell}, (ρ.set i (some (.own c')))[j]? = some (some (Slot.own d)) → ∃ d', ρ[j]? = some (some (Slot.own d')) := fun {j d} h => by
      by_cases hj : i = j
      · exact ⟨c, hj ▸ hi⟩
      · rw [List.getElem?_set_ne hj] at h; exact ⟨d, h⟩
    obtain ⟨d1, q1⟩ := own_of h1
    obtain ⟨d2, q2⟩ := own_of h2
    exact s.inj j k d1 d2 a q1 q2 h3 h4
  · by_cases e : a = p
    · subst e; rw [upd_same]; simp
    · rw [upd_ne e]; exact s.liv a ma
theorem ExtS.updO {o : List Addr} (hm : Mut (H p)) (ho : p ∈ o) : ExtS g o H g o (L2.upd H p u) where
  more := ⟨[], by simp, fun _ h => nomatch h⟩
  keep := fun a v e _ h => by
    have : a ≠ p := fun q => h (q ▸ ho)
    rw [upd_ne this]; exact e
  live := fun a h => by
    by_cases e : a = p
    · subst e; rw [upd_same]; simp
    · rw [upd_ne e]; exact h
  tups := fun a vs h => Rd.upd (Rd.mut (v := .tup vs) hm (fun z => z) h) h
  frz := fun a o u h => by
    have : a ≠ p := fun e => by subst e; rw [h] at hm; exact hm
    rw [upd_ne this]; exact h
  lam := fun _ h => .inl h
theorem Ext.updG (hm : Mut (H p)) (ho : p ∈ g) : Ext g H g (L2.upd H p u) where
  more := ⟨[], by simp, fun _ h => nomatch h⟩
  keep := fun a v e h => by
    have : a ≠ p := fun q => h (q ▸ ho)
    rw [upd_ne this]; exact e
  live := fun a h => by
    by_cases e : a = p
    · subst e; rw [upd_same]; simp
    · rw [upd_ne e]; exact h
  tups := fun a vs h => Rd.upd (Rd.mut (v := .tup vs) hm (fun z => z) h) h
  frz := fun a o u h => by
    have : a ≠ p := fun e => by subst e; rw [h] at hm; exact hm
    rw [upd_ne this]; exact h
end

/-! ### comprehensions -/
def wipeM (ρ : MEnv) : List Nat → MEnv
  | [] => ρ
  | v :: vs => (wipeM ρ vs).set v none
theorem Sta.unset {K : PySem.W.Frag} {g w o : List Addr} {ρ : MEnv} {S : Store} {σ : L2.St} {H : Hp} {i : Nat} (s : Sta K g w o ρ S σ H) : Sta K g w o (ρ.set i none) S (σ.set i none) H := by
  have back : ∀ {j : Nat} {d : Slot}, (ρ.set i none)[j]? = some (some d) → i ≠ j ∧ ρ[j]? = some (some d) := fun {j d} h => by
    by_cases hj : i = j
    · subst hj
      have hl : i < ρ.length := by have := lt_of_get h; simpa using this
      rw [List.getElem?_set_self hl] at h; cases h
    · rw [List.getElem?_set_ne hj] at h; exact ⟨hj, h⟩
  refine ⟨by rw [List.length_set, List.length_set]; exact s.len, fun j d h => ?_, fun j d h => ?_, fun j k c d a h1 h2 h3 h4 => ?_, s.out, s.liv, s.sto⟩
  · obtain ⟨hj, h⟩ := back h
    rw [List.getElem?_set_ne hj]
    exact s.val j d h
  · obtain ⟨hj, h⟩ := back h
    rw [List.getElem?_set_ne hj]
    exact s.own j d h
  · obtain ⟨n1, h1⟩ := back h1
    obtain ⟨n2, h2⟩ := back h2
    rw [List.getElem?_set_ne n1] at h3
    rw [List.getElem?_set_ne n2] at h4
    exact s.inj j k c d a h1 h2 h3 h4
theorem Sta.wipe {K : PySem.W.Frag} {g w o : List Addr} {ρ : MEnv} {S : Store} {σ : L2.St} {H : Hp} (s : Sta K g w o ρ S σ H) : ∀ vs : List Nat, Sta K g w o (wipeM ρ vs) S (wipe σ vs) H
  | [] => s
  | v :: vs => (Sta.wipe s vs).unset
theorem wipe_get {σ : L2.St} : ∀ {vs : List Nat} {i : Nat}, (wipe σ vs)[i]? = if i ∈ vs then (if i < σ.length then some none else none) else σ[i]?
  | [], i => by simp [wipe]
  | v :: vs, i => by
    unfold L2.wipe
    by_cases hi : v = i
    · subst hi
      rw [if_pos List.mem_cons_self]
      by_cases hl : v < σ.length
      · rw [List.getElem?_set_self (by rw [wipe_length]; exact hl), if_pos hl]
      · rw [List.getElem?_eq_none (by rw [List.length_set, wipe_length]; omega), if_neg hl]
    · rw [List.getElem?_set_ne hi, wipe_get (vs := vs)]
      by_cases hm : i ∈ vs
      · rw [if_pos hm, if_pos (List.mem_cons_of_mem _ hm)]
      · rw [if_neg hm, if_neg (by simp only [List.mem_cons, not_or]; exact ⟨fun e => hi e.symm, hm⟩)]
theorem setV_len : ∀ (l : List (Nat × V)) (σ : L2.St), (setV σ l).length = σ.length
  | [], _ => rfl
  | (i, x) :: r, σ => by
    have := setV_len r (σ.set i (some x))
    rw [List.length_set] at this
    exact this
theorem setV_get : ∀ (l : List (Nat × V)) (σ : L2.St) (i : Nat), i ∉ l.map (·.1) → (setV σ l)[i]? = σ[i]?
  | [], _, _, _ => rfl
  | (j, x) :: r, σ, i, h => by
    have h1 : j ≠ i := fun e => h (by rw [List.map_cons, e]; exact List.mem_cons_self)
    have := setV_get r (σ.set j (some x)) i fun m => h (by rw [List.map_cons]; exact List.mem_cons_of_mem _ m)
    rw [List.getElem?_set_ne h1] at this
    exact this
theorem wipe_setV {σ : L2.St} {vs : List Nat} {l : List (Nat × V)} (h : ∀ i ∈ l.map (·.1), i ∈ vs) : wipe (setV (wipe σ vs) l) vs = wipe σ vs := by
  apply List.ext_getElem?
  intro i
  rw [wipe_get, wipe_get]
  by_cases hm : i ∈ vs
  · rw [if_pos hm, if_pos hm, setV_len, wipe_length]
  · rw [if_neg hm, if_neg hm, setV_get _ _ _ fun z => hm (h i z), wipe_get, if_neg hm]
def TsM (X : Cx) (ifs : List Expr) (m : MT) : Prop := PTs X ifs (tM X.K m)
def mYes : MT := fun _ S => .ok true S
def mLcL (p : Pat) (mt : MT) (me : ME) : List D → MEnv → Store → R (List D)
  | [], _, S => .ok [] S
  | d :: ds, ρ, S => match p.bind d with
    | none => .bad
    | some l => (mt (setD ρ l) S).bind fun k S1 => if k = true then (me (setD ρ l) S1).bind fun y S2 => (mLcL p mt me ds ρ S2).bind fun r S3 => .ok (y :: r) S3
      else mLcL p mt me ds ρ S1
/-- [e for p in it if t], the block's own names at vs -/
def mLc (it : ML) (p : Pat) (vs : List Nat) (mt : MT) (me : ME) : ML := fun ρ S => (it ρ S).bind fun l S1 => (mLcL p mt me l (wipeM ρ vs) S1).bind fun r S2 => if r.length ≤ sizeLine then .ok r S2 else .bad
section
variable {X : Cx} {tg iter elt : Expr} {ifs : List Expr} {p : Pat} {pos : Pos} {ml : ML} {mt : MT} {me : ME}
theorem tsm_nil : TsM X [] mYes := ⟨fun pins s σ H Q I ⟨g, w, o, ρ, S, k, S', st, hm, q⟩ => by
  cases hm
  exact pts_nil.run pins s σ H Q I (q g H .refl st.sto)⟩
theorem tsm_one {c : Expr} (h : TM X c mt) : TsM X [c] mt := pts_one h
theorem lc_of {vs : List Nat} {σ : L2.St} {H : Hp} {Q : VK} (hv : ∀ i ∈ p.ixs, i ∈ vs) (q : tN X.K (mLc ml p vs mt me) σ H Q) : tLc (tI X.K ml) (tG X.K p) (tM X.K mt) (tE X.K me) vs σ H Q := by
  obtain ⟨g, w, o, ρ, S, res, S', s, hm, q⟩ := q
  obtain ⟨l, S1, h1, hm⟩ := R.bind_ok hm
  obtain ⟨r, S2, h2, hm⟩ := R.bind_ok hm
  have hz : r.length ≤ sizeLine := by
    split at hm
    · assumption
    · cases hm
  rw [if_pos hz] at hm
  cases hm
  refine ⟨g, w, o, ρ, S, l, S1, s, h1, fun g1 H1 J x1 s1 wk D hD => ?_⟩
  have st1 : Sta X.K g1 w o ρ S1 σ H1 := s.ext x1 s1
  have hHD : H D = none := by
    cases e : H D with
    | none => rfl
    | some u => exact absurd hD (x1.live D (by rw [e]; simp))
  have ea : w ++ (o ++ [D]) = (w ++ o) ++ [D] := (List.append_assoc w o [D]).symm
  have noOwn : ∀ (i : Nat) (c : Cell), (wipeM ρ vs)[i]? = some (some (Slot.own c)) → (wipe σ vs)[i]? ≠ some (some (V.ref D)) := fun i c h e => by
    obtain ⟨a, e1, m, _⟩ := (st1.wipe vs).own i c h
    rw [e] at e1; cases e1
    exact st1.liv D (List.mem_append_right _ m) hD
  -- the wiped state with the new list among the own places
  have st2 : Sta X.K g1 w (o ++ [D]) (wipeM ρ vs) S1 (wipe σ vs) (upd H1 D (.lst [])) := by
    have a := st1.wipe vs
    refine ⟨a.len, fun i d h => ?_, fun i c h => ?_, a.inj, fun b m => ?_, fun b m => ?_, ?_⟩
    · obtain ⟨v, e1, r1⟩ := a.val i d h
      exact ⟨v, e1, by rw [ea]; exact RelD.ext (.new hD) d v (RelD.fresh hD d v r1)⟩
    · obtain ⟨b, e1, m, r1⟩ := a.own i c h
      exact ⟨b, e1, List.mem_append_left _ m, by rw [ea]; exact (r1.fresh hD).new hD⟩
    · rcases List.mem_append.mp m with m | m
      · exact a.out b m
      · rw [List.mem_singleton.mp m]
        exact ⟨s1.noG hD, fun z => st1.noF hD (List.mem_append_left _ z)⟩
    · rw [ea] at m
      by_cases e : b = D
      · subst e; rw [upd_same]; simp
      · rw [upd_ne e]
        rcases List.mem_append.mp m with m | m
        · exact a.liv b m
        · exact absurd (List.mem_singleton.mp m) e
    · rw [ea]; exact (s1.fresh hD).new hD
  refine ⟨fun i m H2 => m = l.length - i ∧ i ≤ l.length ∧ ∃ g2 S2 acc accD rest, Ext g1 H1 g2 H2 ∧ Sta X.K g2 w (o ++ [D]) (wipeM ρ vs) S2 (wipe σ vs) H2 ∧ H2 D = some (.lst acc) ∧ RelDs X.K g2 (w ++ (o ++ [D])) H2 accD acc ∧
      mLcL p mt me (l.drop i) (wipeM ρ vs) S2 = .ok rest S' ∧ res = accD ++ rest,
    ⟨l.length, by simp, Nat.zero_le _, g1, S1, [], [], res, .new hD, st2, upd_same, rfl, by simpa using h2, rfl⟩, ?_⟩
  rintro i m H2 ⟨rfl, hi, g2, S2, acc, accD, rest, x2, s2, hacc, racc, hm, he⟩
  have xs : ExtS g1 o H1 g2 (o ++ [D]) H2 := .own x2 hD
  by_cases hlt : i < l.length
  · have hdr : l.drop i = l[i] :: l.drop (i + 1) := List.drop_eq_getElem_cons hlt
    obtain ⟨go, yl⟩ := wk.item i l[i] g2 (o ++ [D]) H2 (List.getElem?_eq_getElem hlt) xs
    rw [hdr] at hm
    unfold mLcL at hm
    split at hm
    · cases hm
    rename_i bl hbl
    obtain ⟨k, S3, h3, hm⟩ := R.bind_ok hm
    refine .inr ⟨go, fun H3 => ∃ g3 S3 acc accD rest, Ext g1 H1 g3 H3 ∧ Sta X.K g3 w (o ++ [D]) (wipeM ρ vs) S3 (wipe σ vs) H3 ∧ H3 D = some (.lst acc) ∧ RelDs X.K g3 (w ++ (o ++ [D])) H3 accD acc ∧
      mLcL p mt me (l.drop (i + 1)) (wipeM ρ vs) S3 = .ok rest S' ∧ res = accD ++ rest, fun H' n => ⟨l.length - (i + 1), by omega, rfl, hlt, n⟩, fun x H3 hy => ?_⟩
    obtain ⟨⟨x3, t3⟩, rx⟩ := yl x H3 hy
    have s3 := s2.ext x3 (t3 _ _ s2.sto)
    have racc3 := RelDs.ext x3 _ _ racc
    have nD : D ∉ g2 := (s2.out D (by simp)).1
    have hacc3 : H3 D = some (.lst acc) := x3.keep D _ hacc nD
    refine ⟨g2, w ++ (o ++ [D]), l[i], bl, rx, hbl, fun us ru => ⟨wipe_setV fun j hj => ?_, ?_⟩⟩
    · rw [ru.fst, p.bind_ixs _ _ hbl] at hj
      exact hv j hj
    refine ⟨g2, w, o ++ [D], _, S2, k, S3, s3.setA ru, h3, fun g4 H4 x4 s4 => ?_⟩
    have st4 := s3.ext x4 s4
    have racc4 := RelDs.ext x4 _ _ racc3
    have hacc4 : H4 D = some (.lst acc) := x4.keep D _ hacc3 nD
    have nD4 : D ∉ g4 := (st4.out D (by simp)).1
    have x14 := (x2.trans x3).trans x4
    cases k with
    | false =>
      rw [if_neg Bool.false_ne_true] at hm
      exact iteF ⟨g4, S3, acc, accD, rest, x14, st4, hacc4, racc4, hm, he⟩
    | true =>
      rw [if_pos rfl] at hm
      obtain ⟨y, S5, h5, hm⟩ := R.bind_ok hm
      obtain ⟨rest5, S6, h6, hm⟩ := R.bind_ok hm
      cases hm
      refine iteT ⟨g4, w, o ++ [D], _, S3, y, S5, (s3.setA ru).ext x4 s4, h5, fun v g5 H5 x5 s5 r5 => ?_⟩
      have st5 := st4.ext x5 s5
      have hacc5 : H5 D = some (.lst acc) := x5.keep D _ hacc4 nD4
      have nD5 : D ∉ g5 := (st5.out D (by simp)).1
      have racc5 := RelDs.ext x5 _ _ racc4
      have mD : Mut (H5 D) := by rw [hacc5]; trivial
      have fD : D ∈ w ++ (o ++ [D]) := by simp
      refine ⟨acc, hacc5, ?_, g5, S5, acc ++ [v], accD ++ [y], rest5, ?_, st5.updF mD fD nD5 noOwn, upd_same, RelDs.upd mD (.inl fD) _ _ (RelDs.append racc5 ⟨v, [], rfl, r5, rfl⟩), h6, by rw [he, List.append_assoc]; rfl⟩
      · have : accD.length = acc.length := racc.length
        rw [he, List.length_append, List.length_cons] at hz
        omega
      · have xx := x14.trans x5
        refine ⟨xx.more, fun a u e hn => ?_, fun a h => ?_, fun a vs h => ?_, fun a o u h => ?_⟩
        · have : a ≠ D := fun z => by subst z; rw [hD] at e; cases e
          rw [upd_ne this]; exact xx.keep a u e hn
        · by_cases z : a = D
          · subst z; rw [upd_same]; simp
          · rw [upd_ne z]; exact xx.live a h
        · have h' := xx.tups a vs h
          exact Rd.upd (Rd.mut (v := .tup vs) mD (fun z => z) h') h'
        · have h' := xx.frz a o u h
          have : a ≠ D := fun z => by subst z; rw [h'] at mD; exact mD
          rw [upd_ne this]; exact h'
  · have e : i = l.length := by omega
    subst e
    rw [List.drop_length] at hm
    cases hm
    rw [List.append_nil] at he
    subst he
    refine .inl ⟨wk.stop _ g2 (o ++ [D]) H2 (Nat.le_refl _) xs, ?_⟩
    refine q D acc g2 H2 (x1.trans x2) hHD (s2.out D (by simp)).1 hacc ?_ ?_
    · rw [← ea]; exact s2.sto
    · rw [← ea]; exact racc
theorem nm_lc {scope : Scope} {own : List (Str × Nat)} (hc : X.calm = true) (hN : X.N.Nodup) (hi : IM X tg iter ml) (ok : BlkOk X.N X.env.scope scope own) (hv : ∀ i ∈ p.ixs, i ∈ own.map (·.2))
    (hg : ∀ (s : Shared) (H : Hp) (C : Addr) (cl : List (Str × Addr)) (fp : List Addr), GM (X.blk s H scope (compEnvC scope cl C X.env) fp) tg p)
    (ht : ∀ (s : Shared) (H : Hp) (C : Addr) (cl : List (Str × Addr)) (fp : List Addr), TsM (X.blk s H scope (compEnvC scope cl C X.env) fp) ifs mt)
    (he : ∀ (s : Shared) (H : Hp) (C : Addr) (cl : List (Str × Addr)) (fp : List Addr), EM (X.blk s H scope (compEnvC scope cl C X.env) fp) elt me) (hs : ∀ x, foldedSetIterable iter X.env x = pure x := by intro _; rfl) :
    NM X (.ListComp elt [⟨tg, iter, ifs, 0⟩] scope pos) (mLc ml p (own.map (·.2)) mt me) :=
  PE.of (pe_lc (g := tG X.K p) (tt := tM X.K mt) (te := tE X.K me) hc hN hi ok hg ht he hs) fun σ H Q q => lc_of hv q
/-- name = [..]: the statement's own form -/
theorem ps_lcN {i : Nat} {y : Str} {py spos : Pos} {scope : Scope} {own : List (Str × Nat)} (hc : X.calm = true) (hN : X.N.Nodup) (hy : X.N[i]? = some y) (hyl : X.env.scope.names.lookup y = some .local)
    (hsw : swapsWith (.ListComp elt [⟨tg, iter, ifs, 0⟩] scope pos) (some (.Name y py)) spos.line X.env = pure true) (hi : IM X tg iter ml) (ok : BlkOk X.N X.env.scope scope own) (hv : ∀ i ∈ p.ixs, i ∈ own.map (·.2))
    (hg : ∀ (s : Shared) (H : Hp) (C : Addr) (cl : List (Str × Addr)) (fp : List Addr), GM (X.blk s H scope (compEnvC scope cl C X.env) fp) tg p)
    (ht : ∀ (s : Shared) (H : Hp) (C : Addr) (cl : List (Str × Addr)) (fp : List Addr), TsM (X.blk s H scope (compEnvC scope cl C X.env) fp) ifs mt)
    (he : ∀ (s : Shared) (H : Hp) (C : Addr) (cl : List (Str × Addr)) (fp : List Addr), EM (X.blk s H scope (compEnvC scope cl C X.env) fp) elt me) (hs : ∀ x, foldedSetIterable iter X.env x = pure x := by intro _; rfl) :
    PS X (.Assign [.Name y py] (.ListComp elt [⟨tg, iter, ifs, 0⟩] scope pos) spos) (tAsg (tN X.K (mLc ml p (own.map (·.2)) mt me)) (gName i)) :=
  PS.of (ps_setLc (g := tG X.K p) (tt := tM X.K mt) (te := tE X.K me) hc hN hy hyl hsw hi ok hg ht he hs) fun E σ H q => lc_of hv q
/-- .. kept as a value -/
theorem sm_valN {st : Stmt} {i : Nat} {m : ML} (h : PS X st (tAsg (tN X.K m) (gName i))) : SM X st (mSet i (mLst m)) := PS.of h fun E σ H ⟨g, w, o, ρ, S, fl, S', s, hm, q⟩ => by
  obtain ⟨d, S1, e1, hm⟩ := R.bind_ok hm
  cases hm
  obtain ⟨ds, S2, e2, hm⟩ := R.bind_ok e1
  cases hm
  refine ⟨g, w, o, ρ, S, ds, _, s, e2, fun p vs g1 H1 x1 hp n1 e3 s1 r1 => q g1 o H1 x1.s _ ((s.ext x1 (s1.less sub_app)).set ⟨p, vs, rfl, ⟨n1, s.noF hp, e3⟩, RelDs.less sub_app _ _ r1⟩)⟩
theorem sm_locN {st : Stmt} {i : Nat} {m : ML} (h : PS X st (tAsg (tN X.K m) (gName i))) : SM X st (mSet i (mLoc m)) := PS.of h fun E σ H ⟨g, w, o, ρ, S, fl, S', s, hm, q⟩ => by
  obtain ⟨d, S1, e1, hm⟩ := R.bind_ok hm
  cases hm
  obtain ⟨ds, S2, e2, hm⟩ := R.bind_ok e1
  cases hm
  refine ⟨g, w, o, ρ, S, ds, _, s, e2, fun p vs g1 H1 x1 hp n1 e3 s1 r1 => ?_⟩
  obtain ⟨ns, eg, hns⟩ := x1.more
  have x2 : Ext g H (g1 ++ [p]) H1 := ⟨⟨ns ++ [p], by rw [eg, List.append_assoc], fun b hb => by
    rcases List.mem_append.mp hb with z | z
    · exact hns b z
    · rw [List.mem_singleton.mp z]; exact hp⟩, x1.keep, x1.live, x1.tups, x1.frz⟩
  have s2 := s1.addG n1 (c := .lst ds) ⟨vs, e3, r1⟩
  exact q _ o H1 x2.s _ ((s.ext x2 s2).set ⟨p, rfl, by rw [← s1.len]; exact List.getElem?_concat_length⟩)
end
end Mo
set_option maxRecDepth 100000
set_option maxHeartbeats 1000000
/-! Mo: several names at once, some of them with cells of their own. -/
namespace Mo
open PySem PySem.Spec PyProof.Rows L2

section
variable {K : PySem.W.Frag} {g g' f w o ns : List Addr} {H H' : Hp} {p : Addr} {S S' : Store} {ρ : MEnv} {σ : L2.St}
theorem freshL {R : List Addr → Prop} (step : ∀ f p, H p = none → R f → R (f ++ [p])) : ∀ {ns : List Addr} {f : List Addr}, (∀ p ∈ ns, H p = none) → R f → R (f ++ ns)
  | [], f, _, h => by rw [List.append_nil]; exact h
  | p :: ns, f, hn, h => by
    have := freshL step (ns := ns) (f := f ++ [p]) (fun q hq => hn q (List.mem_cons_of_mem _ hq)) (step f p (hn p List.mem_cons_self) h)
    rw [List.append_assoc] at this
    exact this
theorem RelD.freshs {d : D} {v : V} (hn : ∀ p ∈ ns, H p = none) (h : RelD K g f H d v) : RelD K g (f ++ ns) H d v := freshL (R := fun f => RelD K g f H d v) (fun _ _ hp h => RelD.fresh hp d v h) hn h
theorem RelC.freshs {c : Cell} {a : Addr} (hn : ∀ p ∈ ns, H p = none) (h : RelC K g f H a c) : RelC K g (f ++ ns) H a c := freshL (R := fun f => RelC K g f H a c) (fun _ _ hp h => RelC.fresh hp h) hn h
/-- a place of its own that no name stands for as yet -/
theorem Sta.addO (s : Sta K g w o ρ S σ H) (x : Ext g H g' H') (hp : H p = none) (hn : p ∉ g') (hl : H' p ≠ none) (t : RelS K g' ((w ++ o) ++ [p]) H' S') : Sta K g' w (o ++ [p]) ρ S' σ H' := by
  have ea : w ++ (o ++ [p]) = (w ++ o) ++ [p] := (List.append_assoc w o [p]).symm
  have hpo : p ∉ w ++ o := s.noF hp
  refine ⟨s.len, fun j d h => ?_, fun j d h => ?_, s.inj, fun a ha => ?_, fun a ha => ?_, by rw [ea]; exact t⟩
  · obtain ⟨v, e1, r1⟩ := s.val j d h
    exact ⟨v, e1, by rw [ea]; exact RelD.ext x d v (RelD.fresh hp d v r1)⟩
  · obtain ⟨a, e1, m, r1⟩ := s.own j d h
    exact ⟨a, e1, List.mem_append_left _ m, by rw [ea]; exact (r1.fresh hp).ext x (s.out a m).1⟩
  · rcases List.mem_append.mp ha with m | m
    · exact ⟨x.out (s.out a m).1 (s.liv a (List.mem_append_right _ m)), (s.out a m).2⟩
    · rw [List.mem_singleton.mp m]
      exact ⟨hn, fun z => hpo (List.mem_append_left _ z)⟩
  · rw [ea] at ha
    rcases List.mem_append.mp ha with m | m
    · exact x.live a (s.liv a m)
    · rw [List.mem_singleton.mp m]
      exact hl
/-- what several names are to stand for: the own places are ns, in order -/
def RelSl (K : PySem.W.Frag) (g f : List Addr) (H : Hp) : List Slot → List V → List Addr → Prop
  | [], vs, ns => vs = [] ∧ ns = []
  | .val d :: r, vs, ns => ∃ v vr, vs = v :: vr ∧ RelD K g f H d v ∧ RelSl K g f H r vr ns
  | .own c :: r, vs, ns => ∃ a vr nr, vs = .ref a :: vr ∧ ns = a :: nr ∧ RelC K g f H a c ∧ RelSl K g f H r vr nr
abbrev MSl := MEnv → Store → R (List Slot)
def tSl (K : PySem.W.Frag) (m : MSl) : TA := fun σ H Q => ∃ g w o ρ S ss S', Sta K g w o ρ S σ H ∧ m ρ S = .ok ss S' ∧
  ∀ vs ns g' H', Ext g H g' H' → Sta K g' w (o ++ ns) ρ S' σ H' → (∀ p ∈ ns, H p = none) → ns.Nodup → RelSl K g' (w ++ (o ++ ns)) H' ss vs ns → Q vs H'
def SlM (X : Cx) (es : List Expr) (m : MSl) : Prop := PA X es (tSl X.K m)
def sNil : MSl := fun _ S => .ok [] S
def sVal (m : ME) (r : MSl) : MSl := fun ρ S => (m ρ S).bind fun d S1 => (r ρ S1).bind fun ss S2 => .ok (.val d :: ss) S2
def sOwnL (m : ML) (r : MSl) : MSl := fun ρ S => (m ρ S).bind fun l S1 => (r ρ S1).bind fun ss S2 => .ok (.own (.lst l) :: ss) S2
theorem back_none (x : Ext g H g' H') {q : Addr} (h : H' q = none) : H q = none := by
  cases e : H q with
  | none => rfl
  | some u => exact absurd h (x.live q (by rw [e]; simp))
end
section
variable {X : Cx} {e : Expr} {es : List Expr} {me : ME} {ml : ML} {r : MSl}
theorem slm_nil : SlM X [] sNil := PA.of pa_nil fun σ H Q ⟨g, w, o, ρ, S, ss, S', s, hm, q⟩ => by
  cases hm
  exact q [] [] g H .refl (by rw [List.append_nil]; exact s) (fun _ h => nomatch h) List.nodup_nil ⟨rfl, rfl⟩
theorem slm_val (ha : EM X e me) (hr : SlM X es r) (hs : starEach (e :: es) X.env = (false, eval e X.env) :: starEach es X.env := by rfl) : SlM X (e :: es) (sVal me r) := PA.of (pa_cons ha hr hs) fun σ H Q ⟨g, w, o, ρ, S, ss, S', s, hm, q⟩ => by
  obtain ⟨d, S1, h1, hm⟩ := R.bind_ok hm
  obtain ⟨dr, S2, h2, hm⟩ := R.bind_ok hm
  cases hm
  refine ⟨g, w, o, ρ, S, d, S1, s, h1, fun v g1 H1 x1 s1 r1 => ?_⟩
  refine ⟨g1, w, o, ρ, S1, dr, _, s.ext x1 s1, h2, fun vs ns g2 H2 x2 st2 hns nd rs => ?_⟩
  refine q (v :: vs) ns g2 H2 (x1.trans x2) st2 (fun p hp => back_none x1 (hns p hp)) nd ⟨v, vs, rfl, ?_, rs⟩
  rw [← List.append_assoc]
  exact RelD.ext x2 d v (RelD.freshs hns r1)
theorem slm_ownL (ha : NM X e ml) (hr : SlM X es r) (hs : starEach (e :: es) X.env = (false, eval e X.env) :: starEach es X.env := by rfl) : SlM X (e :: es) (sOwnL ml r) := PA.of (pa_cons ha hr hs) fun σ H Q ⟨g, w, o, ρ, S, ss, S', s, hm, q⟩ => by
  obtain ⟨l, S1, h1, hm⟩ := R.bind_ok hm
  obtain ⟨dr, S2, h2, hm⟩ := R.bind_ok hm
  cases hm
  refine ⟨g, w, o, ρ, S, l, S1, s, h1, fun p us g1 H1 x1 hp n1 e1 s1 r1 => ?_⟩
  have st1 := s.addO x1 hp n1 (by rw [e1]; simp) s1
  refine ⟨g1, w, o ++ [p], ρ, S1, dr, _, st1, h2, fun vs ns g2 H2 x2 st2 hns nd rs => ?_⟩
  have ea : (o ++ [p]) ++ ns = o ++ (p :: ns) := by rw [List.append_assoc]; rfl
  have ew : w ++ (o ++ (p :: ns)) = ((w ++ o) ++ [p]) ++ ns := by simp [List.append_assoc]
  rw [ea] at st2 rs
  refine q (.ref p :: vs) (p :: ns) g2 H2 (x1.trans x2) st2 (fun b hb => ?_) (List.nodup_cons.mpr ⟨fun m => ?_, nd⟩) ⟨p, vs, ns, rfl, rfl, ?_, rs⟩
  · rcases List.mem_cons.mp hb with e | hb
    · rw [e]; exact hp
    · exact back_none x1 (hns b hb)
  · have := hns p m
    rw [e1] at this
    cases this
  · rw [ew]
    exact (RelC.freshs hns (c := .lst l) ⟨us, e1, r1⟩).ext x2 n1
/-- names that take them -/
def setSl (ρ : MEnv) : List (Nat × Slot) → MEnv
  | [] => ρ
  | (i, s) :: r => setSl (ρ.set i (some s)) r
theorem Sta.setO {K : PySem.W.Frag} {g w o : List Addr} {ρ : MEnv} {S : Store} {σ : L2.St} {H : Hp} {i : Nat} {a : Addr} {c : Cell} (s : Sta K g w o ρ S σ H) (ha : a ∈ o) (hno : ∀ (j : Nat) (c : Cell), ρ[j]? = some (some (Slot.own c)) → σ[j]? ≠ some (some (V.ref a)))
    (r : RelC K g (w ++ o) H a c) : Sta K g w o (ρ.set i (some (.own c))) S (σ.set i (some (.ref a))) H := by
  have lt_of : ∀ {u : Slot} {d : Option Slot}, (ρ.set i (some u))[i]? = some d → i < ρ.length := fun {u d} h => by have := lt_of_get h; simpa using this
  refine ⟨by rw [List.length_set, List.length_set]; exact s.len, fun j d h => ?_, fun j d h => ?_, fun j k d e b h1 h2 h3 h4 => ?_, s.out, s.liv, s.sto⟩
  · by_cases hj : i = j
    · subst hj
      rw [List.getElem?_set_self (lt_of h)] at h
      cases h
    · rw [List.getElem?_set_ne hj] at h ⊢
      exact s.val j d h
  · by_cases hj : i = j
    · subst hj
      have hl := lt_of h
      rw [List.getElem?_set_self hl] at h
      cases h
      exact ⟨a, List.getElem?_set_self (by rw [← s.len]; exact hl), ha, r⟩
    · rw [List.getElem?_set_ne hj] at h ⊢
      exact s.own j d h
  · by_cases hj : i = j
    · subst hj
      have hl := lt_of h1
      rw [List.getElem?_set_self (by rw [← s.len]; exact hl)] at h3
      cases h3
      by_cases hk : i = k
      · exact hk
      · rw [List.getElem?_set_ne hk] at h2 h4
        exact absurd h4 (hno k e h2)
    · rw [List.getElem?_set_ne hj] at h1 h3
      by_cases hk : i = k
      · subst hk
        have hl := lt_of h2
        rw [List.getElem?_set_self (by rw [← s.len]; exact hl)] at h4
        cases h4
        exact absurd h3 (hno j d h1)
      · rw [List.getElem?_set_ne hk] at h2 h4
        exact s.inj j k d e b h1 h2 h3 h4
theorem Sta.setSl {K : PySem.W.Frag} {g w o : List Addr} {S : Store} {H : Hp} : ∀ (is : List Nat) (ss : List Slot) (vs : List V) (ns : List Addr) (ρ : MEnv) (σ : L2.St), Sta K g w o ρ S σ H → (∀ p ∈ ns, p ∈ o) → ns.Nodup →
    (∀ p ∈ ns, ∀ (j : Nat) (c : Cell), ρ[j]? = some (some (Slot.own c)) → σ[j]? ≠ some (some (V.ref p))) → RelSl K g (w ++ o) H ss vs ns → is.length = ss.length → Sta K g w o (Mo.setSl ρ (is.zip ss)) S (setV σ (is.zip vs)) H
  | [], [], _, _, _, _, s, _, _, _, ⟨e, _⟩, _ => by subst e; exact s
  | i :: is, .val d :: ss, _, ns, ρ, σ, s, h1, h2, h3, ⟨v, vr, e, r, t⟩, hl => by
    subst e
    refine Sta.setSl is ss vr ns (ρ.set i (some (.val d))) (σ.set i (some v)) (s.set r) h1 h2 (fun p hp j c hj => ?_) t (by simpa using hl)
    by_cases hi : i = j
    · subst hi
      have hl : i < ρ.length := by have := lt_of_get hj; simpa using this
      rw [List.getElem?_set_self hl] at hj
      cases hj
    · rw [List.getElem?_set_ne hi] at hj ⊢
      exact h3 p hp j c hj
  | i :: is, .own c :: ss, _, _, ρ, σ, s, h1, h2, h3, ⟨a, vr, nr, e, en, r, t⟩, hl => by
    subst e; subst en
    obtain ⟨n1, n2⟩ := List.nodup_cons.mp h2
    refine Sta.setSl is ss vr nr (ρ.set i (some (.own c))) (σ.set i (some (.ref a))) (s.setO (h1 a List.mem_cons_self) (fun j d hj => h3 a List.mem_cons_self j d hj) r) (fun p hp => h1 p (List.mem_cons_of_mem _ hp)) n2 (fun p hp j d hj => ?_) t (by simpa using hl)
    by_cases hi : i = j
    · subst hi
      have hl : i < ρ.length := by have := lt_of_get hj; simpa using this
      rw [List.getElem?_set_self (by rw [← s.len]; exact hl)]
      intro z
      cases z
      exact n1 hp
    · rw [List.getElem?_set_ne hi] at hj ⊢
      exact h3 p (List.mem_cons_of_mem _ hp) j d hj
  | [], _ :: _, _, _, _, _, _, _, _, _, _, hl => by simp at hl
  | _ :: _, [], _, _, _, _, _, _, _, _, _, hl => by simp at hl
/-- a, b = e, f -/
def mPar (is : List Nat) (m : MSl) : MS := fun ρ S => (m ρ S).bind fun ss S1 => if is.length = ss.length then .ok (.nx (setSl ρ (is.zip ss))) S1 else .bad
theorem par_of {is : List Nat} {m : MSl} {E : Ends} {σ : L2.St} {H : Hp} (q : tS X.K (mPar is m) E σ H) : tSl X.K m σ H fun vs H1 => vs.length = is.length ∧ E.nx (setV σ (is.zip vs)) H1 := by
  obtain ⟨g, w, o, ρ, S, fl, S', s, hm, q⟩ := q
  obtain ⟨ss, S1, h1, hm⟩ := R.bind_ok hm
  split at hm
  · rename_i hl
    cases hm
    refine ⟨g, w, o, ρ, S, ss, _, s, h1, fun vs ns g1 H1 x1 st hns nd rs => ⟨?_, q g1 (o ++ ns) H1 ?_ _ ?_⟩⟩
    · have len : ∀ (ss : List Slot) (vs : List V) (ns : List Addr), RelSl X.K g1 (w ++ (o ++ ns)) H1 ss vs ns → True := fun _ _ _ _ => trivial
      have go : ∀ {f : List Addr} (ss : List Slot) (vs : List V) (ns : List Addr), RelSl X.K g1 f H1 ss vs ns → vs.length = ss.length := by
        intro f ss
        induction ss with
        | nil => intro vs ns h; rw [h.1]; rfl
        | cons c ss ih =>
          intro vs ns h
          cases c with
          | val d => obtain ⟨v, vr, e, _, t⟩ := h; rw [e, List.length_cons, List.length_cons, ih _ _ t]
          | own c => obtain ⟨a, vr, nr, e, _, _, t⟩ := h; rw [e, List.length_cons, List.length_cons, ih _ _ t]
      rw [hl]
      exact go ss vs ns rs
    · refine ⟨x1.more, fun a u h n _ => x1.keep a u h n, x1.live, x1.tups, x1.frz, fun a h => ?_⟩
      rcases List.mem_append.mp h with m | m
      · exact .inl m
      · exact .inr (hns a m)
    · refine Sta.setSl is ss vs ns ρ σ st (fun p hp => List.mem_append_right _ hp) nd (fun p hp j c hj e => ?_) rs hl
      obtain ⟨a, e1, m, _⟩ := s.own j c hj
      rw [e] at e1; cases e1
      exact s.liv p (List.mem_append_right _ m) (hns p hp)
  · cases hm
theorem sm_par2 {st : Stmt} {i j : Nat} {m : MSl} (h : PS X st (tPar i j (tSl X.K m))) : SM X st (mPar [i, j] m) := PS.of h fun E σ H q => by
  have q := par_of q
  obtain ⟨g, w, o, ρ, S, ss, S', s, hm, q⟩ := q
  refine ⟨g, w, o, ρ, S, ss, S', s, hm, fun vs ns g1 H1 x1 st1 hns nd rs => ?_⟩
  obtain ⟨hl, q⟩ := q vs ns g1 H1 x1 st1 hns nd rs
  match vs, hl, q with
  | [a, b], _, q => exact ⟨a, b, rfl, q⟩
theorem sm_par3 {st : Stmt} {i j k : Nat} {m : MSl} (h : PS X st (tPar3 i j k (tSl X.K m))) : SM X st (mPar [i, j, k] m) := PS.of h fun E σ H q => by
  have q := par_of q
  obtain ⟨g, w, o, ρ, S, ss, S', s, hm, q⟩ := q
  refine ⟨g, w, o, ρ, S, ss, S', s, hm, fun vs ns g1 H1 x1 st1 hns nd rs => ?_⟩
  obtain ⟨hl, q⟩ := q vs ns g1 H1 x1 st1 hns nd rs
  match vs, hl, q with
  | [a, b, c], _, q => exact ⟨a, b, c, rfl, q⟩
end
end Mo
set_option maxRecDepth 100000
set_option maxHeartbeats 1000000
/-! Mo: what operators, subscripts, built-ins do with data. -/
namespace Mo
open PySem PySem.Spec PyProof.Rows L2

/-! ### data as a whole -/
mutual
def toP : D → Option PyData
  | .non => some .none
  | .bl b => some (.bool b)
  | .int i => some (.int i)
  | .str x => some (.str x)
  | .tup l => (toPs l).map .tuple
  | .lst l => (toPs l).map .list
  | .loc _ => none
  | .raw _ => none
  | .scr _ => none
  | .ex _ _ _ => none
def toPs : List D → Option (List PyData)
  | [] => some []
  | d :: ds => match toP d, toPs ds with
    | some p, some ps => some (p :: ps)
    | _, _ => none
end
section
variable {K : PySem.W.Frag} {g f : List Addr} {H : Hp}
mutual
theorem RelD.dp : ∀ (d : D) (v : V) (p : PyData), RelD K g f H d v → toP d = some p → Dp K H v p
  | .non, _, _, h, e => by unfold toP at e; cases e; cases h; exact .non
  | .bl b, _, _, h, e => by unfold toP at e; cases e; cases h; exact .bl b
  | .int i, _, _, h, e => by unfold toP at e; cases e; cases h; exact .int i
  | .str x, _, _, h, e => by unfold toP at e; cases e; cases h; exact .str x
  | .tup l, _, _, ⟨a, vs, ev, q, r⟩, e => by
    unfold toP at e
    cases hp : toPs l with
    | none => rw [hp] at e; cases e
    | some ps => rw [hp] at e; cases e; subst ev; exact .tup q (RelDs.dp l vs ps r hp)
  | .lst l, _, _, ⟨a, vs, ev, q, r⟩, e => by
    unfold toP at e
    cases hp : toPs l with
    | none => rw [hp] at e; cases e
    | some ps => rw [hp] at e; cases e; subst ev; exact .lst q.sq (RelDs.dp l vs ps r hp)
  | .loc n, _, _, _, e => by unfold toP at e; cases e
  | .raw n, _, _, _, e => by unfold toP at e; cases e
  | .scr n, _, _, _, e => by unfold toP at e; cases e
  | .ex _ _ _, _, _, _, e => by unfold toP at e; cases e
theorem RelDs.dp : ∀ (l : List D) (vs : List V) (ps : List PyData), RelDs K g f H l vs → toPs l = some ps → DpAll K H vs ps
  | [], _, _, h, e => by unfold toPs at e; cases e; cases h; exact .nil
  | d :: ds, _, _, ⟨v, r, ev, q, t⟩, e => by
    unfold toPs at e
    split at e
    · rename_i p ps hp hps
      cases e
      subst ev
      exact .cons (RelD.dp d v p q hp) (RelDs.dp ds r ps t hps)
    · cases e
end
/-- a plain answer: nothing is made -/
theorem FinE.same {d : D} {v : V} {S : Store} {Q : VK} (q : FinE K g f H d S Q) (s : RelS K g f H S) (r : RelD K g f H d v) : Q v H := q v g H .refl s r

/-! ### numbers -/
/-- two numbers in, under c, a value out -/
def gI (c : Int → Int → Prop) [∀ i j, Decidable (c i j)] (h : Int → Int → D) : G2 := fun x y S => match x, y with
  | .int i, .int j => if c i j then .ok (h i j) S else .bad
  | _, _ => .bad
theorem od_I {c C : Int → Int → Prop} [∀ i j, Decidable (c i j)] {h : Int → Int → D} {hv : Int → Int → V} (hc : ∀ i j, c i j → C i j) (hh : ∀ K g f H i j, RelD K g f H (h i j) (hv i j)) : OpD K (rI C hv) (gI c h) := by
  intro g f H S dx dy d S' x y Q s rx ry hm q
  unfold gI at hm
  split at hm
  · rename_i i j
    split at hm
    · rename_i hcc
      cases hm
      exact ⟨i, j, rx, ry, hc i j hcc, q.same s (hh _ _ _ _ _ _)⟩
    · cases hm
  · cases hm
def gI0 (h : Int → Int → D) : G2 := fun x y S => match x, y with
  | .int i, .int j => .ok (h i j) S
  | _, _ => .bad
theorem od_I0 {h : Int → Int → D} {hv : Int → Int → V} (hh : ∀ K g f H i j, RelD K g f H (h i j) (hv i j)) : OpD K (rI0 hv) (gI0 h) := by
  intro g f H S dx dy d S' x y Q s rx ry hm q
  unfold gI0 at hm
  split at hm
  · rename_i i j
    cases hm
    exact ⟨i, j, rx, ry, q.same s (hh _ _ _ _ _ _)⟩
  · cases hm
def gOr (h h' : G2) : G2 := fun x y S => match h x y S with
  | .ok d S' => .ok d S'
  | .bad => h' x y S
theorem OpD.or {r r' : R2} {h h' : G2} (a : OpD K r h) (b : OpD K r' h') : OpD K (fun x y H Q => r x y H Q ∨ r' x y H Q) (gOr h h') := by
  intro g f H S dx dy d S' x y Q s rx ry hm q
  unfold gOr at hm
  split at hm
  · rename_i e
    cases hm
    exact .inl (a g f H S dx dy _ _ x y Q s rx ry e q)
  · exact .inr (b g f H S dx dy d S' x y Q s rx ry hm q)
abbrev gAddI : G2 := gI0 fun i j => .int (i + j)
abbrev gSubI : G2 := gI0 fun i j => .int (i - j)
def cMul (i j : Int) : Prop := i.natAbs.log2 + j.natAbs.log2 < 1000000
def cDiv (_ j : Int) : Prop := 0 < j ∧ j.natAbs.log2 < 9000
def cMod (_ j : Int) : Prop := 0 < j
def cPow (i j : Int) : Prop := 0 ≤ j ∧ j ≤ 1000000 ∧ i.natAbs < 2 ^ 64
instance : ∀ i j, Decidable (cMul i j) := fun _ _ => by unfold cMul; infer_instance
instance : ∀ i j, Decidable (cDiv i j) := fun _ _ => by unfold cDiv; infer_instance
instance : ∀ i j, Decidable (cMod i j) := fun _ _ => by unfold cMod; infer_instance
instance : ∀ i j, Decidable (cPow i j) := fun _ _ => by unfold cPow; infer_instance
abbrev gMulI : G2 := gI cMul fun i j => .int (i * j)
abbrev gDivI : G2 := gI cDiv fun i j => .int (i / j)
abbrev gModI : G2 := gI cMod fun i j => .int (i % j)
abbrev gPowI : G2 := gI cPow fun i j => .int (i ^ j.toNat)
theorem od_add : OpD K (rI0 fun i j => .int (i + j)) gAddI := od_I0 fun _ _ _ _ _ _ => rfl
theorem od_sub : OpD K (rI0 fun i j => .int (i - j)) gSubI := od_I0 fun _ _ _ _ _ _ => rfl
theorem od_mul : OpD K (rI CMulW fun i j => .int (i * j)) gMulI := od_I (fun _ _ h => h) fun _ _ _ _ _ _ => rfl
theorem od_div : OpD K (rI CDivW fun i j => .int (i / j)) gDivI := od_I (fun _ _ h => h) fun _ _ _ _ _ _ => rfl
theorem od_mod : OpD K (rI (fun _ j => 0 < j) fun i j => .int (i % j)) gModI := od_I (fun _ _ h => h) fun _ _ _ _ _ _ => rfl
theorem od_pow : OpD K (rI CPow fun i j => .int (i ^ j.toNat)) gPowI := od_I (fun _ _ h => h) fun _ _ _ _ _ _ => rfl
abbrev gLt : G2 := gI0 fun i j => .bl (decide (i < j))
abbrev gLe : G2 := gI0 fun i j => .bl (decide (i ≤ j))
abbrev gGt : G2 := gI0 fun i j => .bl (decide (j < i))
abbrev gGe : G2 := gI0 fun i j => .bl (decide (j ≤ i))
theorem od_lt : OpD K (rI0 fun i j => .bl (decide (i < j))) gLt := od_I0 fun _ _ _ _ _ _ => rfl
theorem od_le : OpD K (rI0 fun i j => .bl (decide (i ≤ j))) gLe := od_I0 fun _ _ _ _ _ _ => rfl
theorem od_gt : OpD K (rI0 fun i j => .bl (decide (j < i))) gGt := od_I0 fun _ _ _ _ _ _ => rfl
theorem od_ge : OpD K (rI0 fun i j => .bl (decide (j ≤ i))) gGe := od_I0 fun _ _ _ _ _ _ => rfl
/-- == and != of data -/
def eqD (x y : D) : Option Bool := match toP x, toP y with
  | some p, some q => if SeqAt.shaped p = true ∧ SeqAt.shaped q = true then some (PyData.eqv p q) else none
  | _, _ => none
def gEq : G2 := fun x y S => match eqD x y with
  | some b => .ok (.bl b) S
  | none => .bad
def gNe : G2 := fun x y S => match eqD x y with
  | some b => .ok (.bl (!b)) S
  | none => .bad
theorem eqD_of {x y : D} {b : Bool} (h : eqD x y = some b) : ∃ p q, toP x = some p ∧ toP y = some q ∧ SeqAt.shaped p = true ∧ SeqAt.shaped q = true ∧ b = PyData.eqv p q := by
  unfold eqD at h
  split at h
  · rename_i p q hp hq
    split at h
    · rename_i hs
      cases h
      exact ⟨p, q, hp, hq, hs.1, hs.2, rfl⟩
    · cases h
  · cases h
theorem od_eq : OpD K (rEqD K) gEq := by
  intro g f H S dx dy d S' x y Q s rx ry hm q
  unfold gEq at hm
  split at hm
  · rename_i b hb
    cases hm
    obtain ⟨p, p', h1, h2, h3, h4, rfl⟩ := eqD_of hb
    exact ⟨p, p', RelD.dp _ _ _ rx h1, RelD.dp _ _ _ ry h2, h3, h4, q.same s rfl⟩
  · cases hm
theorem od_ne : OpD K (rNeD K) gNe := by
  intro g f H S dx dy d S' x y Q s rx ry hm q
  unfold gNe at hm
  split at hm
  · rename_i b hb
    cases hm
    obtain ⟨p, p', h1, h2, h3, h4, rfl⟩ := eqD_of hb
    exact ⟨p, p', RelD.dp _ _ _ rx h1, RelD.dp _ _ _ ry h2, h3, h4, q.same s rfl⟩
  · cases hm
/-- is None, is not None -/
def isNon : D → Bool
  | .non => true
  | _ => false
theorem RelD.non_iff {d : D} {v : V} (r : RelD K g f H d v) (hr : ∀ u, d ≠ .raw u) : decide (v = .non) = isNon d := by
  cases d with
  | non => cases r; rfl
  | bl _ => cases r; rfl
  | int _ => cases r; rfl
  | str _ => cases r; rfl
  | tup l => obtain ⟨a, vs, e, _⟩ := r; subst e; rfl
  | lst l => obtain ⟨a, vs, e, _⟩ := r; subst e; rfl
  | loc n => obtain ⟨a, e, _⟩ := r; subst e; rfl
  | raw u => exact absurd rfl (hr u)
  | scr l => obtain ⟨a, e, _⟩ := r; subst e; rfl
  | ex _ _ _ => obtain ⟨a, C, dd, y, e, _⟩ := r; subst e; rfl
def notRaw : D → Bool
  | .raw _ => false
  | _ => true
theorem notRaw_of {d : D} (h : notRaw d = true) : ∀ u, d ≠ .raw u := fun u e => by subst e; cases h
def gIsN : G2 := fun x y S => match y with
  | .non => if notRaw x = true then .ok (.bl (isNon x)) S else .bad
  | _ => .bad
def gNotN : G2 := fun x y S => match y with
  | .non => if notRaw x = true then .ok (.bl (!isNon x)) S else .bad
  | _ => .bad
theorem od_isN : OpD K (fun x y H Q => y = .non ∧ Q (.bl (decide (x = .non))) H) gIsN := by
  intro g f H S dx dy d S' x y Q s rx ry hm q
  unfold gIsN at hm
  split at hm
  · split at hm
    · rename_i hr
      cases hm
      refine ⟨ry, ?_⟩
      rw [rx.non_iff (notRaw_of hr)]
      exact q.same s rfl
    · cases hm
  · cases hm
theorem od_notN : OpD K (fun x y H Q => y = .non ∧ Q (.bl (!decide (x = .non))) H) gNotN := by
  intro g f H S dx dy d S' x y Q s rx ry hm q
  unfold gNotN at hm
  split at hm
  · split at hm
    · rename_i hr
      cases hm
      refine ⟨ry, ?_⟩
      rw [rx.non_iff (notRaw_of hr)]
      exact q.same s rfl
    · cases hm
  · cases hm

/-! ### subscripts -/
theorem RelDs.atI {l : List D} {vs : List V} {i : Int} {d : D} (r : RelDs K g f H l vs) (h : L2.atI l i = some d) : ∃ v, L2.atI vs i = some v ∧ RelD K g f H d v := by
  unfold L2.atI at h ⊢
  rw [← r.length]
  cases e : L2.ixN l.length i with
  | none => rw [e] at h; cases h
  | some j =>
    rw [e] at h
    exact RelDs.get r (show l[j]? = some d from h)
def gIx : G2 := fun x y S => match x, y with
  | .tup l, .int i => match atI l i with
    | some d => .ok d S
    | none => .bad
  | .lst l, .int i => match atI l i with
    | some d => .ok d S
    | none => .bad
  | .scr l, .int i => match atI l i with
    | some k => .ok (.int k) S
    | none => .bad
  | .loc n, .int i => match S[n]? with
    | some (.lst l) => match atI l i with
      | some d => .ok d S
      | none => .bad
    | _ => .bad
  | _, _ => .bad
theorem atI_map {α β : Type} (h : α → β) (l : List α) (i : Int) : atI (l.map h) i = (atI l i).map h := by
  unfold atI
  rw [List.length_map]
  cases ixN l.length i with
  | none => rfl
  | some j => show (l.map h)[j]? = _; rw [List.getElem?_map]; rfl
theorem od_ix : OpD K (rIx K) gIx := by
  intro g f H S dx dy d S' x y Q s rx ry hm q
  unfold gIx at hm
  split at hm
  · rename_i l i
    obtain ⟨a, vs, e, hq, r⟩ := rx
    split at hm
    · rename_i d' hd
      cases hm
      obtain ⟨v, hv, rv⟩ := r.atI hd
      exact .inr (.inl ⟨a, vs, i, v, e, ry, hq, hv, q.same s rv⟩)
    · cases hm
  · rename_i l i
    obtain ⟨a, vs, e, hq, r⟩ := rx
    split at hm
    · rename_i d' hd
      cases hm
      obtain ⟨v, hv, rv⟩ := r.atI hd
      exact .inl ⟨a, vs, i, v, e, ry, hq.sq, hv, q.same s rv⟩
    · cases hm
  · rename_i l i
    obtain ⟨a, e, hq⟩ := rx
    split at hm
    · rename_i k hk
      cases hm
      exact .inl ⟨a, _, i, .int k, e, ry, hq.sq, by rw [atI_map, hk]; rfl, q.same s rfl⟩
    · cases hm
  · rename_i n i
    obtain ⟨a, e, hq⟩ := rx
    split at hm
    · rename_i l hl
      split at hm
      · rename_i d' hd
        cases hm
        obtain ⟨vs, hH, r⟩ := s.cel n _ a hl hq
        obtain ⟨v, hv, rv⟩ := r.atI hd
        exact .inl ⟨a, vs, i, v, e, ry, .of hH, hv, q.same s rv⟩
      · cases hm
    · cases hm
  · cases hm
end

/-! ### lists that are read at once -/
/-- e is a list: whose, is not told -/
def FinQ (K : PySem.W.Frag) (g f : List Addr) (H : Hp) (l : List D) (S' : Store) (Q : VK) : Prop :=
  ∀ a vs g' H', Ext g H g' H' → RelS K g' f H' S' → SqL K H' a vs → RelDs K g' f H' l vs → Q (.ref a) H'
def tQ (K : PySem.W.Frag) (m : ML) : TE := fun σ H Q => ∃ g w o ρ S l S', Sta K g w o ρ S σ H ∧ m ρ S = .ok l S' ∧ FinQ K g (w ++ o) H l S' Q
def QM (X : Cx) (e : Expr) (m : ML) : Prop := PE X e (tQ X.K m)
section
variable {X : Cx} {e a b : Expr} {me mi : ME} {ml : ML} {pos p : Pos} {x : Str}
theorem qm_val (h : EM X e me) : QM X e (iLst me) := PE.of h fun σ H Q ⟨g, w, o, ρ, S, l, S', s, hm, q⟩ => by
  obtain ⟨d, S1, h1, h2⟩ := R.bind_ok hm
  obtain ⟨rfl, rfl⟩ := seqD_ok h2
  exact ⟨g, w, o, ρ, S, _, _, s, h1, fun v g1 H1 x1 s1 ⟨a, vs, ev, hr, r⟩ => by subst ev; exact q a vs g1 H1 x1 s1 hr.sq r⟩
theorem qm_new (h : NM X e ml) : QM X e ml := PE.of h fun σ H Q ⟨g, w, o, ρ, S, l, S', s, hm, q⟩ =>
  ⟨g, w, o, ρ, S, l, S', s, hm, fun p vs g1 H1 x1 hp n1 e1 s1 r1 => q p vs g1 H1 x1 (s1.less sub_app) (.of e1) (RelDs.less sub_app _ _ r1)⟩
/-- a name's own list -/
def qOwn (i : Nat) : ML := fun ρ S => match ρ[i]? with
  | some (some (.own (.lst l))) => .ok l S
  | _ => .bad
theorem qm_own {i : Nat} (h : PE X e (tVar i)) : QM X e (qOwn i) := PE.of h fun σ H Q ⟨g, w, o, ρ, S, l, S', s, hm, q⟩ => by
  unfold qOwn at hm
  split at hm
  · rename_i l' e'
    cases hm
    obtain ⟨a, e1, m, vs, hH, r⟩ := s.own i _ e'
    exact ⟨_, e1, q a vs g H .refl s.sto (.of hH) r⟩
  · cases hm
def locD : D → Store → R (List D)
  | .loc n, S => match S[n]? with
    | some (.lst l) => .ok l S
    | _ => .bad
  | _, _ => .bad
def iLoc (m : ME) : ML := fun ρ S => (m ρ S).bind locD
theorem locD_ok : ∀ {d : D} {S S' : Store} {l : List D}, locD d S = .ok l S' → ∃ n, d = .loc n ∧ S[n]? = some (.lst l) ∧ S' = S
  | .loc n, S, S', l, h => by
    dsimp only [locD] at h
    cases e : S[n]? with
    | none => rw [e] at h; cases h
    | some c =>
      rw [e] at h
      cases c with
      | lst l' => cases h; exact ⟨n, rfl, e, rfl⟩
      | dK _ => cases h
      | dT _ => cases h
      | dF _ => cases h
      | dG _ => cases h
  | .non, _, _, _, h | .bl _, _, _, _, h | .int _, _, _, _, h | .str _, _, _, _, h | .tup _, _, _, _, h | .lst _, _, _, _, h | .raw _, _, _, _, h | .scr _, _, _, _, h | .ex _ _ _, _, _, _, h => by cases h
theorem qm_loc (h : EM X e me) : QM X e (iLoc me) := PE.of h fun σ H Q ⟨g, w, o, ρ, S, l, S', s, hm, q⟩ => by
  obtain ⟨d, S1, h1, h2⟩ := R.bind_ok hm
  obtain ⟨n, rfl, hn, rfl⟩ := locD_ok h2
  exact ⟨g, w, o, ρ, S, _, _, s, h1, fun v g1 H1 x1 s1 ⟨a, ev, hg⟩ => by
    subst ev
    obtain ⟨vs, hH, r⟩ := s1.cel n _ a hn hg
    exact q a vs g1 H1 x1 s1 (.of hH) r⟩
def scrD : D → Store → R (List D)
  | .scr l, S => .ok (l.map .int) S
  | _, _ => .bad
def iScr (m : ME) : ML := fun ρ S => (m ρ S).bind scrD
theorem rel_ints {K : PySem.W.Frag} {g f : List Addr} {H : Hp} : ∀ l : List Int, RelDs K g f H (l.map .int) (l.map V.int)
  | [] => rfl
  | k :: l => ⟨.int k, _, rfl, rfl, rel_ints l⟩
theorem qm_scr (h : EM X e me) : QM X e (iScr me) := PE.of h fun σ H Q ⟨g, w, o, ρ, S, l, S', s, hm, q⟩ => by
  obtain ⟨d, S1, h1, h2⟩ := R.bind_ok hm
  cases d <;> first | cases h2; done | skip
  cases h2
  exact ⟨g, w, o, ρ, S, _, _, s, h1, fun v g1 H1 x1 s1 ⟨a, ev, hr⟩ => by subst ev; exact q a _ g1 H1 x1 s1 hr.sq (rel_ints _)⟩

/-! ### built-ins of one argument -/
/-- f(e), what e is being judged by t -/
def B1 (X : Cx) (e : Expr) (t : TE) : Prop := PA X [e] (tCons t tNil)
theorem b1 {t : TE} (h : PE X e t) (hs : starEach [e] X.env = (false, eval e X.env) :: starEach [] X.env := by rfl) : B1 X e t := pa_cons h pa_nil hs
/-- from a list to a value -/
def mQ (h : List D → Store → R D) (m : ML) : ME := fun ρ S => (m ρ S).bind h
theorem q_of {r : List V → Hp → VK → Prop} {h : List D → Store → R D} {σ : L2.St} {H : Hp} {Q : VK}
    (hr : ∀ g f H (S : Store) l d S' a vs Q, RelS X.K g f H S → SqL X.K H a vs → RelDs X.K g f H l vs → h l S = .ok d S' → FinE X.K g f H d S' Q → r [.ref a] H Q)
    (q : tE X.K (mQ h ml) σ H Q) : tCB r (tCons (tQ X.K ml) tNil) σ H Q := by
  obtain ⟨g, w, o, ρ, S, d, S', s, hm, q⟩ := q
  obtain ⟨l, S1, h1, hm⟩ := R.bind_ok hm
  exact ⟨g, w, o, ρ, S, l, S1, s, h1, fun a vs g1 H1 x1 s1 hq r1 => hr g1 (w ++ o) H1 S1 l d S' a vs Q s1 hq r1 hm fun v g2 H2 x2 s2 r2 => q v g2 H2 (x1.trans x2) s2 r2⟩
def hLen (l : List D) (S : Store) : R D := .ok (.int l.length) S
theorem em_len (h : QM X e ml) (hg : Gl X "len") (hm : X.mg "len" = none) (hs : starEach [e] X.env = (false, eval e X.env) :: starEach [] X.env := by rfl) (hpl : (backTo pos (starEach [] X.env)).any (·.1) = false := by rfl) : EM X (.Call (.Name "len" p) [e] [] pos) (mQ hLen ml) :=
  PE.of (pe_callB call_len_seq hg hm PySem.boot_len (b1 h hs) (by decide) (by decide) hs hpl) fun σ H Q q => q_of (fun g f H S l d S' a vs Q s hq r hm q => by
    cases hm
    exact ⟨a, vs, rfl, .inl hq, by rw [← r.length]; exact q.same s rfl⟩) q
def hTup (l : List D) (S : Store) : R D := .ok (.tup l) S
theorem em_tupleQ (h : QM X e ml) (hg : Gl X "tuple") (hm : X.mg "tuple" = none) (hb : bootBuiltins "tuple" = some (.type "tuple") := by decide +kernel) (hs : starEach [e] X.env = (false, eval e X.env) :: starEach [] X.env := by rfl) (hpl : (backTo pos (starEach [] X.env)).any (·.1) = false := by rfl) :
    EM X (.Call (.Name "tuple" p) [e] [] pos) (mQ hTup ml) :=
  PE.of (pe_callTy call_tuple_of hg hm hb (b1 h hs) (by decide) (by decide) hs hpl) fun σ H Q q => q_of (fun g f H S l d S' a vs Q s hq r hm q => by
    cases hm
    exact ⟨a, vs, rfl, .inl ⟨hq, fun t ht => q _ g _ (.new ht) (s.new ht) ⟨t, vs, rfl, .inl (.inl upd_same), RelDs.ext (.new ht) _ _ r⟩⟩⟩) q
/-- from a list to a new list -/
def mQL (h : List D → Store → R (List D)) (m : ML) : ML := fun ρ S => (m ρ S).bind h
theorem qn_of {r : List V → Hp → VK → Prop} {h : List D → Store → R (List D)} {σ : L2.St} {H : Hp} {Q : VK}
    (hr : ∀ g f H (S : Store) l d S' a vs Q, RelS X.K g f H S → SqL X.K H a vs → RelDs X.K g f H l vs → h l S = .ok d S' → FinN X.K g f H d S' Q → r [.ref a] H Q)
    (q : tN X.K (mQL h ml) σ H Q) : tCB r (tCons (tQ X.K ml) tNil) σ H Q := by
  obtain ⟨g, w, o, ρ, S, d, S', s, hm, q⟩ := q
  obtain ⟨l, S1, h1, hm⟩ := R.bind_ok hm
  exact ⟨g, w, o, ρ, S, l, S1, s, h1, fun a vs g1 H1 x1 s1 hq r1 => hr g1 (w ++ o) H1 S1 l d S' a vs Q s1 hq r1 hm fun p us g2 H2 x2 hp n2 e2 s2 r2 => q p us g2 H2 (x1.trans x2) (back_none x1 hp) n2 e2 s2 r2⟩
theorem FinN.put {K : PySem.W.Frag} {g f : List Addr} {H : Hp} {l : List D} {S : Store} {Q : VK} {vs : List V} (q : FinN K g f H l S Q) (s : RelS K g f H S) (r : RelDs K g f H l vs) : ∀ t, H t = none → Q (.ref t) (upd H t (.lst vs)) :=
  fun t ht => q t vs g _ (.new ht) ht (s.noG ht) upd_same ((s.fresh ht).new ht) (RelDs.ext (.new ht) _ _ (RelDs.fresh ht _ _ r))
def hList (l : List D) (S : Store) : R (List D) := .ok l S
theorem nm_listQ (h : QM X e ml) (hg : Gl X "list") (hm : X.mg "list" = none) (hb : bootBuiltins "list" = some (.type "list") := by decide +kernel) (hs : starEach [e] X.env = (false, eval e X.env) :: starEach [] X.env := by rfl) (hpl : (backTo pos (starEach [] X.env)).any (·.1) = false := by rfl) :
    NM X (.Call (.Name "list" p) [e] [] pos) (mQL hList ml) :=
  PE.of (pe_callTy call_list_of hg hm hb (b1 h hs) (by decide) (by decide) hs hpl) fun σ H Q q => qn_of (fun g f H S l d S' a vs Q s hq r hm q => by
    cases hm
    exact ⟨a, vs, rfl, .inl hq, q.put s r⟩) q
/-- all, any, sum of flat items -/
def blsD : List D → Option (List Bool)
  | [] => some []
  | .bl b :: r => (blsD r).map (b :: ·)
  | _ => none
def intsD : List D → Option (List Int)
  | [] => some []
  | .int b :: r => (intsD r).map (b :: ·)
  | _ => none
theorem blsD_rel {K : PySem.W.Frag} {g f : List Addr} {H : Hp} : ∀ {l : List D} {vs : List V} {bs : List Bool}, RelDs K g f H l vs → blsD l = some bs → vs = bs.map V.bl
  | [], _, _, h, e => by unfold blsD at e; cases e; cases h; rfl
  | d :: l, _, _, ⟨v, r, ev, q, t⟩, e => by
    cases d <;> unfold blsD at e <;> first | cases e; done | skip
    rename_i b
    cases hb : blsD l with
    | none => rw [hb] at e; cases e
    | some bs => rw [hb] at e; cases e; subst ev; cases q; rw [blsD_rel t hb]; rfl
theorem intsD_rel {K : PySem.W.Frag} {g f : List Addr} {H : Hp} : ∀ {l : List D} {vs : List V} {bs : List Int}, RelDs K g f H l vs → intsD l = some bs → vs = bs.map V.int
  | [], _, _, h, e => by unfold intsD at e; cases e; cases h; rfl
  | d :: l, _, _, ⟨v, r, ev, q, t⟩, e => by
    cases d <;> unfold intsD at e <;> first | cases e; done | skip
    rename_i b
    cases hb : intsD l with
    | none => rw [hb] at e; cases e
    | some bs => rw [hb] at e; cases e; subst ev; cases q; rw [intsD_rel t hb]; rfl
def hAll (l : List D) (S : Store) : R D := match blsD l with
  | some bs => .ok (.bl (bs.all id)) S
  | none => .bad
def hAny (l : List D) (S : Store) : R D := match blsD l with
  | some bs => .ok (.bl (bs.any id)) S
  | none => .bad
def hSum (l : List D) (S : Store) : R D := match intsD l with
  | some ns => .ok (.int ns.sum) S
  | none => .bad
theorem em_all (hc : X.calm = true) (h : QM X e ml) (hg : Gl X "all") (hm : X.mg "all" = none) (hb : bootBuiltins "all" = some (.builtin "all") := by decide +kernel) (hs : starEach [e] X.env = (false, eval e X.env) :: starEach [] X.env := by rfl) (hpl : (backTo pos (starEach [] X.env)).any (·.1) = false := by rfl) :
    EM X (.Call (.Name "all" p) [e] [] pos) (mQ hAll ml) :=
  PE.of (pe_callB (cr_all hc) hg hm hb (b1 h hs) (by decide) (by decide) hs hpl) fun σ H Q q => q_of (fun g f H S l d S' a vs Q s hq r hm q => by
    unfold hAll at hm
    split at hm
    · rename_i bs hbs
      cases hm
      have := blsD_rel r hbs
      subst this
      exact ⟨a, bs, rfl, hq, q.same s rfl⟩
    · cases hm) q
theorem em_any (hc : X.calm = true) (h : QM X e ml) (hg : Gl X "any") (hm : X.mg "any" = none) (hb : bootBuiltins "any" = some (.builtin "any") := by decide +kernel) (hs : starEach [e] X.env = (false, eval e X.env) :: starEach [] X.env := by rfl) (hpl : (backTo pos (starEach [] X.env)).any (·.1) = false := by rfl) :
    EM X (.Call (.Name "any" p) [e] [] pos) (mQ hAny ml) :=
  PE.of (pe_callB (cr_any hc) hg hm hb (b1 h hs) (by decide) (by decide) hs hpl) fun σ H Q q => q_of (fun g f H S l d S' a vs Q s hq r hm q => by
    unfold hAny at hm
    split at hm
    · rename_i bs hbs
      cases hm
      have := blsD_rel r hbs
      subst this
      exact ⟨a, bs, rfl, hq, q.same s rfl⟩
    · cases hm) q
theorem em_sum (hc : X.calm = true) (h : QM X e ml) (hg : Gl X "sum") (hm : X.mg "sum" = none) (hb : bootBuiltins "sum" = some (.builtin "sum") := by decide +kernel) (hs : starEach [e] X.env = (false, eval e X.env) :: starEach [] X.env := by rfl) (hpl : (backTo pos (starEach [] X.env)).any (·.1) = false := by rfl) :
    EM X (.Call (.Name "sum" p) [e] [] pos) (mQ hSum ml) :=
  PE.of (pe_callB (cr_sum hc) hg hm hb (b1 h hs) (by decide) (by decide) hs hpl) fun σ H Q q => q_of (fun g f H S l d S' a vs Q s hq r hm q => by
    unfold hSum at hm
    split at hm
    · rename_i bs hbs
      cases hm
      have := intsD_rel r hbs
      subst this
      exact ⟨a, bs, rfl, hq, q.same s rfl⟩
    · cases hm) q

/-! ### built-ins of values -/
def mB1 (h : D → Store → R D) (m : ME) : ME := fun ρ S => (m ρ S).bind h
def mA (h : List D → Store → R D) (m : MA) : ME := fun ρ S => (m ρ S).bind h
theorem a_of {r : List V → Hp → VK → Prop} {h : List D → Store → R D} {l : MA} {σ : L2.St} {H : Hp} {Q : VK}
    (hr : ∀ g f H (S : Store) l d S' vs Q, RelS X.K g f H S → RelDs X.K g f H l vs → h l S = .ok d S' → FinE X.K g f H d S' Q → r vs H Q)
    (q : tE X.K (mA h l) σ H Q) : tCB r (tA X.K l) σ H Q := by
  obtain ⟨g, w, o, ρ, S, d, S', s, hm, q⟩ := q
  obtain ⟨l, S1, h1, hm⟩ := R.bind_ok hm
  exact ⟨g, w, o, ρ, S, l, S1, s, h1, fun vs g1 H1 x1 s1 r1 => hr g1 (w ++ o) H1 S1 l d S' vs Q s1 r1 hm fun v g2 H2 x2 s2 r2 => q v g2 H2 (x1.trans x2) s2 r2⟩
def hAbs : List D → Store → R D
  | [.int i], S => .ok (.int (if i < 0 then -i else i)) S
  | _, _ => .bad
def hMax2 : List D → Store → R D
  | [.int i, .int j], S => .ok (.int (if j > i then j else i)) S
  | _, _ => .bad
def hMin2 : List D → Store → R D
  | [.int i, .int j], S => .ok (.int (if j < i then j else i)) S
  | _, _ => .bad
def hInt : List D → Store → R D
  | [.int i], S => .ok (.int i) S
  | [.bl k], S => .ok (.int (if k then 1 else 0)) S
  | _, _ => .bad
variable {l : MA} {es : List Expr}
theorem em_abs (h : AM X [e] l) (hg : Gl X "abs") (hm : X.mg "abs" = none) (hb : bootBuiltins "abs" = some (.builtin "abs") := by decide +kernel) (hs : starEach [e] X.env = (false, eval e X.env) :: starEach [] X.env := by rfl) (hpl : (backTo pos (starEach [] X.env)).any (·.1) = false := by rfl) :
    EM X (.Call (.Name "abs" p) [e] [] pos) (mA hAbs l) :=
  PE.of (pe_callB call_abs hg hm hb h (by decide) (by decide) hs hpl) fun σ H Q q => a_of (fun g f H S l d S' vs Q s r hm q => by
    unfold hAbs at hm
    split at hm
    · cases hm
      obtain ⟨v, t, ev, rv, rn⟩ := r
      cases rv; cases rn
      exact ⟨_, ev, q.same s rfl⟩
    · cases hm) q
theorem em_max2 (hc : X.calm = true) (h : AM X [a, b] l) (hg : Gl X "max") (hm : X.mg "max" = none) (hb : bootBuiltins "max" = some (.builtin "max") := by decide +kernel) (hs : starEach [a, b] X.env = (false, eval a X.env) :: starEach [b] X.env := by rfl) (hpl : (backTo pos (starEach [b] X.env)).any (·.1) = false := by rfl) :
    EM X (.Call (.Name "max" p) [a, b] [] pos) (mA hMax2 l) :=
  PE.of (pe_callB (call_max2 hc) hg hm hb h (by decide) (by decide) hs hpl) fun σ H Q q => a_of (fun g f H S l d S' vs Q s r hm q => by
    unfold hMax2 at hm
    split at hm
    · cases hm
      obtain ⟨v, t, ev, rv, v2, t2, ev2, rv2, rn⟩ := r
      cases rv; subst ev2; cases rv2; cases rn
      exact ⟨_, _, ev, q.same s rfl⟩
    · cases hm) q
theorem em_min2 (hc : X.calm = true) (h : AM X [a, b] l) (hg : Gl X "min") (hm : X.mg "min" = none) (hb : bootBuiltins "min" = some (.builtin "min") := by decide +kernel) (hs : starEach [a, b] X.env = (false, eval a X.env) :: starEach [b] X.env := by rfl) (hpl : (backTo pos (starEach [b] X.env)).any (·.1) = false := by rfl) :
    EM X (.Call (.Name "min" p) [a, b] [] pos) (mA hMin2 l) :=
  PE.of (pe_callB (call_min2 hc) hg hm hb h (by decide) (by decide) hs hpl) fun σ H Q q => a_of (fun g f H S l d S' vs Q s r hm q => by
    unfold hMin2 at hm
    split at hm
    · cases hm
      obtain ⟨v, t, ev, rv, v2, t2, ev2, rv2, rn⟩ := r
      cases rv; subst ev2; cases rv2; cases rn
      exact ⟨_, _, ev, q.same s rfl⟩
    · cases hm) q
theorem em_int1 (h : AM X [e] l) (hg : Gl X "int") (hm : X.mg "int" = none) (hb : bootBuiltins "int" = some (.type "int") := by decide +kernel) (hs : starEach [e] X.env = (false, eval e X.env) :: starEach [] X.env := by rfl) (hpl : (backTo pos (starEach [] X.env)).any (·.1) = false := by rfl) :
    EM X (.Call (.Name "int" p) [e] [] pos) (mA hInt l) :=
  PE.of (pe_callTy call_int1 hg hm hb h (by decide) (by decide) hs hpl) fun σ H Q q => a_of (fun g f H S l d S' vs Q s r hm q => by
    unfold hInt at hm
    split at hm
    · cases hm
      obtain ⟨v, t, ev, rv, rn⟩ := r
      cases rv; cases rn
      exact .inl ⟨_, ev, q.same s rfl⟩
    · cases hm
      obtain ⟨v, t, ev, rv, rn⟩ := r
      cases rv; cases rn
      exact .inr ⟨_, ev, q.same s rfl⟩
    · cases hm) q
/-- -a -/
def gNeg : D → Store → R D
  | .int i, S => .ok (.int (-i)) S
  | _, _ => .bad
theorem em_neg (h : EM X a me) : EM X (.UnaryOp .USub a pos) (mB1 gNeg me) := PE.of (pe_un un_neg h) fun σ H Q ⟨g, w, o, ρ, S, d, S', s, hm, q⟩ => by
  obtain ⟨d1, S1, h1, h2⟩ := R.bind_ok hm
  cases d1 <;> first | cases h2; done | skip
  cases h2
  exact ⟨g, w, o, ρ, S, _, _, s, h1, fun v g1 H1 x1 s1 r1 => ⟨_, r1, q _ g1 H1 x1 s1 rfl⟩⟩

/-! ### a list that changes -/
/-- x.append(e), x a name with a list of its own -/
def mApp (i : Nat) (m : ME) : MS := fun ρ S => (m ρ S).bind fun d S1 => match ρ[i]? with
  | some (some (.own (.lst l))) => if l.length < sizeLine then .ok (.nx (ρ.set i (some (.own (.lst (l ++ [d])))))) S1 else .bad
  | _ => .bad
theorem sm_append {o : Expr} {apos cpos spos : Pos} {i : Nat} (ho : PE X o (tVar i)) (ha : EM X e me) (hbase : attributeBase o "append" X.env (eval o X.env) = eval o X.env := by rfl)
    (hfew : ((backTo cpos (starEach [e] X.env)).all (fun x => !x.1) && (backToKw cpos (keywordEach [] X.env)).all (fun x => x.1.isSome) && decide ([e].length + ([] : List Keyword).length + (if ([] : List Keyword).isEmpty then 0 else 1) < 30)) = true := by rfl)
    (hline : (apos.endLine == cpos.line) = true := by rfl) (hs : starEach [e] X.env = (false, eval e X.env) :: starEach [] X.env := by rfl) (hplain : (backTo cpos (starEach [] X.env)).any (·.1) = false := by rfl)
    (hsw : swapsWith (.Call (.Attribute o "append" apos) [e] [] cpos) none spos.line X.env = pure false := by rfl) : SM X (.Expr (.Call (.Attribute o "append" apos) [e] [] cpos) spos) (mApp i me) :=
  PS.of (ps_expr (pe_bm PySem.F.plainAttrs_list PySem.F.slot_list_append PySem.F.type_list_append mt_append ho (pa_cons ha pa_nil hs) hbase hfew hline hs hplain) hsw) fun E σ H ⟨g, w, o, ρ, S, fl, S', s, hm, q⟩ => by
    obtain ⟨d, S1, h1, hm⟩ := R.bind_ok hm
    split at hm
    · rename_i l hl
      split at hm
      · rename_i hz
        cases hm
        obtain ⟨a, e1, m, vs, hH, r⟩ := s.own i _ hl
        refine ⟨_, e1, .inl ⟨rfl, vs, .of hH⟩, ?_⟩
        refine ⟨g, w, o, ρ, S, d, _, s, h1, fun v g1 H1 x1 s1 r1 => ?_⟩
        have st1 := s.ext x1 s1
        obtain ⟨a', e1', m', vs', hH', r'⟩ := st1.own i _ hl
        rw [e1] at e1'; cases e1'
        have mD : Mut (H1 a) := by rw [hH']; trivial
        have fD : a ∈ w ++ o := List.mem_append_right _ m
        refine ⟨a, vs', v, rfl, rfl, hH', by rw [← r'.length]; exact hz, q g1 o _ (x1.s.trans (.updO mD m)) _ (st1.updO hl e1 mD ?_)⟩
        exact ⟨vs' ++ [v], upd_same, RelDs.upd mD (.inl fD) _ _ (RelDs.append r' ⟨v, [], rfl, r1, rfl⟩)⟩
      · cases hm
    · cases hm
/-- x[i] = e, x a cell of the store -/
def putC (c k d : D) (S : Store) : Option Store := match c, k with
  | .loc n, .int j => match S[n]? with
    | some (.lst l) => (ixN l.length j).map fun m => S.set n (.lst (l.set m d))
    | _ => none
  | _, _ => none
theorem putC_ok : ∀ {c k d : D} {S S' : Store}, putC c k d S = some S' → ∃ n j l m, c = .loc n ∧ k = .int j ∧ S[n]? = some (.lst l) ∧ ixN l.length j = some m ∧ S' = S.set n (.lst (l.set m d))
  | .loc n, .int j, d, S, S', h => by
    dsimp only [putC] at h
    cases e : S[n]? with
    | none => rw [e] at h; cases h
    | some c =>
      rw [e] at h
      cases c with
      | lst l =>
        cases e2 : ixN l.length j with
        | none => have h : (ixN l.length j).map (fun m => S.set n (.lst (l.set m d))) = some S' := h; rw [e2] at h; cases h
        | some m => have h : (ixN l.length j).map (fun m => S.set n (.lst (l.set m d))) = some S' := h; rw [e2] at h; cases h; exact ⟨n, j, l, m, rfl, rfl, e, e2, rfl⟩
      | dK _ => cases h
      | dT _ => cases h
      | dF _ => cases h
      | dG _ => cases h
  | .loc n, .non, _, _, _, h | .loc n, .bl _, _, _, _, h | .loc n, .str _, _, _, _, h | .loc n, .tup _, _, _, _, h | .loc n, .lst _, _, _, _, h | .loc n, .loc _, _, _, _, h | .loc n, .raw _, _, _, _, h | .loc n, .scr _, _, _, _, h | .loc n, .ex _ _ _, _, _, _, h => by cases h
  | .non, _, _, _, _, h | .bl _, _, _, _, _, h | .int _, _, _, _, _, h | .str _, _, _, _, _, h | .tup _, _, _, _, _, h | .lst _, _, _, _, _, h | .raw _, _, _, _, _, h | .scr _, _, _, _, _, h | .ex _ _ _, _, _, _, _, h => by cases h
def mSetC (o i e : ME) : MS := fun ρ S => (e ρ S).bind fun d S1 => (o ρ S1).bind fun c S2 => (i ρ S2).bind fun k S3 => match putC c k d S3 with
  | some S4 => .ok (.nx ρ) S4
  | none => .bad
theorem sm_setC {st : Stmt} {mo : ME} (h : PS X st (tAsg (tE X.K me) (gSub (tE X.K mo) (tE X.K mi) rSetL))) : SM X st (mSetC mo mi me) := PS.of h fun E σ H ⟨g, w, o, ρ, S, fl, S', s, hm, q⟩ => by
  obtain ⟨d, S1, h1, hm⟩ := R.bind_ok hm
  obtain ⟨c, S2, h2, hm⟩ := R.bind_ok hm
  obtain ⟨k, S3, h3, hm⟩ := R.bind_ok hm
  split at hm
  · rename_i S4 hp
    cases hm
    obtain ⟨n, j, l, m, rfl, rfl, hl, hmx, rfl⟩ := putC_ok hp
    refine ⟨g, w, o, ρ, S, d, S1, s, h1, fun v g1 H1 x1 s1 r1 => ?_⟩
    have t1 := s.ext x1 s1
    refine ⟨g1, w, o, ρ, S1, _, S2, t1, h2, fun vc g2 H2 x2 s2 r2 => ?_⟩
    have t2 := t1.ext x2 s2
    refine ⟨g2, w, o, ρ, S2, _, S3, t2, h3, fun vk g3 H3 x3 s3 r3 => ?_⟩
    have t3 := t2.ext x3 s3
    obtain ⟨a, ea, hg⟩ := RelD.ext x3 _ _ r2
    obtain ⟨vs, hH, r⟩ := s3.cel n _ a hl hg
    have mD : Mut (H3 a) := by rw [hH]; trivial
    have gD : a ∈ g3 := List.mem_of_getElem? hg
    have rv := RelD.ext (x2.trans x3) d v r1
    refine ⟨a, vs, j, m, ea, r3, hH, by rw [← r.length]; exact hmx, ?_⟩
    have x4 : Ext g3 H3 g3 (upd H3 a (.lst (vs.set m v))) := .updG mD gD
    have s4 := s3.updG (c := .lst (l.set m d)) (u := .lst (vs.set m v)) mD hg ⟨_, upd_same, RelDs.upd mD (.inr gD) _ _ (RelDs.set r rv)⟩
    exact q g3 o _ (((x1.trans x2).trans x3).trans x4).s σ (t3.ext x4 s4)
  · cases hm
end
end Mo
set_option maxRecDepth 100000
set_option maxHeartbeats 1000000
/-! Mo: the law's own head. -/
namespace Mo
open PySem PySem.Spec PyProof.Rows L2

section
variable {P : Program} {w : World} {K : PySem.W.Frag} {mg mb : Str → Option Value} {k : Nat} {fa a : Addr} {fd : FuncData} {x : Str} {s : Shared} {ob : Obj} {its : Array Value} {n : Nat}
/-- from an abstract heap that holds the script alone, or nothing -/
theorem head_core (kin : K.In s.heap) (hG : s.heap.Ns mainGlobals mg) (hB : s.heap.Ns builtinsNs mb) (hbb : ∀ y : Str, y ≠ "__name__" → mb y = bootBuiltins y) (lim : s.heap.NoLimit) (gens : s.gens = #[])
    (ho : s.heap.get? a = some ob) (hd : ob.data = .seq its n) (hr : Room k callerA) (F : ∀ base : Heap, K.In base → base.Ns mainGlobals mg → FnG P w K mg base CX0 k fa fd [x] (spM K 1 m))
    (hbind : ∀ (s : Shared) (u : Value), BindsTo s fd ⟨[u], []⟩ [(x, u)]) (H : Hp) (hH : ∀ b u, H b = some u → b = a ∧ K.lookup a = none ∧ ∃ xs, u = .frz ob (.lst xs)) (hok : HOk P w H s.heap)
    (hsp : spM K 1 m [.ref a] H (fun v _ => v = .bl true) E0) :
    codeAny (model P w) callerA (.call (.ref fa) ⟨[.ref a], []⟩) (fun r s' => r = .ok (.ret (.bool true)) ∧ OldK s.heap s'.heap ∧ s'.os = s.os ∧ AllBare s'.gens) s := by
  have un : ∀ {b : Addr}, b ≠ a → H b = none := fun {b} hb => by
    cases e : H b with
    | none => rfl
    | some u => exact absurd (hH b u e).1 hb
  have apart : ∀ {b : Addr} {o : Obj} {es : Array DictEntry} {ep : Nat}, s.heap.get? b = some o → o.data = .dict es ep → b ≠ a := fun {b o es ep} e d z => by
    subst z
    rw [ho] at e
    cases e
    rw [hd] at d
    cases d
  have ns : ∀ {b : Addr} {f : Str → Option Value}, s.heap.Ns b f → (hidT s.heap H).Ns b f := by
    rintro b f ⟨o, es, ep, e, d, r⟩
    exact ⟨o, es, ep, hidT_get e (un (apart e d)), d, r⟩
  have kin' : K.In (hidT s.heap H) := by
    intro b o e
    refine hidT_get (kin b o e) ?_
    cases q : H b with
    | none => rfl
    | some u =>
      obtain ⟨hb, hk, _⟩ := hH b u q
      subst hb
      rw [hk] at e
      cases e
  have lim' : (hidT s.heap H).NoLimit := by
    obtain ⟨mc, h1, h2⟩ := lim
    exact ⟨mc, ns h1, h2⟩
  have env : Env0 P w K mg (hidT s.heap H) callerA [] s H :=
    { frames := rfl, mod := ⟨kin', ns hG, ⟨mb, ns hB, hbb⟩, lim'⟩, bs := fun b o e => of_hidT e, bsz := Nat.le_of_eq (hidT_size _ _), funs := trivial, frf := fun b hb => (nomatch hb), hok := hok, bare := .of_eq gens }
  refine codeAny_mono ((F _ kin' (ns hG)).go callerA [] s H ⟨[.ref a], []⟩ [.ref a] [.ref a] _ _ rfl hr env (hbind s (.ref a)) (.cons rfl .nil) hsp) ?_
  intro r s' hq
  match r, hq with
  | .error e, hq => exact hq.elim
  | .ok .next, hq => exact hq.elim
  | .ok .brk, hq => exact hq.elim
  | .ok .cont, hq => exact hq.elim
  | .ok (.ret u), ⟨v, H', os, bare, ch, hok', rv, q⟩ =>
    subst q
    cases rv
    refine ⟨rfl, OldK.of_keep fun b o e => ?_, os, bare⟩
    by_cases hb : b = a
    · subst hb
      cases q : H b with
      | none => exact ch.keep b o e q (fun z => nomatch z) (fun z => nomatch z)
      | some u =>
        obtain ⟨_, _, xs, rfl⟩ := hH b u q
        have e1 := (hok b _ q).1
        have e2 := (hok' b _ (ch.frzs b ob _ q)).1
        rw [e] at e1
        cases e1
        exact e2
    · exact ch.keep b o e (un hb) (fun z => nomatch z) (fun z => nomatch z)
end
section
variable {l : PySem.W.OpenLaw} {n k : Nat} {q : Program} {loose : List Str} {XP : (Str → Option Value) → Heap → Prop} {YP : World → Heap → Prop} {d : DefRec} {K : Params → PySem.W.Frag} {x : Str} {m : MF}
/-- what k_head leaves, from the law's meaning at every script -/
theorem walk_g (hn : l.most = some n) (hn2 : n ≤ sizeLine) (hdf : d.params.defaults = []) (hr : Room k callerA) (hY : ∀ (w : World) (h : Heap), YP w h → (K w.params).In h)
    (F : ∀ (w : World) (mg : Str → Option Value) (fa : Addr) (h : Heap), (K w.params).In h → h.Ns mainGlobals mg → mg d.name = some (.ref fa) →
      ∃ fd : FuncData, (∀ (s : Shared) (u : Value), BindsTo s fd ⟨[u], []⟩ [(x, u)]) ∧ ∀ base : Heap, (K w.params).In base → base.Ns mainGlobals mg → FnG l.prog w (K w.params) mg base CX0 k fa fd [x] (spM (K w.params) 1 m))
    (hm : ∀ ns : List Int, ns.length ≤ n → ∃ S', m [.scr ns] [] = .ok (.bl true) S') : PySem.W.WalkO q loose XP YP l.row.toRowW d [] (fun f vs => PySem.call f vs) := by
  refine Att.attach_call hn hdf ?_
  intro w s0 s1 mg mb fa o pm cd doc a vs ns G Y ho hd hcd hmg hobj hints hlen hg
  have KX := hY w _ Y
  obtain ⟨fd, hb, hF⟩ := F w mg fa _ KX G.T.g hmg
  have rv := vals_ints hints
  have hz : ns.length ≤ sizeLine := Nat.le_trans hlen hn2
  obtain ⟨S', hS⟩ := hm ns hlen
  have sp : ∀ H : Hp, ScrL (K w.params) [] [] H a (ns.map V.int) → spM (K w.params) 1 m [.ref a] H (fun v _ => v = .bl true) E0 := fun H hs =>
    ⟨rfl, [], [], [.scr ns], [], .bl true, S', fun b hb => (nomatch hb), ⟨rfl, List.nodup_nil, fun n c a e _ => by simp at e⟩, ⟨.ref a, [], rfl, ⟨a, rfl, hs⟩, rfl⟩, hS, fun v g' H' _ _ r => r⟩
  by_cases hk : (K w.params).lookup a = none
  · refine head_core (H := fun b => if b = a then some (.frz { cls := .type "list", data := .seq vs.toArray } (.lst (ns.map V.int))) else none) KX G.T.g G.T.b G.T.builtins G.T.nolimit hg hobj rfl hr hF hb (fun b u e => ?_) (fun b u e => ?_) (sp _ (.inl ⟨(fun z => nomatch z), (fun z => nomatch z), .inr ⟨_, if_pos rfl⟩⟩))
    · skip
      by_cases hba : b = a
      · rw [if_pos hba] at e
        cases e
        exact ⟨hba, hk, _, rfl⟩
      · rw [if_neg hba] at e; cases e
    · dsimp only at e
      by_cases hba : b = a
      · rw [if_pos hba] at e
        cases e
        subst hba
        exact ⟨hobj, by rw [List.length_map]; exact hz, vs, _, rv, hobj⟩
      · rw [if_neg hba] at e; cases e
  · cases e : (K w.params).lookup a with
    | none => exact absurd e hk
    | some oK =>
      have e2 := KX a oK e
      rw [hobj] at e2
      cases e2
      refine head_core (H := fun _ => none) KX G.T.g G.T.b G.T.builtins G.T.nolimit hg hobj rfl hr hF hb (fun b u e => nomatch e) (fun b u e => nomatch e) (sp _ (.inr ⟨_, vs.toArray, _, e, rfl, rfl, rfl, ?_, by simpa using rv⟩))
      rw [List.size_toArray, hints.length]
      exact hz
end
end Mo
set_option maxRecDepth 100000
set_option maxHeartbeats 1000000
/-! Mo: order, sorted, min, max, repr of data; dicts as cells of the store. -/
namespace Mo
open PySem PySem.Spec PyProof.Rows L2

/-! ### back from data -/
mutual
def ofP : PyData → D
  | .none => .non
  | .bool b => .bl b
  | .int i => .int i
  | .str x => .str x
  | .tuple l => .tup (ofPs l)
  | .list l => .lst (ofPs l)
  | .dict _ => .non
def ofPs : List PyData → List D
  | [] => []
  | p :: ps => ofP p :: ofPs ps
end
mutual
theorem ofP_toP : ∀ (d : D) (p : PyData), toP d = some p → ofP p = d
  | .non, _, e => by unfold toP at e; cases e; rw [ofP]
  | .bl b, _, e => by unfold toP at e; cases e; rw [ofP]
  | .int i, _, e => by unfold toP at e; cases e; rw [ofP]
  | .str x, _, e => by unfold toP at e; cases e; rw [ofP]
  | .tup l, _, e => by
    unfold toP at e
    cases h : toPs l with
    | none => rw [h] at e; cases e
    | some ps => rw [h] at e; cases e; rw [ofP, ofPs_toPs l ps h]
  | .lst l, _, e => by
    unfold toP at e
    cases h : toPs l with
    | none => rw [h] at e; cases e
    | some ps => rw [h] at e; cases e; rw [ofP, ofPs_toPs l ps h]
  | .loc n, _, e => by unfold toP at e; cases e
  | .raw n, _, e => by unfold toP at e; cases e
  | .scr n, _, e => by unfold toP at e; cases e
  | .ex _ _ _, _, e => by unfold toP at e; cases e
theorem ofPs_toPs : ∀ (l : List D) (ps : List PyData), toPs l = some ps → ofPs ps = l
  | [], _, e => by unfold toPs at e; cases e; rw [ofPs]
  | d :: ds, _, e => by
    unfold toPs at e
    split at e
    · rename_i p ps hp hps
      cases e
      rw [ofPs, ofP_toP d p hp, ofPs_toPs ds ps hps]
    · cases e
end
mutual
theorem toP_noDict : ∀ (d : D) (p : PyData), toP d = some p → p.hasDict = false
  | .non, _, e => by unfold toP at e; cases e; rw [PyData.hasDict]
  | .bl b, _, e => by unfold toP at e; cases e; rw [PyData.hasDict]
  | .int i, _, e => by unfold toP at e; cases e; rw [PyData.hasDict]
  | .str x, _, e => by unfold toP at e; cases e; rw [PyData.hasDict]
  | .tup l, _, e => by
    unfold toP at e
    cases h : toPs l with
    | none => rw [h] at e; cases e
    | some ps => rw [h] at e; cases e; rw [PyData.hasDict, toPs_noDict l ps h]
  | .lst l, _, e => by
    unfold toP at e
    cases h : toPs l with
    | none => rw [h] at e; cases e
    | some ps => rw [h] at e; cases e; rw [PyData.hasDict, toPs_noDict l ps h]
  | .loc n, _, e => by unfold toP at e; cases e
  | .raw n, _, e => by unfold toP at e; cases e
  | .scr n, _, e => by unfold toP at e; cases e
  | .ex _ _ _, _, e => by unfold toP at e; cases e
theorem toPs_noDict : ∀ (l : List D) (ps : List PyData), toPs l = some ps → PyData.hasDictAll ps = false
  | [], _, e => by unfold toPs at e; cases e; rw [PyData.hasDictAll]
  | d :: ds, _, e => by
    unfold toPs at e
    split at e
    · rename_i p ps hp hps
      cases e
      rw [PyData.hasDictAll, toP_noDict d p hp, toPs_noDict ds ps hps]; rfl
    · cases e
end
theorem toPs_length : ∀ {l : List D} {ps : List PyData}, toPs l = some ps → l.length = ps.length
  | [], _, e => by unfold toPs at e; cases e; rfl
  | d :: ds, _, e => by
    unfold toPs at e
    split at e
    · rename_i p ps hp hps
      cases e
      rw [List.length_cons, List.length_cons, toPs_length hps]
    · cases e
theorem toPs_get : ∀ {l : List D} {ps : List PyData} {i : Nat} {d : D}, toPs l = some ps → l[i]? = some d → ∃ p, ps[i]? = some p ∧ toP d = some p
  | [], _, i, _, _, h => by simp at h
  | d :: ds, _, i, e, hp, h => by
    unfold toPs at hp
    split at hp
    · rename_i p ps h1 h2
      cases hp
      cases i with
      | zero => simp at h; subst h; exact ⟨p, rfl, h1⟩
      | succ i => exact toPs_get (i := i) h2 (by simpa using h)
    · cases hp

/-! ### repr -/
def notNoneP : PyData → Bool
  | .none => false
  | _ => true
/-- what repr gives of a tuple or a list -/
def shownOk (p : PyData) : Prop := p.showable = true ∧ p.depth ≤ 60 ∧ p.shown.length ≤ sizeLine
instance : ∀ p, Decidable (shownOk p) := fun _ => by unfold shownOk; infer_instance
def gRepr (d : D) (S : Store) : R D := match d with
  | .tup _ => match toP d with
    | some p => if shownOk p then .ok (.str p.shown) S else .bad
    | none => .bad
  | .lst _ => match toP d with
    | some p => if shownOk p then .ok (.str p.shown) S else .bad
    | none => .bad
  | _ => .bad
section
variable {X : Cx}
theorem cr_repr (hg : X.A.guards = some []) (hu : X.A.units + 64 < cLine) : CallR X (.builtin "repr") (fun xs H Q => ∃ a p, xs = [.ref a] ∧ Dp X.K H (.ref a) p ∧ p.hasDict = false ∧ shownOk p ∧ Q (.str p.shown) H) := by
  intro pins s σ H xs us Q I r h
  obtain ⟨a, p, rfl, hd, nd, ⟨h1, h2, h3⟩, q⟩ := h
  rw [Vals.ref1 r]
  obtain ⟨as, rd⟩ := Dp.reads I p (.ref a) (.ref a) hd rfl
  refine repr_of_reads' rd h1 (fun z => by rw [nd] at z; cases z) hg (by omega) (fun _ _ e => e) (fun h' u tk hk => ?_) h3
  exact ⟨.str p.shown, H, I.kept (t' := tk) hk, ⟨u, rfl⟩, q⟩
variable {e a b : Expr} {me ma mb mk mv : ME} {ml : ML} {l : MA} {pos p : Pos}
theorem em_repr (hgd : X.A.guards = some []) (hu : X.A.units + 64 < cLine) (h : EM X e me) (hg : Gl X "repr") (hm : X.mg "repr" = none) (hb : bootBuiltins "repr" = some (.builtin "repr") := by decide +kernel) (hs : starEach [e] X.env = (false, eval e X.env) :: starEach [] X.env := by rfl) (hpl : (backTo pos (starEach [] X.env)).any (·.1) = false := by rfl) :
    EM X (.Call (.Name "repr" p) [e] [] pos) (mB1 gRepr me) :=
  PE.of (pe_callB (cr_repr hgd hu) hg hm hb (b1 h hs) (by decide) (by decide) hs hpl) fun σ H Q ⟨g, w, o, ρ, S, d, S', s, hm, q⟩ => by
    obtain ⟨d1, S1, h1, h2⟩ := R.bind_ok hm
    refine ⟨g, w, o, ρ, S, d1, S1, s, h1, fun v g1 H1 x1 s1 r1 => ?_⟩
    unfold gRepr at h2
    split at h2
    · rename_i l
      split at h2
      · rename_i pd hp
        split at h2
        · rename_i hok
          cases h2
          have dp := RelD.dp _ _ _ r1 hp
          obtain ⟨a, vs, ev, _⟩ := r1
          subst ev
          exact ⟨a, pd, rfl, dp, toP_noDict _ _ hp, hok, q _ g1 H1 x1 s1 rfl⟩
        · cases h2
      · cases h2
    · rename_i l
      split at h2
      · rename_i pd hp
        split at h2
        · rename_i hok
          cases h2
          have dp := RelD.dp _ _ _ r1 hp
          obtain ⟨a, vs, ev, _⟩ := r1
          subst ev
          exact ⟨a, pd, rfl, dp, toP_noDict _ _ hp, hok, q _ g1 H1 x1 s1 rfl⟩
        · cases h2
      · cases h2
    · cases h2

/-! ### min, max of data -/
def alikeB (ps : List PyData) : Bool := ps.all (fun x => ps.all (PySem.W.alike x)) && ps.all notNoneP
theorem alikeB_of {ps : List PyData} (h : alikeB ps = true) : PySem.W.AlikeAll ps := by
  unfold alikeB at h
  rw [Bool.and_eq_true, List.all_eq_true, List.all_eq_true] at h
  refine ⟨fun x hx y hy => List.all_eq_true.mp (h.1 x hx) y hy, fun x hx e => ?_⟩
  have := h.2 x hx
  subst e
  cases this
def hMinD (l : List D) (S : Store) : R D := match toPs l with
  | some (p :: ps) => if alikeB (p :: ps) = true ∧ PyData.depthAll (p :: ps) ≤ 60 then .ok (ofP (PySem.W.minD p ps)) S else .bad
  | _ => .bad
def hMaxD (l : List D) (S : Store) : R D := match toPs l with
  | some (p :: ps) => if alikeB (p :: ps) = true ∧ PyData.depthAll (p :: ps) ≤ 60 then .ok (ofP (PySem.W.maxD p ps)) S else .bad
  | _ => .bad
theorem alike_data {ps : List PyData} (h : PySem.W.AlikeAll ps) {x y : PyData} (hx : x ∈ ps) (hy : y ∈ ps) : PySem.W.alike x y = true := h.1 x hx y hy
theorem minD_mem (x : PyData) : ∀ xs : List PyData, PySem.W.minD x xs ∈ x :: xs := by
  intro xs
  unfold PySem.W.minD
  induction xs generalizing x with
  | nil => simp
  | cons y ys ih =>
    rw [List.foldl_cons]
    have := ih (if PySem.W.dataLt y x = true then y else x)
    rcases List.mem_cons.mp this with e | e
    · rw [e]
      split <;> simp
    · simp [e]
theorem maxD_mem (x : PyData) : ∀ xs : List PyData, PySem.W.maxD x xs ∈ x :: xs := by
  intro xs
  unfold PySem.W.maxD
  induction xs generalizing x with
  | nil => simp
  | cons y ys ih =>
    rw [List.foldl_cons]
    have := ih (if PySem.W.dataLt x y = true then y else x)
    rcases List.mem_cons.mp this with e | e
    · rw [e]
      split <;> simp
    · simp [e]
/-- the answer: one of the items, the least (the greatest) -/
theorem pick_item {K : PySem.W.Frag} {g f : List Addr} {H : Hp} {l : List D} {ps : List PyData} {vs : List V} {its : List Value} {h h' : Heap} {as bs : List Addr} {i : Nat} {v : Value} {p : PyData} (ha : PySem.W.AlikeAll ps) (hp : toPs l = some ps) (r : RelDs K g f H l vs) (rv : Vals vs its)
    (hr : ReadsAll h its ps as) (hk : ∀ b o, h.get? b = some o → h'.get? b = some o) (hi : its[i]? = some v) (hm : p ∈ ps) (hb : Reads h' v p bs) : ∃ x, RelV x v ∧ RelD K g f H (ofP p) x := by
  obtain ⟨bs', rd, hlt, mem, _⟩ := PySem.W.readsAll_at hr i v hi
  have hl : i < l.length := by rw [toPs_length hp]; exact hlt
  obtain ⟨x, ex, rx⟩ := r.get (List.getElem?_eq_getElem hl)
  obtain ⟨p', ep, tp⟩ := toPs_get hp (List.getElem?_eq_getElem hl)
  have e1 : ps.getD i .none = p' := by rw [List.getD_eq_getElem?_getD, ep]; rfl
  rw [e1] at rd mem
  have e2 : p' = p := PySem.W.alike_unique p' p v _ _ (ha.1 p' mem p hm) (PySem.W.reads_keeps hk rd) hb
  subst e2
  obtain ⟨u, eu, ru⟩ := rv.get ex
  rw [eu] at hi
  cases hi
  exact ⟨x, ru, by rw [ofP_toP _ _ tp]; exact rx⟩
theorem cr_minD (hc : X.calm = true) (hu : X.A.units + 64 < cLine) : CallR X (.builtin "min") (fun xs H Q => ∃ a vs l d S g f, xs = [.ref a] ∧ SqL X.K H a vs ∧ RelDs X.K g f H l vs ∧ hMinD l S = .ok d S ∧ ∀ v, RelD X.K g f H d v → Q v H) := by
  intro pins s σ H xs us Q I r h
  obtain ⟨a, vs, l, d, S, g, f, rfl, hs, rl, hm, q⟩ := h
  rw [Vals.ref1 r]
  obtain ⟨its, rv, pl, _⟩ := I.list hs
  unfold hMinD at hm
  split at hm
  · rename_i p ps hp
    split at hm
    · rename_i hc2
      cases hm
      have ha := alikeB_of hc2.1
      obtain ⟨as, hr⟩ := Dp.readsAll I _ _ its (RelDs.dp _ _ _ rl hp) rv
      refine PySem.W.min_list_data (I.ok.hd hc) pl.isList (x := p) (xs := ps) (by simpa using hr) ha (by omega) fun i v h' tk bs hi hb hk => ?_
      obtain ⟨x, rx, rd⟩ := pick_item ha hp rl rv hr hk (by simpa using hi) (minD_mem p ps) hb
      exact ⟨x, H, I.kept (t' := tk) hk, rx, q x rd⟩
    · cases hm
  · cases hm
theorem cr_maxD (hc : X.calm = true) (hu : X.A.units + 64 < cLine) : CallR X (.builtin "max") (fun xs H Q => ∃ a vs l d S g f, xs = [.ref a] ∧ SqL X.K H a vs ∧ RelDs X.K g f H l vs ∧ hMaxD l S = .ok d S ∧ ∀ v, RelD X.K g f H d v → Q v H) := by
  intro pins s σ H xs us Q I r h
  obtain ⟨a, vs, l, d, S, g, f, rfl, hs, rl, hm, q⟩ := h
  rw [Vals.ref1 r]
  obtain ⟨its, rv, pl, _⟩ := I.list hs
  unfold hMaxD at hm
  split at hm
  · rename_i p ps hp
    split at hm
    · rename_i hc2
      cases hm
      have ha := alikeB_of hc2.1
      obtain ⟨as, hr⟩ := Dp.readsAll I _ _ its (RelDs.dp _ _ _ rl hp) rv
      refine PySem.W.max_list_data (I.ok.hd hc) pl.isList (x := p) (xs := ps) (by simpa using hr) ha (by omega) fun i v h' tk bs hi hb hk => ?_
      obtain ⟨x, rx, rd⟩ := pick_item ha hp rl rv hr hk (by simpa using hi) (maxD_mem p ps) hb
      exact ⟨x, H, I.kept (t' := tk) hk, rx, q x rd⟩
    · cases hm
  · cases hm
theorem hMinD_S {l : List D} {S S' : Store} {d : D} (h : hMinD l S = .ok d S') : S' = S ∧ hMinD l S = .ok d S := by
  have h0 := h
  unfold hMinD at h
  split at h
  · split at h
    · cases h; exact ⟨rfl, h0⟩
    · cases h
  · cases h
theorem hMaxD_S {l : List D} {S S' : Store} {d : D} (h : hMaxD l S = .ok d S') : S' = S ∧ hMaxD l S = .ok d S := by
  have h0 := h
  unfold hMaxD at h
  split at h
  · split at h
    · cases h; exact ⟨rfl, h0⟩
    · cases h
  · cases h
theorem em_minQ (hc : X.calm = true) (hu : X.A.units + 64 < cLine) (h : QM X e ml) (hg : Gl X "min") (hm : X.mg "min" = none) (hb : bootBuiltins "min" = some (.builtin "min") := by decide +kernel) (hs : starEach [e] X.env = (false, eval e X.env) :: starEach [] X.env := by rfl) (hpl : (backTo pos (starEach [] X.env)).any (·.1) = false := by rfl) :
    EM X (.Call (.Name "min" p) [e] [] pos) (mQ hMinD ml) :=
  PE.of (pe_callB (cr_minD hc hu) hg hm hb (b1 h hs) (by decide) (by decide) hs hpl) fun σ H Q q => q_of (fun g f H S l d S' a vs Q s hq r hm q => by
    obtain ⟨rfl, h2⟩ := hMinD_S hm
    exact ⟨a, vs, l, d, S', g, f, rfl, hq, r, h2, fun v rv => q.same s rv⟩) q
theorem em_maxQ (hc : X.calm = true) (hu : X.A.units + 64 < cLine) (h : QM X e ml) (hg : Gl X "max") (hm : X.mg "max" = none) (hb : bootBuiltins "max" = some (.builtin "max") := by decide +kernel) (hs : starEach [e] X.env = (false, eval e X.env) :: starEach [] X.env := by rfl) (hpl : (backTo pos (starEach [] X.env)).any (·.1) = false := by rfl) :
    EM X (.Call (.Name "max" p) [e] [] pos) (mQ hMaxD ml) :=
  PE.of (pe_callB (cr_maxD hc hu) hg hm hb (b1 h hs) (by decide) (by decide) hs hpl) fun σ H Q q => q_of (fun g f H S l d S' a vs Q s hq r hm q => by
    obtain ⟨rfl, h2⟩ := hMaxD_S hm
    exact ⟨a, vs, l, d, S', g, f, rfl, hq, r, h2, fun v rv => q.same s rv⟩) q
end
end Mo
set_option maxRecDepth 100000
set_option maxHeartbeats 1000000
/-! Mo: max and min of two data, sorted, dicts, enumerate, list * n. -/
namespace Mo
open PySem PySem.Spec PyProof.Rows L2

/-! ### max(a, b), min(a, b) of data -/
section
variable {prog : Program} {w : World} {A : Around} {E : Value → Shared → Prop} {s : Shared}
theorem max_two_data {a b : Value} {x y : PyData} {as bs : List Addr} {Q : Value → Shared → Prop} (hh : A.handled = none) (ra : Reads s.heap a x as) (rb : Reads s.heap b y bs) (hal : PySem.W.AlikeAll [x, y]) (hu : A.units + 1 + PyData.depthAll [x, y] < cLine)
    (h : ∀ h' tk, (∀ c o, s.heap.get? c = some o → h'.get? c = some o) → Q (if PySem.W.dataLt x y = true then b else a) { s with heap := h', toks := tk }) : wpAny (model prog w) A (call (.builtin "max") [a, b]) Q E s := by
  have hT : (s.heap.push { cls := .type "tuple", data := .seq #[a, b] }).IsTuple s.heap.objs.size #[a, b] := ⟨_, Heap.get?_push_size _ rfl, rfl, 0, rfl⟩
  have nm : (toString "max" ++ toString ".loop" : String) = "max.loop" := by decide
  have k0 : ∀ c o, s.heap.get? c = some o → (s.heap.push { cls := .type "tuple", data := .seq #[a, b] }).get? c = some o := fun c o e => Heap.get?_push_of_some _ e
  have hr : ReadsAll (s.heap.push { cls := .type "tuple", data := .seq #[a, b] }) #[a, b].toList [x, y] (as ++ (bs ++ [])) := .cons (Reads.keeps k0 ra) (.cons (Reads.keeps k0 rb) .nil)
  refine call_function_tree F.kind_max F.plain_max F.entry_max (F.args_max2 _ _) ?_
  show wpAny _ A.in1 (Builtin.Builtins.bindParams "max" ["key", "default"] 0 ⟨[], []⟩ >>= _) _ _ s
  refine wpAny_bind (wpAny_of_eq (show Builtin.Builtins.bindParams "max" ["key", "default"] 0 ⟨[], []⟩ = pure [none, none] from rfl) ?_)
  show wpAny _ A.in1 (newTuple [a, b] >>= _) _ _ s
  refine wpAny_bind (wpAny_newObj_type ?_)
  refine wpAny_bind (PySem.W.iter_tupleW (A := A.in1) (s := { s with heap := s.heap.push { cls := .type "tuple", data := .seq #[a, b] } }) hh hT fun s2 e W st hfp hw hk => ?_)
  refine wpAny_bind (wpAny_newObj_type ?_)
  have nf : s2.heap.objs.size ∉ [(s.heap.push { cls := .type "tuple", data := .seq #[a, b] }).objs.size, s.heap.objs.size] := fun hm => Nat.lt_irrefl _ (hfp _ hm)
  rw [nm]
  refine wpAny_pure ⟨plainId_quiet F.plain_max_loop _, codeAny_max_loop_firstH W _ hw _ (PySem.W.cmpIn_gt (A := A.in1) (s := { s with heap := s.heap.push { cls := .type "tuple", data := .seq #[a, b] } }) hr hal (by show A.units + 1 + _ < _; exact hu)) s2.heap.objs.size nf (fresh_in hk) _ (by show 0 < 2; decide)
    (fun c o q => Heap.get?_push_of_some _ (hk c o q)) (W.frame 0 s2 _ s2.toks st (Nat.le_refl _) fun c _ o q => Heap.get?_push_of_some _ q) (Heap.get?_push_size _ rfl) fun v s' hP hm => ?_⟩
  obtain ⟨h', tk, rfl, hk'⟩ := PySem.W.moved_old e rfl (Moved.drop_new (tk := s2.toks) hm (Nat.le_refl _))
  have hv : v = if PySem.W.dataLt x y = true then b else a := by
    cases hc : PySem.W.dataLt x y <;> simp [argBest, hc] at hP <;> simp [hP]
  rw [hv]
  exact h h' tk fun c o q => hk' c o (k0 c o q)
theorem min_two_data {a b : Value} {x y : PyData} {as bs : List Addr} {Q : Value → Shared → Prop} (hh : A.handled = none) (ra : Reads s.heap a x as) (rb : Reads s.heap b y bs) (hal : PySem.W.AlikeAll [x, y]) (hu : A.units + 1 + PyData.depthAll [x, y] < cLine)
    (h : ∀ h' tk, (∀ c o, s.heap.get? c = some o → h'.get? c = some o) → Q (if PySem.W.dataLt y x = true then b else a) { s with heap := h', toks := tk }) : wpAny (model prog w) A (call (.builtin "min") [a, b]) Q E s := by
  have hT : (s.heap.push { cls := .type "tuple", data := .seq #[a, b] }).IsTuple s.heap.objs.size #[a, b] := ⟨_, Heap.get?_push_size _ rfl, rfl, 0, rfl⟩
  have nm : (toString "min" ++ toString ".loop" : String) = "min.loop" := by decide
  have k0 : ∀ c o, s.heap.get? c = some o → (s.heap.push { cls := .type "tuple", data := .seq #[a, b] }).get? c = some o := fun c o e => Heap.get?_push_of_some _ e
  have hr : ReadsAll (s.heap.push { cls := .type "tuple", data := .seq #[a, b] }) #[a, b].toList [x, y] (as ++ (bs ++ [])) := .cons (Reads.keeps k0 ra) (.cons (Reads.keeps k0 rb) .nil)
  refine call_function_tree F.kind_min F.plain_min F.entry_min (F.args_min2 _ _) ?_
  show wpAny _ A.in1 (Builtin.Builtins.bindParams "min" ["key", "default"] 0 ⟨[], []⟩ >>= _) _ _ s
  refine wpAny_bind (wpAny_of_eq (show Builtin.Builtins.bindParams "min" ["key", "default"] 0 ⟨[], []⟩ = pure [none, none] from rfl) ?_)
  show wpAny _ A.in1 (newTuple [a, b] >>= _) _ _ s
  refine wpAny_bind (wpAny_newObj_type ?_)
  refine wpAny_bind (PySem.W.iter_tupleW (A := A.in1) (s := { s with heap := s.heap.push { cls := .type "tuple", data := .seq #[a, b] } }) hh hT fun s2 e W st hfp hw hk => ?_)
  refine wpAny_bind (wpAny_newObj_type ?_)
  have nf : s2.heap.objs.size ∉ [(s.heap.push { cls := .type "tuple", data := .seq #[a, b] }).objs.size, s.heap.objs.size] := fun hm => Nat.lt_irrefl _ (hfp _ hm)
  rw [nm]
  refine wpAny_pure ⟨plainId_quiet F.plain_min_loop _, codeAny_min_loop_firstH W _ hw _ (PySem.W.cmpIn_lt (A := A.in1) (s := { s with heap := s.heap.push { cls := .type "tuple", data := .seq #[a, b] } }) hr hal (by show A.units + 1 + _ < _; exact hu)) s2.heap.objs.size nf (fresh_in hk) _ (by show 0 < 2; decide)
    (fun c o q => Heap.get?_push_of_some _ (hk c o q)) (W.frame 0 s2 _ s2.toks st (Nat.le_refl _) fun c _ o q => Heap.get?_push_of_some _ q) (Heap.get?_push_size _ rfl) fun v s' hP hm => ?_⟩
  obtain ⟨h', tk, rfl, hk'⟩ := PySem.W.moved_old e rfl (Moved.drop_new (tk := s2.toks) hm (Nat.le_refl _))
  have hv : v = if PySem.W.dataLt y x = true then b else a := by
    cases hc : PySem.W.dataLt y x <;> simp [argBest, hc] at hP <;> simp [hP]
  rw [hv]
  exact h h' tk fun c o q => hk' c o (k0 c o q)
end
/-- the two alike, not too deep -/
def two? (x y : D) : Option (PyData × PyData) := match toP x, toP y with
  | some p, some q => if alikeB [p, q] = true ∧ PyData.depthAll [p, q] ≤ 60 then some (p, q) else none
  | _, _ => none
def hMax2D : List D → Store → R D
  | [x, y], S => match two? x y with
    | some (p, q) => .ok (if PySem.W.dataLt p q = true then y else x) S
    | none => .bad
  | _, _ => .bad
def hMin2D : List D → Store → R D
  | [x, y], S => match two? x y with
    | some (p, q) => .ok (if PySem.W.dataLt q p = true then y else x) S
    | none => .bad
  | _, _ => .bad
theorem two_of {x y : D} {p q : PyData} (h : two? x y = some (p, q)) : toP x = some p ∧ toP y = some q ∧ PySem.W.AlikeAll [p, q] ∧ PyData.depthAll [p, q] ≤ 60 := by
  unfold two? at h
  split at h
  · rename_i p' q' h1 h2
    split at h
    · rename_i hc
      cases h
      exact ⟨h1, h2, alikeB_of hc.1, hc.2⟩
    · cases h
  · cases h
section
variable {X : Cx} {e a b : Expr} {me ma mb mk mv mo : ME} {ml : ML} {l : MA} {pos p : Pos}
theorem cr_max2D (hc : X.calm = true) (hu : X.A.units + 64 < cLine) : CallR X (.builtin "max") (fun xs H Q => ∃ x y p q, xs = [x, y] ∧ Dp X.K H x p ∧ Dp X.K H y q ∧ PySem.W.AlikeAll [p, q] ∧ PyData.depthAll [p, q] ≤ 60 ∧ Q (if PySem.W.dataLt p q = true then y else x) H) := by
  intro pins s σ H xs us Q I r h
  obtain ⟨x, y, p, q, rfl, h1, h2, ha, hd, hq⟩ := h
  obtain ⟨u, v, rfl, ru, rv⟩ := Vals.two r
  obtain ⟨as, r1⟩ := Dp.reads I p x u h1 ru
  obtain ⟨bs, r2⟩ := Dp.reads I q y v h2 rv
  refine max_two_data (I.ok.hd hc) r1 r2 ha (by omega) fun h' tk hk => ⟨_, H, I.kept (t' := tk) hk, ?_, hq⟩
  by_cases z : PySem.W.dataLt p q = true
  · rw [if_pos z, if_pos z]; exact rv
  · rw [if_neg z, if_neg z]; exact ru
theorem cr_min2D (hc : X.calm = true) (hu : X.A.units + 64 < cLine) : CallR X (.builtin "min") (fun xs H Q => ∃ x y p q, xs = [x, y] ∧ Dp X.K H x p ∧ Dp X.K H y q ∧ PySem.W.AlikeAll [p, q] ∧ PyData.depthAll [p, q] ≤ 60 ∧ Q (if PySem.W.dataLt q p = true then y else x) H) := by
  intro pins s σ H xs us Q I r h
  obtain ⟨x, y, p, q, rfl, h1, h2, ha, hd, hq⟩ := h
  obtain ⟨u, v, rfl, ru, rv⟩ := Vals.two r
  obtain ⟨as, r1⟩ := Dp.reads I p x u h1 ru
  obtain ⟨bs, r2⟩ := Dp.reads I q y v h2 rv
  refine min_two_data (I.ok.hd hc) r1 r2 ha (by omega) fun h' tk hk => ⟨_, H, I.kept (t' := tk) hk, ?_, hq⟩
  by_cases z : PySem.W.dataLt q p = true
  · rw [if_pos z, if_pos z]; exact rv
  · rw [if_neg z, if_neg z]; exact ru
theorem em_max2D (hc : X.calm = true) (hu : X.A.units + 64 < cLine) (h : AM X [a, b] l) (hg : Gl X "max") (hm : X.mg "max" = none) (hb : bootBuiltins "max" = some (.builtin "max") := by decide +kernel) (hs : starEach [a, b] X.env = (false, eval a X.env) :: starEach [b] X.env := by rfl) (hpl : (backTo pos (starEach [b] X.env)).any (·.1) = false := by rfl) :
    EM X (.Call (.Name "max" p) [a, b] [] pos) (mA hMax2D l) :=
  PE.of (pe_callB (cr_max2D hc hu) hg hm hb h (by decide) (by decide) hs hpl) fun σ H Q q => a_of (fun g f H S l d S' vs Q s r hm q => by
    match l, r, hm with
    | [x, y], ⟨v, t, ev, rv, v2, t2, ev2, rv2, rn⟩, hm =>
      dsimp only [hMax2D] at hm
      split at hm
      · rename_i p' q' h2
        cases hm
        obtain ⟨t1, t2', ha, hd⟩ := two_of h2
        cases rn; subst ev2
        refine ⟨v, v2, p', q', ev, RelD.dp _ _ _ rv t1, RelD.dp _ _ _ rv2 t2', ha, hd, ?_⟩
        by_cases z : PySem.W.dataLt p' q' = true
        · rw [if_pos z] at q ⊢; exact q.same s rv2
        · rw [if_neg z] at q ⊢; exact q.same s rv
      · cases hm
    | [], _, hm => cases hm
    | [_], _, hm => cases hm
    | _ :: _ :: _ :: _, _, hm => cases hm) q
theorem em_min2D (hc : X.calm = true) (hu : X.A.units + 64 < cLine) (h : AM X [a, b] l) (hg : Gl X "min") (hm : X.mg "min" = none) (hb : bootBuiltins "min" = some (.builtin "min") := by decide +kernel) (hs : starEach [a, b] X.env = (false, eval a X.env) :: starEach [b] X.env := by rfl) (hpl : (backTo pos (starEach [b] X.env)).any (·.1) = false := by rfl) :
    EM X (.Call (.Name "min" p) [a, b] [] pos) (mA hMin2D l) :=
  PE.of (pe_callB (cr_min2D hc hu) hg hm hb h (by decide) (by decide) hs hpl) fun σ H Q q => a_of (fun g f H S l d S' vs Q s r hm q => by
    match l, r, hm with
    | [x, y], ⟨v, t, ev, rv, v2, t2, ev2, rv2, rn⟩, hm =>
      dsimp only [hMin2D] at hm
      split at hm
      · rename_i p' q' h2
        cases hm
        obtain ⟨t1, t2', ha, hd⟩ := two_of h2
        cases rn; subst ev2
        refine ⟨v, v2, p', q', ev, RelD.dp _ _ _ rv t1, RelD.dp _ _ _ rv2 t2', ha, hd, ?_⟩
        by_cases z : PySem.W.dataLt q' p' = true
        · rw [if_pos z] at q ⊢; exact q.same s rv2
        · rw [if_neg z] at q ⊢; exact q.same s rv
      · cases hm
    | [], _, hm => cases hm
    | [_], _, hm => cases hm
    | _ :: _ :: _ :: _, _, hm => cases hm) q

/-! ### sorted -/
def encD (d : D) : PyData := (toP d).getD .none
def sortableB (ps : List PyData) : Bool := ps.all (fun p => match p with | .tuple (_ :: _) => true | _ => false) || ps.all fun p => match p with | .none => false | .tuple _ => false | _ => true
theorem sortableB_of {ps : List PyData} (h : sortableB ps = true) : PySem.W.Sortable ps := by
  unfold sortableB at h
  rw [Bool.or_eq_true, List.all_eq_true, List.all_eq_true] at h
  rcases h with h | h
  · refine .inl fun d hd => ?_
    have := h d hd
    split at this
    · exact ⟨_, _, rfl⟩
    · cases this
  · refine .inr fun d hd => ⟨fun e => ?_, fun xs e => ?_⟩
    · have := h d hd
      rw [e] at this
      cases this
    · have := h d hd
      rw [e] at this
      cases this
def sortD (l : List D) : List D := l.mergeSort (PySem.W.dataLe false encD)
def hSorted (l : List D) (S : Store) : R (List D) := match toPs l with
  | some ps => if ps.all (fun x => ps.all (PySem.W.alike x)) = true ∧ sortableB ps = true ∧ PyData.depthAll ps ≤ 60 then .ok (sortD l) S else .bad
  | none => .bad
theorem each_vals {ys : List (D × V)} : ∀ {out : List Value}, PySem.W.EachIs (fun v (b : D × V) => RelV b.2 v) out ys → Vals (ys.map (·.2)) out := by
  induction ys with
  | nil => intro out h; cases h; exact .nil
  | cons y ys ih => intro out h; cases h with | cons r t => exact .cons r (ih t)
theorem depth_le_all : ∀ {ps : List PyData} {p : PyData}, p ∈ ps → p.depth ≤ PyData.depthAll ps
  | q :: ps, p, h => by
    rw [PyData.depthAll]
    rcases List.mem_cons.mp h with e | e
    · rw [e]; exact Nat.le_max_left _ _
    · exact Nat.le_trans (depth_le_all e) (Nat.le_max_right _ _)
theorem cr_sortedD (hu : X.A.units + 64 < cLine) : CallR X (.builtin "sorted") (fun xs H Q => ∃ a vs l ps g f, xs = [.ref a] ∧ SqL X.K H a vs ∧ RelDs X.K g f H l vs ∧ toPs l = some ps ∧ PySem.W.AllAlike ps ∧ PySem.W.Sortable ps ∧ PyData.depthAll ps ≤ 60 ∧
    ∀ p us, H p = none → RelDs X.K g f H (sortD l) us → Q (.ref p) (upd H p (.lst us))) := by
  intro pins s σ H xs us Q I r h
  obtain ⟨a, vs, l, ps, g, f, rfl, hs, rl, hp, hal, hso, hd, q⟩ := h
  rw [Vals.ref1 r]
  obtain ⟨its, rv, pl, hz⟩ := I.list hs
  obtain ⟨as, hr⟩ := Dp.readsAll I _ _ its (RelDs.dp _ _ _ rl hp) rv
  -- items, values, data side by side
  have eenc : ∀ {l : List D} {ps : List PyData}, toPs l = some ps → l.map encD = ps := by
    intro l
    induction l with
    | nil => intro ps h; unfold toPs at h; cases h; rfl
    | cons d l ih =>
      intro ps h
      unfold toPs at h
      split at h
      · rename_i p ps' h1 h2
        cases h
        rw [List.map_cons, ih h2]
        unfold encD
        rw [h1]; rfl
      · cases h
  have e1 := eenc hp
  have hz1 : (l.zip vs).map (·.1) = l := List.map_fst_zip (by rw [rl.length]; exact Nat.le_refl _)
  have hz2 : (l.zip vs).map (·.2) = vs := List.map_snd_zip (by rw [rl.length]; exact Nat.le_refl _)
  have hze : (l.zip vs).map (fun b => encD b.1) = ps := by rw [← e1, ← hz1, List.map_map]; rw [hz1]; rfl
  have E1 : ∀ {zs : List (D × V)} {its : List Value}, Vals (zs.map (·.2)) its → PySem.W.EachIs (fun v (b : D × V) => RelV b.2 v) its zs := by
    intro zs
    induction zs with
    | nil => intro its h; cases h; exact .nil
    | cons z zs ih => intro its h; cases h with | cons r t => exact .cons r (ih t)
  have ea : PySem.W.EachIs (fun v (b : D × V) => RelV b.2 v) its (l.zip vs) := E1 (by rw [hz2]; exact rv)
  have er : PySem.W.EachIs (fun v (b : D × V) => ∃ as, Reads s.heap v (encD b.1) as) its (l.zip vs) := PySem.W.readsAll_each (fun b : D × V => encD b.1) (by rw [hze]; exact hr)
  have hlen : (l.zip vs).length = vs.length := by rw [← hz2, List.length_map, hz2]
  refine PySem.W.sorted_data (R := fun v (b : D × V) => RelV b.2 v) (enc := fun b : D × V => encD b.1) pl.isList ea er (by rw [hze]; exact hal) (by rw [hze]; exact hso) (by rw [hlen]; exact hz) (fun b hb => ?_) fun out hl2 ho => ?_
  · have : encD b.1 ∈ ps := by rw [← hze]; exact List.mem_map.mpr ⟨b, hb, rfl⟩
    have := depth_le_all this
    omega
  · obtain ⟨ep, he'⟩ := PyProof.Rows.sortedAll_at s.heap its (List.toArray out)
    have hs2 : ((l.zip vs).mergeSort (PySem.W.dataLe false fun b : D × V => encD b.1)).map (·.1) = sortD l := by
      unfold sortD
      rw [List.map_mergeSort (r := PySem.W.dataLe false fun b : D × V => encD b.1) (s := PySem.W.dataLe false encD) (f := (·.1)) (fun _ _ _ _ => rfl), hz1]
    have rel : ∀ {zs : List (D × V)}, (∀ z ∈ zs, RelD X.K g f H z.1 z.2) → RelDs X.K g f H (zs.map (·.1)) (zs.map (·.2)) := by
      intro zs
      induction zs with
      | nil => intro _; rfl
      | cons z zs ih => intro hz; exact ⟨z.2, _, rfl, hz z List.mem_cons_self, ih fun y hy => hz y (List.mem_cons_of_mem _ hy)⟩
    have relz : ∀ {l : List D} {vs : List V}, RelDs X.K g f H l vs → ∀ z ∈ l.zip vs, RelD X.K g f H z.1 z.2 := by
      intro l
      induction l with
      | nil => intro vs h z hz; simp at hz
      | cons d l ih =>
        intro vs h z hz
        obtain ⟨v, r, e, q, t⟩ := h
        subst e
        rcases List.mem_cons.mp hz with e | hz
        · rw [e]; exact q
        · exact ih t z hz
    have rr : RelDs X.K g f H (sortD l) (((l.zip vs).mergeSort (PySem.W.dataLe false fun b : D × V => encD b.1)).map (·.2)) := by
      rw [← hs2]
      exact rel fun z hz => relz rl z ((List.mergeSort_perm _ _).mem_iff.mp hz)
    refine ⟨.ref _, upd H (s.heap.objs.size + 1) (.lst _), I.laid (t' := s.toks) (fun _ _ => PyProof.Rows.sortedAll_old) (Nat.le_succ _) ⟨?_, out, ep, each_vals ho, he'⟩, rfl, q _ _ (I.hok.fresh (Nat.le_succ _)) rr⟩
    rw [List.length_map, (List.mergeSort_perm _ _).length_eq, hlen]
    exact hz
theorem nm_sorted (hu : X.A.units + 64 < cLine) (h : QM X e ml) (hg : Gl X "sorted") (hm : X.mg "sorted" = none) (hb : bootBuiltins "sorted" = some (.builtin "sorted") := by decide +kernel) (hs : starEach [e] X.env = (false, eval e X.env) :: starEach [] X.env := by rfl) (hpl : (backTo pos (starEach [] X.env)).any (·.1) = false := by rfl) :
    NM X (.Call (.Name "sorted" p) [e] [] pos) (mQL hSorted ml) :=
  PE.of (pe_callB (cr_sortedD hu) hg hm hb (b1 h hs) (by decide) (by decide) hs hpl) fun σ H Q q => qn_of (fun g f H S l d S' a vs Q s hq r hm q => by
    unfold hSorted at hm
    split at hm
    · rename_i ps hp
      split at hm
      · rename_i hc
        cases hm
        refine ⟨a, vs, l, ps, g, f, rfl, hq, r, hp, fun x hx y hy => ?_, sortableB_of hc.2.1, hc.2.2, fun t us ht rs => q.put s rs t ht⟩
        exact List.all_eq_true.mp (List.all_eq_true.mp hc.1 x hx) y hy
      · cases hm
    · cases hm) q

/-! ### list * n, list + list -/
def gRep : D → D → Store → R (List D)
  | .lst l, .int k, S => if -(2 ^ 63) ≤ k ∧ k < 2 ^ 63 ∧ l.length * k.toNat ≤ sizeLine then .ok (List.replicate k.toNat l).flatten S else .bad
  | _, _, _ => .bad
def gCatL : D → D → Store → R (List D)
  | .lst l, .lst m, S => if l.length + m.length ≤ sizeLine then .ok (l ++ m) S else .bad
  | _, _, _ => .bad
def n2 (h : D → D → Store → R (List D)) (a b : ME) : ML := fun ρ S => (a ρ S).bind fun x S1 => (b ρ S1).bind fun y S2 => h x y S2
theorem nop_of {r : R2} {h : D → D → Store → R (List D)} (od : ∀ (g f : List Addr) (H : Hp) (S : Store) (dx dy : D) (d : List D) (S' : Store) (x y : V) (Q : VK), RelS X.K g f H S → RelD X.K g f H dx x → RelD X.K g f H dy y → h dx dy S = .ok d S' → FinN X.K g f H d S' Q → r x y H Q)
    {σ : L2.St} {H : Hp} {Q : VK} (q : tN X.K (n2 h ma mb) σ H Q) : tOp r (tE X.K ma) (tE X.K mb) σ H Q := by
  obtain ⟨g, w, o, ρ, S, d, S', s, hm, q⟩ := q
  obtain ⟨x, S1, h1, hm⟩ := R.bind_ok hm
  obtain ⟨y, S2, h2, hm⟩ := R.bind_ok hm
  refine ⟨g, w, o, ρ, S, x, S1, s, h1, fun vx g1 H1 x1 s1 r1 => ?_⟩
  refine ⟨g1, w, o, ρ, S1, y, S2, s.ext x1 s1, h2, fun vy g2 H2 x2 s2 r2 => ?_⟩
  exact od g2 (w ++ o) H2 S2 x y d S' vx vy Q s2 (RelD.ext x2 x vx r1) r2 hm fun p vs g3 H3 x3 hp n3 e3 s3 r3 => q p vs g3 H3 ((x1.trans x2).trans x3) (back_none (x1.trans x2) hp) n3 e3 s3 r3
theorem rel_rep {K : PySem.W.Frag} {g f : List Addr} {H : Hp} {l : List D} {vs : List V} (r : RelDs K g f H l vs) : ∀ k : Nat, RelDs K g f H (List.replicate k l).flatten (List.replicate k vs).flatten
  | 0 => rfl
  | k + 1 => by
    rw [List.replicate_succ, List.replicate_succ, List.flatten_cons, List.flatten_cons]
    exact RelDs.append r (rel_rep r k)
theorem nm_rep (ha : EM X a ma) (hb : EM X b mb) : NM X (.BinOp a .Mult b pos) (n2 gRep ma mb) := PE.of (pe_op op_rep ha hb) fun σ H Q q => nop_of (fun g f H S dx dy d S' x y Q s rx ry hm q => by
  unfold gRep at hm
  split at hm
  · rename_i l k
    split at hm
    · rename_i hc
      cases hm
      obtain ⟨a, vs, ev, hr, r⟩ := rx
      exact ⟨a, k, vs, ev, ry, hr.2.2, hc.1, hc.2.1, by rw [← r.length]; exact hc.2.2, q.put s (rel_rep r _)⟩
    · cases hm
  · cases hm) q
theorem nm_cat (ha : EM X a ma) (hb : EM X b mb) : NM X (.BinOp a .Add b pos) (n2 gCatL ma mb) := PE.of (pe_op op_cat ha hb) fun σ H Q q => nop_of (fun g f H S dx dy d S' x y Q s rx ry hm q => by
  unfold gCatL at hm
  split at hm
  · rename_i l m
    split at hm
    · rename_i hc
      cases hm
      obtain ⟨a, vs, ev, hr, r⟩ := rx
      obtain ⟨a2, vs2, ev2, hr2, r2⟩ := ry
      exact ⟨a, a2, vs, vs2, ev, ev2, hr.2.2, hr2.2.2, by rw [← r.length, ← r2.length]; exact hc, q.put s (RelDs.append r r2)⟩
    · cases hm
  · cases hm) q
end
end Mo
set_option maxRecDepth 100000
set_option maxHeartbeats 1000000
/-! Mo: dicts as cells of the store, enumerate, append to a cell. -/
namespace Mo
open PySem PySem.Spec PyProof.Rows L2

section
variable {κ : Type} [DecidableEq κ]
def valA (l : List (κ × D)) (k : κ) : Option D := (l.find? fun kv => decide (kv.1 = k)).map (·.2)
def putA (l : List (κ × D)) (k : κ) (d : D) : List (κ × D) :=
  if (l.any fun kv => decide (kv.1 = k)) = true then l.map (fun kv => if kv.1 = k then (kv.1, d) else kv) else l ++ [(k, d)]
variable {K : PySem.W.Frag} {g f : List Addr} {H : Hp}
theorem RelKv.length : ∀ {l : List (κ × D)} {kvs : List (κ × V)}, RelKv K g f H l kvs → l.length = kvs.length
  | [], _, h => by cases h; rfl
  | p :: ps, _, ⟨v, r, e, _, t⟩ => by rw [e, List.length_cons, List.length_cons, RelKv.length t]
theorem RelKv.keys : ∀ {l : List (κ × D)} {kvs : List (κ × V)}, RelKv K g f H l kvs → kvs.map (·.1) = l.map (·.1)
  | [], _, h => by cases h; rfl
  | p :: ps, _, ⟨v, r, e, _, t⟩ => by rw [e, List.map_cons, List.map_cons, RelKv.keys t]
theorem RelKv.any {k : κ} : ∀ {l : List (κ × D)} {kvs : List (κ × V)}, RelKv K g f H l kvs → (kvs.any fun kv => decide (kv.1 = k)) = (l.any fun kv => decide (kv.1 = k))
  | [], _, h => by cases h; rfl
  | p :: ps, _, ⟨v, r, e, _, t⟩ => by rw [e, List.any_cons, List.any_cons, RelKv.any t]
theorem RelKv.val {k : κ} : ∀ {l : List (κ × D)} {kvs : List (κ × V)}, RelKv K g f H l kvs → (∀ d, valA l k = some d → ∃ v, valV kvs k = some v ∧ RelD K g f H d v) ∧ (valA l k = none → valV kvs k = none)
  | [], _, h => by cases h; exact ⟨(fun d e => nomatch e), (fun _ => rfl)⟩
  | p :: ps, _, ⟨v, r, e, q, t⟩ => by
    subst e
    obtain ⟨i1, i2⟩ := RelKv.val (k := k) t
    by_cases hk : p.1 = k
    · refine ⟨fun d hd => ⟨v, by simp [valV, List.find?_cons, hk], ?_⟩, fun hn => ?_⟩
      · simp [valA, List.find?_cons, hk] at hd
        subst hd
        exact q
      · simp [valA, List.find?_cons, hk] at hn
    · have e1 : valA (p :: ps) k = valA ps k := by simp [valA, List.find?_cons, hk]
      have e2 : valV ((p.1, v) :: r) k = valV r k := by simp [valV, List.find?_cons, hk]
      rw [e1, e2]
      exact ⟨i1, i2⟩
theorem RelKv.append {d : D} {v : V} {k : κ} : ∀ {l : List (κ × D)} {kvs : List (κ × V)}, RelKv K g f H l kvs → RelD K g f H d v → RelKv K g f H (l ++ [(k, d)]) (kvs ++ [(k, v)])
  | [], _, h, q => by cases h; exact ⟨v, [], rfl, q, rfl⟩
  | p :: ps, _, ⟨v', r, e, q', t⟩, q => by subst e; exact ⟨v', _, rfl, q', RelKv.append t q⟩
theorem RelKv.swap {d : D} {v : V} {k : κ} : ∀ {l : List (κ × D)} {kvs : List (κ × V)}, RelKv K g f H l kvs → RelD K g f H d v → RelKv K g f H (l.map fun kv => if kv.1 = k then (kv.1, d) else kv) (kvs.map fun kv => if kv.1 = k then (kv.1, v) else kv)
  | [], _, h, q => by cases h; rfl
  | p :: ps, _, ⟨v', r, e, q', t⟩, q => by
    subst e
    rw [List.map_cons, List.map_cons]
    by_cases hk : p.1 = k
    · rw [if_pos hk, if_pos hk]
      exact ⟨v, _, rfl, q, RelKv.swap t q⟩
    · rw [if_neg hk, if_neg hk]
      exact ⟨v', _, rfl, q', RelKv.swap t q⟩
theorem RelKv.put {l : List (κ × D)} {kvs : List (κ × V)} {d : D} {v : V} {k : κ} (r : RelKv K g f H l kvs) (q : RelD K g f H d v) : RelKv K g f H (putA l k d) (putK kvs k v) := by
  unfold putA putK
  rw [r.any]
  split
  · exact r.swap q
  · exact r.append q
end
def keyD : D → Option Key
  | .int i => some (.inl i)
  | .str x => some (.inr x)
  | _ => none
theorem keyD_rel {K : PySem.W.Frag} {g f : List Addr} {H : Hp} {d : D} {v : V} {k : Key} (r : RelD K g f H d v) (h : keyD d = some k) : v = kV k := by
  cases d <;> unfold keyD at h <;> first | cases h; done | skip
  · cases h; cases r; rfl
  · cases h; cases r; rfl
def dictAt (S : Store) : D → Option (List (Key × D))
  | .loc n => match S[n]? with
    | some (.dK l) => some l
    | _ => none
  | _ => none
theorem dictAt_of {S : Store} {d : D} {l : List (Key × D)} (h : dictAt S d = some l) : ∃ n, d = .loc n ∧ S[n]? = some (.dK l) := by
  cases d with
  | loc n =>
    dsimp only [dictAt] at h
    cases e : S[n]? with
    | none => rw [e] at h; cases h
    | some c =>
      rw [e] at h
      cases c with
      | dK l' => cases h; exact ⟨n, rfl, e⟩
      | lst _ => cases h
      | dT _ => cases h
      | dF _ => cases h
      | dG _ => cases h
  | _ => cases h
/-- read, walked through or not -/
def dictR (S : Store) : D → Option (List (Key × D))
  | .loc n => match S[n]? with
    | some (.dK l) => some l
    | some (.dF l) => some l
    | _ => none
  | _ => none
theorem dictR_of {S : Store} {d : D} {l : List (Key × D)} (h : dictR S d = some l) : ∃ n, d = .loc n ∧ (S[n]? = some (.dK l) ∨ S[n]? = some (.dF l)) := by
  cases d with
  | loc n =>
    dsimp only [dictR] at h
    cases e : S[n]? with
    | none => rw [e] at h; cases h
    | some c =>
      rw [e] at h
      cases c with
      | dK l' => cases h; exact ⟨n, rfl, .inl e⟩
      | lst _ => cases h
      | dT _ => cases h
      | dF l' => cases h; exact ⟨n, rfl, .inr e⟩
      | dG _ => cases h
  | _ => cases h
theorem RelS.rd {K : PySem.W.Frag} {g f : List Addr} {H : Hp} {S : Store} {n : Nat} {a : Addr} {l : List (Key × D)} (s : RelS K g f H S) (hn : S[n]? = some (.dK l) ∨ S[n]? = some (.dF l)) (hg : g[n]? = some a) : ∃ kvs, Rd H a (.dK kvs) ∧ RelKv K g f H l kvs := by
  rcases hn with hn | hn
  · obtain ⟨kvs, hH, r⟩ := s.cel n _ a hn hg
    exact ⟨kvs, .inl hH, r⟩
  · obtain ⟨kvs, hH, r⟩ := s.cel n _ a hn hg
    exact ⟨kvs, .inr hH, r⟩
section
variable {X : Cx} {e a b o i : Expr} {me ma mb mk mx mv mo : ME} {ml : ML} {l : MA} {pos p apos cpos : Pos}
def mDNewK : ME := fun _ S => .ok (.loc S.length) (S ++ [.dK []])
theorem em_dnewK : EM X (.Dict [] [] pos) mDNewK := PE.of pe_dnewK fun σ H Q ⟨g, w, o, ρ, S, d, S', s, hm, q⟩ => by
  cases hm
  intro p hp
  have x : Ext g H (g ++ [p]) (upd H p (.dK [])) := ⟨⟨[p], rfl, fun b hb => by rw [List.mem_singleton.mp hb]; exact hp⟩, fun a u h _ => (Ext.new (g := []) hp).keep a u h (by simp), (Ext.new (g := []) hp).live, (Ext.new (g := []) hp).tups, (Ext.new (g := []) hp).frz⟩
  exact q _ (g ++ [p]) _ x (((s.sto.fresh hp).new hp).addG (s.sto.noG hp) (c := .dK []) ⟨[], upd_same, rfl⟩) ⟨p, rfl, by rw [← s.sto.len]; exact List.getElem?_concat_length⟩
/-- d[k] -/
def gDGet : G2 := fun x y S => match dictR S x, keyD y with
  | some l, some k => match valA l k with
    | some d => .ok d S
    | none => .bad
  | _, _ => .bad
theorem em_dget (hu : X.A.units + 64 < cLine) (ho : EM X o mo) (hi : EM X i mk) (hs : NoSl i) : EM X (.Subscript o i pos) (m2 gDGet mo mk) :=
  PE.of (pe_dget (by omega) ho hi hs) fun σ H Q q => op_of (r := fun x y H Q => ∃ a v, x = V.ref a ∧ DGet H a y (some v) ∧ Q v H) (fun g f H S dx dy d S' x y Q s rx ry hm q => by
    unfold gDGet at hm
    split at hm
    · rename_i l k hl hk
      split at hm
      · rename_i d' hd
        cases hm
        obtain ⟨n, rfl, hn⟩ := dictR_of hl
        obtain ⟨a, ev, hg⟩ := rx
        obtain ⟨kvs, hH, r⟩ := s.rd hn hg
        obtain ⟨v, hv, rv⟩ := (r.val (k := k)).1 _ hd
        refine ⟨a, v, ev, ?_, q.same s rv⟩
        rw [keyD_rel ry hk, ← hv]
        exact .inl ⟨kvs, k, hH, rfl, rfl⟩
      · cases hm
    · cases hm) q
/-- d.get(k, x) -/
def mDGet2 (md mk mx : ME) : ME := fun ρ S => (md ρ S).bind fun c S1 => match dictR S1 c with
  | none => .bad
  | some _ => (mk ρ S1).bind fun y S2 => (mx ρ S2).bind fun z S3 => match dictR S3 c, keyD y with
    | some l, some k => .ok ((valA l k).getD z) S3
    | _, _ => .bad
theorem em_dget2 {f : Expr} (hu : X.A.units + 64 < cLine) (ho : EM X o mo) (he : EM X e mk) (hf : EM X f mx) (m : M2 X o "get" apos e f cpos) : EM X (.Call (.Attribute o "get" apos) [e, f] [] cpos) (mDGet2 mo mk mx) :=
  PE.of (pe_dget2 (by omega) ho he hf m) fun σ H Q ⟨g, w, o, ρ, S, d, S', s, hm, q⟩ => by
    obtain ⟨c, S1, h1, hm⟩ := R.bind_ok hm
    split at hm
    · cases hm
    rename_i l0 hl0
    obtain ⟨y, S2, h2, hm⟩ := R.bind_ok hm
    obtain ⟨z, S3, h3, hm⟩ := R.bind_ok hm
    split at hm
    · rename_i l k hl hk
      cases hm
      obtain ⟨n, rfl, hn0⟩ := dictR_of hl0
      obtain ⟨n', en, hn⟩ := dictR_of hl
      cases en
      refine ⟨g, w, o, ρ, S, _, S1, s, h1, fun vc g1 H1 x1 s1 ⟨a, ev, hg⟩ => ?_⟩
      obtain ⟨kvs0, hH0, _⟩ := s1.rd hn0 hg
      refine ⟨a, ev, .inl ⟨kvs0, hH0⟩, ?_⟩
      have t1 := s.ext x1 s1
      refine ⟨g1, w, o, ρ, S1, y, S2, t1, h2, fun vy g2 H2 x2 s2 r2 => ?_⟩
      refine ⟨g2, w, o, ρ, S2, z, _, t1.ext x2 s2, h3, fun vz g3 H3 x3 s3 r3 => ?_⟩
      obtain ⟨kvs, hH, r⟩ := s3.rd hn ((x2.trans x3).get hg)
      refine ⟨valV kvs k, ?_, q _ g3 H3 ((x1.trans x2).trans x3) s3 ?_⟩
      · rw [keyD_rel r2 hk]
        exact .inl ⟨kvs, k, hH, rfl, rfl⟩
      · cases hv : valA l k with
        | none => rw [(r.val (k := k)).2 hv]; exact r3
        | some d => obtain ⟨v, e, rv⟩ := (r.val (k := k)).1 d hv; rw [e]; exact rv
    · cases hm
/-- d[k] = v -/
def putDict (c y d : D) (S : Store) : Option Store := match c with
  | .loc n => match dictAt S (.loc n), keyD y with
    | some l, some k => if l.length < sizeLine then some (S.set n (.dK (putA l k d))) else none
    | _, _ => none
  | _ => none
theorem putDict_ok {c y d : D} {S S' : Store} (h : putDict c y d S = some S') : ∃ n l k, c = .loc n ∧ S[n]? = some (.dK l) ∧ keyD y = some k ∧ l.length < sizeLine ∧ S' = S.set n (.dK (putA l k d)) := by
  cases c with
  | loc n =>
    dsimp only [putDict] at h
    cases e1 : dictAt S (.loc n) with
    | none => rw [e1] at h; cases h
    | some l =>
      cases e2 : keyD y with
      | none => rw [e1, e2] at h; cases h
      | some k =>
        rw [e1, e2] at h
        dsimp only at h
        split at h
        · rename_i hz
          cases h
          obtain ⟨n', en, hn⟩ := dictAt_of e1
          cases en
          exact ⟨n, l, k, rfl, hn, rfl, hz, rfl⟩
        · cases h
  | _ => cases h
def mDPut (md mk mv : ME) : MS := fun ρ S => (mv ρ S).bind fun d S1 => (md ρ S1).bind fun c S2 => (mk ρ S2).bind fun y S3 => match putDict c y d S3 with
  | some S4 => .ok (.nx ρ) S4
  | none => .bad
theorem sm_dput {value : Expr} {pos' : Pos} (hu : X.A.units + 64 < cLine) (ho : EM X o mo) (hi : EM X i mk) (hv : EM X value mv) (hs : swapsWith value (some (.Subscript o i pos')) pos.line X.env = pure false := by rfl) :
    SM X (.Assign [.Subscript o i pos'] value pos) (mDPut mo mk mv) := PS.of (ps_dput (by omega) ho hi hv hs) fun E σ H ⟨g, w, o, ρ, S, fl, S', s, hm, q⟩ => by
  obtain ⟨d, S1, h1, hm1⟩ := R.bind_ok hm
  obtain ⟨c, S2, h2, hm2⟩ := R.bind_ok hm1
  obtain ⟨y, S3, h3, hm3⟩ := R.bind_ok hm2
  split at hm3
  · rename_i S4 hp
    cases hm3
    obtain ⟨n, l, k, rfl, hn, hk, hz, rfl⟩ := putDict_ok hp
    refine ⟨g, w, o, ρ, S, d, S1, s, h1, fun v g1 H1 x1 s1 r1 => ?_⟩
    have t1 := s.ext x1 s1
    refine ⟨g1, w, o, ρ, S1, _, S2, t1, h2, fun vc g2 H2 x2 s2 r2 => ?_⟩
    have t2 := t1.ext x2 s2
    refine ⟨g2, w, o, ρ, S2, y, S3, t2, h3, fun vy g3 H3 x3 s3 r3 => ?_⟩
    have t3 := t2.ext x3 s3
    obtain ⟨a, ea, hg⟩ := RelD.ext x3 _ _ r2
    obtain ⟨kvs, hH, r⟩ := s3.cel n _ a hn hg
    have mD : Mut (H3 a) := by rw [hH]; trivial
    have gD : a ∈ g3 := List.mem_of_getElem? hg
    have rv := RelD.ext (x2.trans x3) d v r1
    refine ⟨a, upd H3 a (.dK (putK kvs k v)), ea, ?_, ?_⟩
    · rw [keyD_rel r3 hk]
      exact DPut.k hH (by rw [← r.length]; exact hz)
    · have x4 : Ext g3 H3 g3 (upd H3 a (.dK (putK kvs k v))) := .updG mD gD
      have s4 := s3.updG (c := .dK (putA l k d)) (u := .dK (putK kvs k v)) mD hg ⟨_, upd_same, RelKv.upd mD (.inr gD) _ _ (r.put rv)⟩
      exact q g3 o _ (((x1.trans x2).trans x3).trans x4).s σ (t3.ext x4 s4)
  · cases hm3
/-- d.setdefault(k, x) -/
def setDef (c y z : D) (S : Store) : R D := match c with
  | .loc n => match dictAt S (.loc n), keyD y with
    | some l, some k => if l.length < sizeLine then (match valA l k with
      | some d => .ok d S
      | none => .ok z (S.set n (.dK (putA l k z)))) else .bad
    | _, _ => .bad
  | _ => .bad
theorem setDef_ok {c y z d : D} {S S' : Store} (h : setDef c y z S = .ok d S') : ∃ n l k, c = .loc n ∧ S[n]? = some (.dK l) ∧ keyD y = some k ∧ l.length < sizeLine ∧ ((valA l k = some d ∧ S' = S) ∨ (valA l k = none ∧ d = z ∧ S' = S.set n (.dK (putA l k z)))) := by
  cases c with
  | loc n =>
    dsimp only [setDef] at h
    cases e1 : dictAt S (.loc n) with
    | none => rw [e1] at h; cases h
    | some l =>
      cases e2 : keyD y with
      | none => rw [e1, e2] at h; cases h
      | some k =>
        rw [e1, e2] at h
        dsimp only at h
        split at h
        · rename_i hz
          obtain ⟨n', en, hn⟩ := dictAt_of e1
          cases en
          refine ⟨n, l, k, rfl, hn, rfl, hz, ?_⟩
          cases e3 : valA l k with
          | some d' => rw [e3] at h; cases h; exact .inl ⟨rfl, rfl⟩
          | none => rw [e3] at h; cases h; exact .inr ⟨rfl, rfl, rfl⟩
        · cases h
  | _ => cases h
def mDSet (md mk mx : ME) : ME := fun ρ S => (md ρ S).bind fun c S1 => match dictAt S1 c with
  | none => .bad
  | some _ => (mk ρ S1).bind fun y S2 => (mx ρ S2).bind fun z S3 => setDef c y z S3
theorem em_dsetd {f : Expr} (ho : EM X o mo) (he : EM X e mk) (hf : EM X f mx) (m : M2 X o "setdefault" apos e f cpos) : EM X (.Call (.Attribute o "setdefault" apos) [e, f] [] cpos) (mDSet mo mk mx) :=
  PE.of (pe_dsetd ho he hf m) fun σ H Q ⟨g, w, o, ρ, S, d, S', s, hm, q⟩ => by
    obtain ⟨c, S1, h1, hm1⟩ := R.bind_ok hm
    split at hm1
    · cases hm1
    rename_i l0 hl0
    obtain ⟨y, S2, h2, hm2⟩ := R.bind_ok hm1
    obtain ⟨z, S3, h3, hm3⟩ := R.bind_ok hm2
    obtain ⟨n, l, k, rfl, hn, hk, hz, hor⟩ := setDef_ok hm3
    obtain ⟨n0, en0, hn0⟩ := dictAt_of hl0
    cases en0
    refine ⟨g, w, o, ρ, S, _, S1, s, h1, fun vc g1 H1 x1 s1 ⟨a, ev, hg⟩ => ?_⟩
    obtain ⟨kvs0, hH0, _⟩ := s1.cel n _ a hn0 hg
    refine ⟨a, ev, .inl ⟨kvs0, .inl hH0⟩, ?_⟩
    have t1 := s.ext x1 s1
    refine ⟨g1, w, o, ρ, S1, y, S2, t1, h2, fun vy g2 H2 x2 s2 r2 => ?_⟩
    refine ⟨g2, w, o, ρ, S2, z, S3, t1.ext x2 s2, h3, fun vz g3 H3 x3 s3 r3 => ?_⟩
    have hg3 := (x2.trans x3).get hg
    obtain ⟨kvs, hH, r⟩ := s3.cel n _ a hn hg3
    have mD : Mut (H3 a) := by rw [hH]; trivial
    have gD : a ∈ g3 := List.mem_of_getElem? hg3
    refine ⟨kvs, k, hH, keyD_rel r2 hk, by rw [← r.length]; exact hz, fun v hv => ?_, fun hv => ?_⟩
    · rcases hor with ⟨hva, rfl⟩ | ⟨hva, _, _⟩
      · obtain ⟨v', e', rv⟩ := (r.val (k := k)).1 d hva
        rw [hv] at e'
        cases e'
        exact q v g3 H3 ((x1.trans x2).trans x3) s3 rv
      · rw [(r.val (k := k)).2 hva] at hv; cases hv
    · rcases hor with ⟨hva, _⟩ | ⟨hva, rfl, rfl⟩
      · obtain ⟨v', e', rv⟩ := (r.val (k := k)).1 d hva
        rw [hv] at e'; cases e'
      · have x4 : Ext g3 H3 g3 (upd H3 a (.dK (putK kvs k vz))) := .updG mD gD
        have s4 := s3.updG (c := .dK (putA l k d)) (u := .dK (putK kvs k vz)) mD hg3 ⟨_, upd_same, RelKv.upd mD (.inr gD) _ _ (r.put r3)⟩
        exact q vz g3 _ (((x1.trans x2).trans x3).trans x4) s4 (RelD.ext x4 _ _ r3)
/-- e.append(x), e a list of the store -/
def appC (c d : D) (S : Store) : Option Store := match c with
  | .loc n => match locD (.loc n) S with
    | .ok l _ => if l.length < sizeLine then some (S.set n (.lst (l ++ [d]))) else none
    | .bad => none
  | _ => none
theorem appC_ok {c d : D} {S S' : Store} (h : appC c d S = some S') : ∃ n l, c = .loc n ∧ S[n]? = some (.lst l) ∧ l.length < sizeLine ∧ S' = S.set n (.lst (l ++ [d])) := by
  cases c with
  | loc n =>
    dsimp only [appC] at h
    cases e : locD (.loc n) S with
    | bad => rw [e] at h; cases h
    | ok l S1 =>
      rw [e] at h
      dsimp only at h
      split at h
      · rename_i hz
        cases h
        obtain ⟨n2, en, hn, _⟩ := locD_ok e
        cases en
        exact ⟨n, l, rfl, hn, hz, rfl⟩
      · cases h
  | _ => cases h
def isLoc (c : D) (S : Store) : Bool := match locD c S with
  | .ok _ _ => true
  | .bad => false
theorem isLoc_of {c : D} {S : Store} (h : isLoc c S = true) : ∃ n l, c = .loc n ∧ S[n]? = some (.lst l) := by
  unfold isLoc at h
  cases e : locD c S with
  | bad => rw [e] at h; cases h
  | ok l S1 => obtain ⟨n, e1, e2, _⟩ := locD_ok e; exact ⟨n, l, e1, e2⟩
def mAppC (mo me : ME) : MS := fun ρ S => (mo ρ S).bind fun c S1 => if isLoc c S1 = true then (me ρ S1).bind fun d S2 => match appC c d S2 with
    | some S3 => .ok (.nx ρ) S3
    | none => .bad
  else .bad
theorem sm_appC {spos : Pos} (ho : EM X o mo) (ha : EM X e me) (hbase : attributeBase o "append" X.env (eval o X.env) = eval o X.env := by rfl)
    (hfew : ((backTo cpos (starEach [e] X.env)).all (fun x => !x.1) && (backToKw cpos (keywordEach [] X.env)).all (fun x => x.1.isSome) && decide ([e].length + ([] : List Keyword).length + (if ([] : List Keyword).isEmpty then 0 else 1) < 30)) = true := by rfl)
    (hline : (apos.endLine == cpos.line) = true := by rfl) (hs : starEach [e] X.env = (false, eval e X.env) :: starEach [] X.env := by rfl) (hplain : (backTo cpos (starEach [] X.env)).any (·.1) = false := by rfl)
    (hsw : swapsWith (.Call (.Attribute o "append" apos) [e] [] cpos) none spos.line X.env = pure false := by rfl) : SM X (.Expr (.Call (.Attribute o "append" apos) [e] [] cpos) spos) (mAppC mo me) :=
  PS.of (ps_expr (pe_bm PySem.F.plainAttrs_list PySem.F.slot_list_append PySem.F.type_list_append mt_append ho (pa_cons ha pa_nil hs) hbase hfew hline hs hplain) hsw) fun E σ H ⟨g, w, o, ρ, S, fl, S', s, hm, q⟩ => by
    obtain ⟨c, S1, h1, hm1⟩ := R.bind_ok hm
    split at hm1
    · rename_i hloc
      obtain ⟨d, S2, h2, hm2⟩ := R.bind_ok hm1
      split at hm2
      · rename_i S3 hp
        cases hm2
        obtain ⟨n, l, rfl, hn, hz, rfl⟩ := appC_ok hp
        obtain ⟨n1, l1, en, hn1⟩ := isLoc_of hloc
        cases en
        refine ⟨g, w, o, ρ, S, _, _, s, h1, fun vc g1 H1 x1 s1 ⟨a, ev, hg⟩ => ?_⟩
        obtain ⟨vs1, hH1, _⟩ := s1.cel n _ a hn1 hg
        subst ev
        refine ⟨.inl ⟨rfl, vs1, .of hH1⟩, ?_⟩
        have t1 := s.ext x1 s1
        refine ⟨g1, w, o, ρ, _, d, _, t1, h2, fun v g2 H2 x2 s2 r2 => ?_⟩
        have t2 := t1.ext x2 s2
        have hg2 := x2.get hg
        obtain ⟨vs, hH, r⟩ := s2.cel n _ a hn hg2
        have mD : Mut (H2 a) := by rw [hH]; trivial
        have gD : a ∈ g2 := List.mem_of_getElem? hg2
        have x4 : Ext g2 H2 g2 (upd H2 a (.lst (vs ++ [v]))) := .updG mD gD
        have s4 := s2.updG (c := .lst (l ++ [d])) (u := .lst (vs ++ [v])) mD hg2 ⟨_, upd_same, RelDs.upd mD (.inr gD) _ _ (RelDs.append r ⟨v, [], rfl, r2, rfl⟩)⟩
        exact ⟨a, vs, v, rfl, rfl, hH, by rw [← r.length]; exact hz, q g2 o _ ((x1.trans x2).trans x4).s σ (t2.ext x4 s4)⟩
      · cases hm2
    · cases hm1
/-- sorted(d): its keys, numbers -/
def intKeys : List (Key × D) → Option (List Int)
  | [] => some []
  | (.inl k, _) :: r => (intKeys r).map (k :: ·)
  | _ => none
def sortI (l : List Int) : List Int := l.mergeSort fun a b => decide (a ≤ b)
theorem intKeys_of : ∀ {l : List (Key × D)} {ks : List Int}, intKeys l = some ks → l.map (·.1) = ks.map Sum.inl
  | [], _, h => by unfold intKeys at h; cases h; rfl
  | (.inl k, d) :: r, _, h => by
    unfold intKeys at h
    cases e : intKeys r with
    | none => rw [e] at h; cases h
    | some ks => rw [e] at h; cases h; rw [List.map_cons, List.map_cons, intKeys_of e]
  | (.inr k, d) :: r, _, h => by unfold intKeys at h; cases h
def hSortedDI (d : D) (S : Store) : R (List D) := match dictR S d with
  | some l => match intKeys l with
    | some ks => if ks.length < 64 then .ok ((sortI ks).map .int) S else .bad
    | none => .bad
  | none => .bad
theorem sorted_one : ∀ {xs ys : List Int}, xs.Perm ys → xs.Pairwise (· ≤ ·) → ys.Pairwise (· ≤ ·) → xs = ys := fun {xs ys} hp h1 h2 =>
  hp.eq_of_pairwise (fun a b _ _ h h' => Int.le_antisymm h h') h1 h2
theorem nm_sortedDI (hc : X.calm = true) (h : EM X e me) (hg : Gl X "sorted") (hm : X.mg "sorted" = none) (hb : bootBuiltins "sorted" = some (.builtin "sorted") := by decide +kernel) (hs : starEach [e] X.env = (false, eval e X.env) :: starEach [] X.env := by rfl) (hpl : (backTo pos (starEach [] X.env)).any (·.1) = false := by rfl) :
    NM X (.Call (.Name "sorted" p) [e] [] pos) (fun ρ S => (me ρ S).bind hSortedDI) :=
  PE.of (pe_callB (call_sortedDI hc) hg hm hb (b1 h hs) (by decide) (by decide) hs hpl) fun σ H Q ⟨g, w, o, ρ, S, d, S', s, hm, q⟩ => by
    obtain ⟨c, S1, h1, h2⟩ := R.bind_ok hm
    refine ⟨g, w, o, ρ, S, c, S1, s, h1, fun v g1 H1 x1 s1 r1 => ?_⟩
    unfold hSortedDI at h2
    split at h2
    · rename_i l hl
      split at h2
      · rename_i ks hk
        split at h2
        · rename_i h64
          cases h2
          obtain ⟨n, rfl, hn⟩ := dictR_of hl
          obtain ⟨a, ev, hgn⟩ := r1
          obtain ⟨kvs, hH, r⟩ := s1.rd hn hgn
          subst ev
          refine ⟨a, kvs, ks, rfl, hH, by rw [r.keys, intKeys_of hk], h64, fun ys t hp hw ht => ?_⟩
          have e1 : ys = sortI ks := sorted_one (hp.trans (List.mergeSort_perm _ _).symm) hw (by
            have := List.pairwise_mergeSort (le := fun a b : Int => decide (a ≤ b)) (fun a b c h1 h2 => by simp at *; omega) (fun a b => by simp; omega) ks
            exact this.imp fun h => by simpa using h)
          subst e1
          have q' : FinN X.K g1 (w ++ o) H1 ((sortI ks).map .int) _ Q := fun p vs g2 H2 x2 hp n2 e2 s2 r2 => q p vs g2 H2 (x1.trans x2) (back_none x1 hp) n2 e2 s2 r2
          exact q'.put s1 (rel_ints _) t ht
        · cases h2
      · cases h2
    · cases h2
/-- enumerate(list) -/
def enumD : Nat → List D → List D
  | _, [] => []
  | k, d :: ds => .tup [.int (k : Nat), d] :: enumD (k + 1) ds
theorem enumD_get : ∀ {l : List D} {k i : Nat} {d : D}, (enumD k l)[i]? = some d → ∃ e, l[i]? = some e ∧ d = .tup [.int ((k + i : Nat) : Int), e]
  | [], _, i, _, h => by simp [enumD] at h
  | d :: ds, k, 0, _, h => by simp [enumD] at h; exact ⟨d, rfl, h.symm⟩
  | d :: ds, k, i + 1, _, h => by
    obtain ⟨e, h1, h2⟩ := enumD_get (l := ds) (k := k + 1) (i := i) (by simpa [enumD] using h)
    exact ⟨e, by simpa using h1, by rw [h2, show k + 1 + i = k + (i + 1) by omega]⟩
theorem enumD_length : ∀ (l : List D) (k : Nat), (enumD k l).length = l.length
  | [], _ => rfl
  | d :: ds, k => by rw [enumD, List.length_cons, List.length_cons, enumD_length ds]
theorem Walks.enum {K : PySem.W.Frag} {g w o : List Addr} {H : Hp} {a : Addr} {vs : List V} {l : List D} (hr : RestL g (w ++ o) H a vs) (r : RelDs K g (w ++ o) H l vs) : Walks K g w o H (Ite K a) (enumD 0 l) where
  item := fun i d g1 o1 H1 h x => by
    have q := hr.extS x
    have r1 := RelDs.extS x l vs r
    obtain ⟨e, h1, h2⟩ := enumD_get h
    obtain ⟨v, ev, rv⟩ := r1.get h1
    refine ⟨⟨vs, v, q.sq, ev⟩, fun y H2 ⟨T, z, ey, hT, eH, hz⟩ => ?_⟩
    have := hz vs q.sq
    rw [ev] at this
    cases this
    subst ey; subst eH; subst h2
    refine ⟨.new hT, T, _, rfl, .inl (.inl upd_same), .int _, _, rfl, ?_, v, [], rfl, RelD.ext (.new hT) e v rv, rfl⟩
    show V.int _ = V.int _
    rw [Nat.zero_add]
  stop := fun i g1 o1 H1 h x => ⟨vs, (hr.extS x).sq, by rw [← r.length, ← enumD_length l 0]; exact h⟩
def iEnumM (m : ME) : ML := fun ρ S => (m ρ S).bind fun d S1 => (seqD d S1).bind fun l S2 => .ok (enumD 0 l) S2
theorem im_enum {elts : List Expr} {kk : Nat} {tpos : Pos} (h : EM X e me) (hg : Gl X "enumerate") (hm : X.mg "enumerate" = none) (hs : starEach [e] X.env = [(false, eval e X.env)] := by rfl) : IM X (.Tuple elts kk tpos) (.Call (.Name "enumerate" p) [e] [] pos) (iEnumM me) :=
  PI.of (pi_enum hg hm (b1 h hs) hs) fun σ H Rr ⟨g, w, o, ρ, S, l, S', s, hm, q⟩ => by
    obtain ⟨d, S1, h1, hm⟩ := R.bind_ok hm
    obtain ⟨l', S2, h2, hm⟩ := R.bind_ok hm
    obtain ⟨rfl, rfl⟩ := seqD_ok h2
    cases hm
    exact ⟨g, w, o, ρ, S, _, _, s, h1, fun v g1 H1 x1 s1 ⟨a, vs, ev, hr, r⟩ => by subst ev; exact ⟨a, vs, rfl, hr.sq, q g1 H1 _ x1 s1 (.enum hr r)⟩⟩
/-- what is walked, a list or a tuple -/
def iSeqD : D → Store → R (List D)
  | .lst l, S => .ok l S
  | .tup l, S => .ok l S
  | _, _ => .bad
def iSeq (m : ME) : ML := fun ρ S => (m ρ S).bind iSeqD
theorem im_seq {tg : Expr} (h : EM X e me) : IM X tg e (iSeq me) := ⟨fun pins s σ H Rr I ⟨g, w, o, ρ, S, l, S', st, hm, q⟩ => by
  obtain ⟨d, S1, h1, h2⟩ := R.bind_ok hm
  cases d <;> first | cases h2; done | skip
  · cases h2
    exact (im_tup (tg := tg) h).run pins s σ H Rr I ⟨g, w, o, ρ, S, l, S', st, by unfold iTup; rw [h1]; rfl, q⟩
  · cases h2
    exact (im_list (tg := tg) h).run pins s σ H Rr I ⟨g, w, o, ρ, S, l, S', st, by unfold iLst; rw [h1]; rfl, q⟩⟩
/-- len of a value -/
def gLen (d : D) (S : Store) : R D := match d with
  | .tup l => .ok (.int l.length) S
  | .lst l => .ok (.int l.length) S
  | .scr l => .ok (.int l.length) S
  | .loc n => match S[n]? with
    | some (.lst l) => .ok (.int l.length) S
    | _ => .bad
  | _ => .bad
theorem em_lenV (h : EM X e me) (hg : Gl X "len") (hm : X.mg "len" = none) (hs : starEach [e] X.env = (false, eval e X.env) :: starEach [] X.env := by rfl) (hpl : (backTo pos (starEach [] X.env)).any (·.1) = false := by rfl) : EM X (.Call (.Name "len" p) [e] [] pos) (mB1 gLen me) :=
  PE.of (pe_callB call_len_seq hg hm PySem.boot_len (b1 h hs) (by decide) (by decide) hs hpl) fun σ H Q ⟨g, w, o, ρ, S, d, S', s, hm, q⟩ => by
    obtain ⟨c, S1, h1, h2⟩ := R.bind_ok hm
    refine ⟨g, w, o, ρ, S, c, S1, s, h1, fun v g1 H1 x1 s1 r1 => ?_⟩
    cases c with
    | tup l => cases h2; obtain ⟨a, vs, ev, hr, r⟩ := r1; subst ev; exact ⟨a, vs, rfl, .inr hr, by rw [← r.length]; exact q _ g1 H1 x1 s1 rfl⟩
    | lst l => cases h2; obtain ⟨a, vs, ev, hr, r⟩ := r1; subst ev; exact ⟨a, vs, rfl, .inl hr.sq, by rw [← r.length]; exact q _ g1 H1 x1 s1 rfl⟩
    | scr l =>
      cases h2; obtain ⟨a, ev, hr⟩ := r1; subst ev
      refine ⟨a, _, rfl, .inl hr.sq, ?_⟩
      rw [List.length_map]
      exact q _ g1 H1 x1 s1 rfl
    | loc n =>
      obtain ⟨a, ev, hg⟩ := r1
      subst ev
      dsimp only [gLen] at h2
      cases en : S1[n]? with
      | none => rw [en] at h2; cases h2
      | some c =>
        rw [en] at h2
        cases c with
        | lst l => cases h2; obtain ⟨vs, hH, r⟩ := s1.cel n _ a en hg; exact ⟨a, vs, rfl, .inl (.of hH), by rw [← r.length]; exact q _ g1 H1 x1 s1 rfl⟩
        | dK l => cases h2
        | dT l => cases h2
        | dF l => cases h2
        | dG l => cases h2
    | _ => cases h2
end
end Mo
set_option maxRecDepth 100000
set_option maxHeartbeats 1000000
/-! Mo: what a generated text names. -/
namespace Mo
open PySem PySem.Spec PyProof.Rows L2

/-- a def of the program, with its meaning -/
structure Own (P : Program) (w : World) (K : PySem.W.Frag) (mg : Str → Option Value) (base : Heap) (k n : Nat) (x : Str) (ps : List Str) (a : Addr) (fd : FuncData) (m : MF) : Prop where
  at_ : mg x = some (.ref a)
  kp : PySem.W.keepIn K (.ref a) = true
  ok : FnG P w K mg base CX0 k a fd ps (spM K n m)
/-- places among the positional values and, behind them, the keywords' -/
def pickIx (ix : List Nat) {α : Type} (us ws : List α) : List α := ix.filterMap fun i => (us ++ ws)[i]?
theorem vals_pick {xs : List V} {ys : List Value} (r : Vals xs ys) : ∀ ix : List Nat, Vals (ix.filterMap fun i => xs[i]?) (ix.filterMap fun i => ys[i]?)
  | [] => .nil
  | i :: ix => by
    cases e : xs[i]? with
    | none =>
      have e2 := r.none_of e
      rw [List.filterMap_cons_none e, List.filterMap_cons_none e2]
      exact vals_pick r ix
    | some x =>
      obtain ⟨u, e2, ru⟩ := r.get e
      rw [List.filterMap_cons_some e, List.filterMap_cons_some e2]
      exact .cons ru (vals_pick r ix)
theorem rel_pick {K : PySem.W.Frag} {g f : List Addr} {H : Hp} {xs : List D} {ys : List V} (r : RelDs K g f H xs ys) : ∀ ix : List Nat, RelDs K g f H (ix.filterMap fun i => xs[i]?) (ix.filterMap fun i => ys[i]?)
  | [] => rfl
  | i :: ix => by
    cases e : xs[i]? with
    | none =>
      have e2 : ys[i]? = none := by
        rw [List.getElem?_eq_none_iff] at e ⊢
        rw [← r.length]; exact e
      rw [List.filterMap_cons_none e, List.filterMap_cons_none e2]
      exact rel_pick r ix
    | some x =>
      obtain ⟨v, e2, rv⟩ := r.get e
      rw [List.filterMap_cons_some e, List.filterMap_cons_some e2]
      exact ⟨v, _, rfl, rv, rel_pick r ix⟩
theorem mix_of {fd : FuncData} {ps ks : List Str} {np : Nat} (ix : List Nat) (to : ∀ us ws : List Value, us.length = np → ws.length = ks.length → bindArgs fd ⟨us, ks.zip ws⟩ = pure (ps.zip (pickIx ix us ws))) : Mix fd ps ks np (pickIx ix) where
  to := to
  map := fun vs zs us ws r1 r2 _ _ => vals_pick (r1.append r2) ix
  rel := fun K g f H ds es vs zs r1 r2 _ _ => rel_pick (RelDs.append r1 r2) ix
section
variable {X : Cx} {k n : Nat} {a : Addr} {fd : FuncData} {ps : List Str} {x : Str} {p pos : Pos} {e : Expr} {es : List Expr} {l : MA} {m : MF}
theorem em_own (C : Own X.prog X.w X.K X.mg X.base k n x ps a fd m) (B : Binds X.K fd ps []) (hgd : X.A.guards = some []) (hr : Room k X.A) (hg : Gl X x) (ha : AM X (e :: es) l) (hdb : (x == ("__debug__" : Str)) = false := by decide)
    (he : starEach (e :: es) X.env = (false, eval e X.env) :: starEach es X.env := by rfl) (hpl : (backTo pos (starEach es X.env)).any (·.1) = false := by rfl) : EM X (.Call (.Name x p) (e :: es) [] pos) (mCall m n [] l) :=
  em_call C.ok hgd hr hg C.at_ C.kp B .nil (fun _ _ _ _ => rfl) ha hdb he hpl
variable {kws : List Keyword} {ks : List Str} {lk : MA} {np : Nat} {ix : List Nat}
theorem em_ownK (C : Own X.prog X.w X.K X.mg X.base k n x ps a fd m) (B : Mix fd ps ks np (pickIx ix)) (hgd : X.A.guards = some []) (hr : Room k X.A) (hg : Gl X x) (ha : AM X (e :: es) l) (hkw : KM X kws lk) (hall : (backToKw pos (keywordEach kws X.env)).all (·.1.isSome) = true := by rfl)
    (hks : (backToKw pos (keywordEach kws X.env)).filterMap (·.1) = ks := by rfl) (hdb : (x == ("__debug__" : Str)) = false := by decide) (he : starEach (e :: es) X.env = (false, eval e X.env) :: starEach es X.env := by rfl)
    (hpl : ((backTo pos (starEach (e :: es) X.env)).any (·.1) || (backToKw pos (keywordEach kws X.env)).any (·.1.isNone)) = false := by rfl) : EM X (.Call (.Name x p) (e :: es) kws pos) (mCallK m n np ks.length (pickIx ix) l lk) :=
  em_callK C.ok hgd hr hg C.at_ C.kp B ha hkw hall hks hdb he hpl
theorem em_ownK0 (C : Own X.prog X.w X.K X.mg X.base k n x ps a fd m) (B : Mix fd ps ks 0 (pickIx ix)) (hgd : X.A.guards = some []) (hr : Room k X.A) (hg : Gl X x) (hkw : KM X kws lk) (hall : (backToKw pos (keywordEach kws X.env)).all (·.1.isSome) = true := by rfl)
    (hks : (backToKw pos (keywordEach kws X.env)).filterMap (·.1) = ks := by rfl) (hdb : (x == ("__debug__" : Str)) = false := by decide)
    (hpl : ((backTo pos (starEach [] X.env)).any (·.1) || (backToKw pos (keywordEach kws X.env)).any (·.1.isNone)) = false := by rfl) : EM X (.Call (.Name x p) [] kws pos) (mCallK m n 0 ks.length (pickIx ix) aNil lk) :=
  em_callK0 C.ok hgd hr hg C.at_ C.kp B hkw hall hks hdb hpl
end
/-- room for data: what built-ins ask -/
theorem hu64 {A : Around} {k : Nat} (hr : Room k A) : A.units + 64 < cLine := hr.units
/-- an own list rests -/
def restAt (i : Nat) (ρ : MEnv) : MEnv := match ρ[i]? with
  | some (some (.own (.lst l))) => ρ.set i (some (.val (.lst l)))
  | _ => ρ
theorem rest_ok {K : PySem.W.Frag} {g w o : List Addr} {ρ : MEnv} {S : Store} {σ : L2.St} {H : Hp} (i : Nat) (s : Sta K g w o ρ S σ H) : ∃ o', (∀ a ∈ o', a ∈ o) ∧ Sta K g w o' (restAt i ρ) S σ H := by
  unfold restAt
  split
  · rename_i l hl
    obtain ⟨p, e1, m, vs, hH, r⟩ := s.own i _ hl
    have hi := lt_of_get hl
    refine ⟨o.filter (fun a => decide (a ≠ p)), fun a h => (List.mem_filter.mp h).1, ?_⟩
    have sub : ∀ b ∈ w ++ o.filter (fun a => decide (a ≠ p)), b ∈ w ++ o := fun b hb => by
      rcases List.mem_append.mp hb with h | h
      · exact List.mem_append_left _ h
      · exact List.mem_append_right _ (List.mem_filter.mp h).1
    have back : ∀ {j : Nat} {c : Cell}, (ρ.set i (some (.val (.lst l))))[j]? = some (some (Slot.own c)) → i ≠ j ∧ ρ[j]? = some (some (Slot.own c)) := fun {j c} h => by
      by_cases hj : i = j
      · subst hj; rw [List.getElem?_set_self hi] at h; cases h
      · rw [List.getElem?_set_ne hj] at h; exact ⟨hj, h⟩
    refine ⟨by rw [List.length_set]; exact s.len, fun j d h => ?_, fun j c h => ?_, fun j k c d a h1 h2 h3 h4 => s.inj j k c d a (back h1).2 (back h2).2 h3 h4, fun a h => s.out a (List.mem_filter.mp h).1, fun a h => s.liv a (sub a h), s.sto.less sub⟩
    · by_cases hj : i = j
      · subst hj
        rw [List.getElem?_set_self hi] at h
        cases h
        refine ⟨.ref p, e1, p, vs, rfl, ⟨(s.out p m).1, fun z => ?_, hH⟩, RelDs.less sub _ _ r⟩
        rcases List.mem_append.mp z with z | z
        · exact (s.out p m).2 z
        · have := (List.mem_filter.mp z).2
          simp at this
      · rw [List.getElem?_set_ne hj] at h
        obtain ⟨v, e2, r2⟩ := s.val j d h
        exact ⟨v, e2, RelD.less sub _ _ r2⟩
    · obtain ⟨hj, h⟩ := back h
      obtain ⟨a, e2, m2, r2⟩ := s.own j c h
      refine ⟨a, e2, List.mem_filter.mpr ⟨m2, decide_eq_true fun e => ?_⟩, r2.less sub⟩
      subst e
      exact hj (s.inj i j _ _ a hl h e1 e2)
  · exact ⟨o, fun _ h => h, s⟩
def mRest (i : Nat) (m : MS) : MS := fun ρ S => m (restAt i ρ) S
theorem ssm_rest {X : Cx} {sts : List Stmt} {m : MS} (i : Nat) (h : SsM X sts m) : SsM X sts (mRest i m) := ssm_ghost (gh := restAt i) h fun _ _ _ _ _ _ _ s => rest_ok i s
end Mo
set_option maxRecDepth 100000
/-! Mo: how meanings are reckoned (for simp). -/
namespace Mo
open L2
@[simp] theorem bind_ok_eq {α β : Type} (a : α) (S : Store) (f : α → Store → R β) : (R.ok a S).bind f = f a S := rfl
@[simp] theorem bind_bad_eq {α β : Type} (f : α → Store → R β) : (R.bad : R α).bind f = .bad := rfl
@[simp] theorem mVar_eq (i : Nat) (ρ : MEnv) (S : Store) : mVar i ρ S = (match ρ[i]? with | some (some (.val d)) => .ok d S | _ => .bad) := rfl
@[simp] theorem mC_eq (d : D) (ρ : MEnv) (S : Store) : mC d ρ S = .ok d S := rfl
@[simp] theorem m2_eq (h : G2) (a b : ME) (ρ : MEnv) (S : Store) : m2 h a b ρ S = (a ρ S).bind fun x S1 => (b ρ S1).bind fun y S2 => h x y S2 := rfl
@[simp] theorem mNil_eq (ρ : MEnv) (S : Store) : mNil ρ S = .ok (.nx ρ) S := rfl
@[simp] theorem mPass_eq (ρ : MEnv) (S : Store) : mPass ρ S = .ok (.nx ρ) S := rfl
@[simp] theorem mSeq_eq (a b : MS) (ρ : MEnv) (S : Store) : mSeq a b ρ S = (a ρ S).bind fun fl S1 => (match fl with | .nx ρ1 => b ρ1 S1 | fl => .ok fl S1) := rfl
@[simp] theorem mSet_eq (i : Nat) (m : ME) (ρ : MEnv) (S : Store) : mSet i m ρ S = (m ρ S).bind fun d S1 => .ok (.nx (ρ.set i (some (.val d)))) S1 := rfl
@[simp] theorem mRet_eq (m : ME) (ρ : MEnv) (S : Store) : mRet m ρ S = (m ρ S).bind fun d S1 => .ok (.rt d) S1 := rfl
@[simp] theorem mDrop_eq (m : ME) (ρ : MEnv) (S : Store) : mDrop m ρ S = (m ρ S).bind fun _ S1 => .ok (.nx ρ) S1 := rfl
@[simp] theorem mIf_eq (c : MT) (a b : MS) (ρ : MEnv) (S : Store) : mIf c a b ρ S = (c ρ S).bind fun k S1 => if k = true then a ρ S1 else b ρ S1 := rfl
@[simp] theorem mB_eq (m : ME) (ρ : MEnv) (S : Store) : mB m ρ S = (m ρ S).bind isB := rfl
@[simp] theorem isB_eq (k : Bool) (S : Store) : isB (.bl k) S = .ok k S := rfl
@[simp] theorem mAndT_eq (a b : MT) (ρ : MEnv) (S : Store) : mAndT a b ρ S = (a ρ S).bind fun k S1 => if k = true then b ρ S1 else .ok false S1 := rfl
@[simp] theorem mOrT_eq (a b : MT) (ρ : MEnv) (S : Store) : mOrT a b ρ S = (a ρ S).bind fun k S1 => if k = true then .ok true S1 else b ρ S1 := rfl
@[simp] theorem mNotT_eq (a : MT) (ρ : MEnv) (S : Store) : mNotT a ρ S = (a ρ S).bind fun k S1 => .ok (!k) S1 := rfl
@[simp] theorem mAnd_eq (a b : ME) (ρ : MEnv) (S : Store) : mAnd a b ρ S = (a ρ S).bind fun d S1 => (isB d S1).bind fun k S2 => if k = true then b ρ S2 else .ok (.bl false) S2 := rfl
@[simp] theorem mOr_eq (a b : ME) (ρ : MEnv) (S : Store) : mOr a b ρ S = (a ρ S).bind fun d S1 => (isB d S1).bind fun k S2 => if k = true then .ok (.bl true) S2 else b ρ S2 := rfl
@[simp] theorem mNot_eq (a : ME) (ρ : MEnv) (S : Store) : mNot a ρ S = (a ρ S).bind fun d S1 => (isB d S1).bind fun k S2 => .ok (.bl (!k)) S2 := rfl
@[simp] theorem mIfE_eq (c : MT) (a b : ME) (ρ : MEnv) (S : Store) : mIfE c a b ρ S = (c ρ S).bind fun k S1 => if k = true then a ρ S1 else b ρ S1 := rfl
@[simp] theorem mChain_eq (h h' : G2) (a b c : ME) (ρ : MEnv) (S : Store) : mChain h h' a b c ρ S = (a ρ S).bind fun x S1 => (b ρ S1).bind fun y S2 => (h x y S2).bind fun d S3 => (isB d S3).bind fun k S4 =>
  if k = true then (c ρ S4).bind fun z S5 => h' y z S5 else .ok (.bl false) S4 := rfl
@[simp] theorem aNil_eq (ρ : MEnv) (S : Store) : aNil ρ S = .ok [] S := rfl
@[simp] theorem aCons_eq (m : ME) (r : MA) (ρ : MEnv) (S : Store) : aCons m r ρ S = (m ρ S).bind fun d S1 => (r ρ S1).bind fun ds S2 => .ok (d :: ds) S2 := rfl
@[simp] theorem mTup_eq (l : MA) (ρ : MEnv) (S : Store) : mTup l ρ S = (l ρ S).bind fun ds S1 => if ds.length ≤ PySem.sizeLine then .ok (.tup ds) S1 else .bad := rfl
@[simp] theorem mDisp_eq (l : MA) (ρ : MEnv) (S : Store) : mDisp l ρ S = (l ρ S).bind fun ds S1 => if ds.length ≤ PySem.sizeLine then .ok ds S1 else .bad := rfl
@[simp] theorem mLst_eq (m : ML) (ρ : MEnv) (S : Store) : mLst m ρ S = (m ρ S).bind fun ds S1 => .ok (.lst ds) S1 := rfl
@[simp] theorem mLoc_eq (m : ML) (ρ : MEnv) (S : Store) : mLoc m ρ S = (m ρ S).bind fun ds S1 => .ok (.loc S1.length) (S1 ++ [.lst ds]) := rfl
@[simp] theorem mOwnL_eq (i : Nat) (m : ML) (ρ : MEnv) (S : Store) : mOwnL i m ρ S = (m ρ S).bind fun ds S1 => .ok (.nx (ρ.set i (some (.own (.lst ds))))) S1 := rfl
@[simp] theorem mCall_eq (m : MF) (n : Nat) (dv : List D) (l : MA) (ρ : MEnv) (S : Store) : mCall m n dv l ρ S = (l ρ S).bind fun ds S1 => if (ds ++ dv).length = n then m (ds ++ dv) S1 else .bad := rfl
@[simp] theorem mCallK_eq (m : MF) (n np nk : Nat) (pick : List D → List D → List D) (l lk : MA) (ρ : MEnv) (S : Store) : mCallK m n np nk pick l lk ρ S = (l ρ S).bind fun ds S1 => (lk ρ S1).bind fun es S2 =>
  if ds.length = np ∧ es.length = nk ∧ (pick ds es).length = n then m (pick ds es) S2 else .bad := rfl
@[simp] theorem mAsg_eq (p : Pat) (m : ME) (ρ : MEnv) (S : Store) : mAsg p m ρ S = (m ρ S).bind fun d S1 => (match p.bind d with | some l => .ok (.nx (setD ρ l)) S1 | none => .bad) := rfl
@[simp] theorem mFor_eq (p : Pat) (it : ML) (mb : MS) (ρ : MEnv) (S : Store) : mFor p it mb ρ S = (it ρ S).bind fun l S1 => mForL p mb l ρ S1 := rfl
@[simp] theorem iSeq_eq (m : ME) (ρ : MEnv) (S : Store) : iSeq m ρ S = (m ρ S).bind iSeqD := rfl
@[simp] theorem iSeqD_lst (l : List D) (S : Store) : iSeqD (.lst l) S = .ok l S := rfl
@[simp] theorem iSeqD_tup (l : List D) (S : Store) : iSeqD (.tup l) S = .ok l S := rfl
@[simp] theorem iLst_eq (m : ME) (ρ : MEnv) (S : Store) : iLst m ρ S = (m ρ S).bind seqD := rfl
@[simp] theorem seqD_lst (l : List D) (S : Store) : seqD (.lst l) S = .ok l S := rfl
@[simp] theorem iLoc_eq (m : ME) (ρ : MEnv) (S : Store) : iLoc m ρ S = (m ρ S).bind locD := rfl
@[simp] theorem locD_eq (n : Nat) (S : Store) : locD (.loc n) S = (match S[n]? with | some (.lst l) => .ok l S | _ => .bad) := rfl
@[simp] theorem iScr_eq (m : ME) (ρ : MEnv) (S : Store) : iScr m ρ S = (m ρ S).bind scrD := rfl
@[simp] theorem scrD_eq (l : List Int) (S : Store) : scrD (.scr l) S = .ok (l.map .int) S := rfl
@[simp] theorem iRange1_eq (l : MA) (ρ : MEnv) (S : Store) : iRange1 l ρ S = (l ρ S).bind fun ds S1 => (match ds with | [.int j] => if -(2 ^ 62) ≤ j ∧ j < 2 ^ 62 then .ok (rangeD 0 j) S1 else .bad | _ => .bad) := rfl
@[simp] theorem iRange2_eq (l : MA) (ρ : MEnv) (S : Store) : iRange2 l ρ S = (l ρ S).bind fun ds S1 => (match ds with
  | [.int i, .int j] => if -(2 ^ 62) ≤ i ∧ i < 2 ^ 62 ∧ -(2 ^ 62) ≤ j ∧ j < 2 ^ 62 then .ok (rangeD i j) S1 else .bad | _ => .bad) := rfl
@[simp] theorem iEnumM_eq (m : ME) (ρ : MEnv) (S : Store) : iEnumM m ρ S = (m ρ S).bind fun d S1 => (seqD d S1).bind fun l S2 => .ok (enumD 0 l) S2 := rfl
@[simp] theorem mLc_eq (it : ML) (p : Pat) (vs : List Nat) (mt : MT) (me : ME) (ρ : MEnv) (S : Store) : mLc it p vs mt me ρ S = (it ρ S).bind fun l S1 => (mLcL p mt me l (wipeM ρ vs) S1).bind fun r S2 => if r.length ≤ PySem.sizeLine then .ok r S2 else .bad := rfl
@[simp] theorem mYes_eq (ρ : MEnv) (S : Store) : mYes ρ S = .ok true S := rfl
@[simp] theorem mQ_eq (h : List D → Store → R D) (m : ML) (ρ : MEnv) (S : Store) : mQ h m ρ S = (m ρ S).bind h := rfl
@[simp] theorem mQL_eq (h : List D → Store → R (List D)) (m : ML) (ρ : MEnv) (S : Store) : mQL h m ρ S = (m ρ S).bind h := rfl
@[simp] theorem mA_eq (h : List D → Store → R D) (l : MA) (ρ : MEnv) (S : Store) : mA h l ρ S = (l ρ S).bind h := rfl
@[simp] theorem mB1_eq (h : D → Store → R D) (m : ME) (ρ : MEnv) (S : Store) : mB1 h m ρ S = (m ρ S).bind h := rfl
@[simp] theorem hLen_eq (l : List D) (S : Store) : hLen l S = .ok (.int l.length) S := rfl
@[simp] theorem hTup_eq (l : List D) (S : Store) : hTup l S = .ok (.tup l) S := rfl
@[simp] theorem hList_eq (l : List D) (S : Store) : hList l S = .ok l S := rfl
@[simp] theorem hAbs_eq (i : Int) (S : Store) : hAbs [.int i] S = .ok (.int (if i < 0 then -i else i)) S := rfl
@[simp] theorem hInt_eq (i : Int) (S : Store) : hInt [.int i] S = .ok (.int i) S := rfl
@[simp] theorem hIntB_eq (k : Bool) (S : Store) : hInt [.bl k] S = .ok (.int (if k then 1 else 0)) S := rfl
@[simp] theorem hMax2_eq (i j : Int) (S : Store) : hMax2 [.int i, .int j] S = .ok (.int (if j > i then j else i)) S := rfl
@[simp] theorem hMin2_eq (i j : Int) (S : Store) : hMin2 [.int i, .int j] S = .ok (.int (if j < i then j else i)) S := rfl
@[simp] theorem gNeg_eq (i : Int) (S : Store) : gNeg (.int i) S = .ok (.int (-i)) S := rfl
@[simp] theorem gI_eq (c : Int → Int → Prop) [∀ i j, Decidable (c i j)] (h : Int → Int → D) (i j : Int) (S : Store) : gI c h (.int i) (.int j) S = if c i j then .ok (h i j) S else .bad := rfl
@[simp] theorem gI0_eq (h : Int → Int → D) (i j : Int) (S : Store) : gI0 h (.int i) (.int j) S = .ok (h i j) S := rfl
@[simp] theorem gIx_tup (l : List D) (i : Int) (S : Store) : gIx (.tup l) (.int i) S = (match atI l i with | some d => .ok d S | none => .bad) := rfl
@[simp] theorem gIx_lst (l : List D) (i : Int) (S : Store) : gIx (.lst l) (.int i) S = (match atI l i with | some d => .ok d S | none => .bad) := rfl
@[simp] theorem gIx_scr (l : List Int) (i : Int) (S : Store) : gIx (.scr l) (.int i) S = (match atI l i with | some k => .ok (.int k) S | none => .bad) := rfl
@[simp] theorem gIx_loc (n : Nat) (i : Int) (S : Store) : gIx (.loc n) (.int i) S = (match S[n]? with | some (.lst l) => (match atI l i with | some d => .ok d S | none => .bad) | _ => .bad) := rfl
@[simp] theorem mSetC_eq (o i e : ME) (ρ : MEnv) (S : Store) : mSetC o i e ρ S = (e ρ S).bind fun d S1 => (o ρ S1).bind fun c S2 => (i ρ S2).bind fun k S3 => (match putC c k d S3 with | some S4 => .ok (.nx ρ) S4 | none => .bad) := rfl
@[simp] theorem putC_eq (n : Nat) (j : Int) (d : D) (S : Store) : putC (.loc n) (.int j) d S = (match S[n]? with | some (.lst l) => (ixN l.length j).map fun m => S.set n (.lst (l.set m d)) | _ => none) := rfl
@[simp] theorem mApp_eq (i : Nat) (m : ME) (ρ : MEnv) (S : Store) : mApp i m ρ S = (m ρ S).bind fun d S1 => (match ρ[i]? with
  | some (some (.own (.lst l))) => if l.length < PySem.sizeLine then .ok (.nx (ρ.set i (some (.own (.lst (l ++ [d])))))) S1 else .bad | _ => .bad) := rfl
@[simp] theorem mAppC_eq (mo me : ME) (ρ : MEnv) (S : Store) : mAppC mo me ρ S = (mo ρ S).bind fun c S1 => if isLoc c S1 = true then (me ρ S1).bind fun d S2 => (match appC c d S2 with | some S3 => .ok (.nx ρ) S3 | none => .bad) else .bad := rfl
@[simp] theorem qOwn_eq (i : Nat) (ρ : MEnv) (S : Store) : qOwn i ρ S = (match ρ[i]? with | some (some (.own (.lst l))) => .ok l S | _ => .bad) := rfl
@[simp] theorem gLen_tup (l : List D) (S : Store) : gLen (.tup l) S = .ok (.int l.length) S := rfl
@[simp] theorem gLen_lst (l : List D) (S : Store) : gLen (.lst l) S = .ok (.int l.length) S := rfl
@[simp] theorem gLen_scr (l : List Int) (S : Store) : gLen (.scr l) S = .ok (.int l.length) S := rfl
@[simp] theorem mDNewK_eq (ρ : MEnv) (S : Store) : mDNewK ρ S = .ok (.loc S.length) (S ++ [.dK []]) := rfl
@[simp] theorem mDGet2_eq (md mk mx : ME) (ρ : MEnv) (S : Store) : mDGet2 md mk mx ρ S = (md ρ S).bind fun c S1 => (match dictR S1 c with
  | none => .bad
  | some _ => (mk ρ S1).bind fun y S2 => (mx ρ S2).bind fun z S3 => (match dictR S3 c, keyD y with
    | some l, some k => .ok ((valA l k).getD z) S3
    | _, _ => .bad)) := rfl
@[simp] theorem mDPut_eq (md mk mv : ME) (ρ : MEnv) (S : Store) : mDPut md mk mv ρ S = (mv ρ S).bind fun d S1 => (md ρ S1).bind fun c S2 => (mk ρ S2).bind fun y S3 => (match putDict c y d S3 with | some S4 => .ok (.nx ρ) S4 | none => .bad) := rfl
@[simp] theorem mDSet_eq (md mk mx : ME) (ρ : MEnv) (S : Store) : mDSet md mk mx ρ S = (md ρ S).bind fun c S1 => (match dictAt S1 c with
  | none => .bad
  | some _ => (mk ρ S1).bind fun y S2 => (mx ρ S2).bind fun z S3 => setDef c y z S3) := rfl
@[simp] theorem dictAt_eq (S : Store) (n : Nat) : dictAt S (.loc n) = (match S[n]? with | some (.dK l) => some l | _ => none) := rfl
@[simp] theorem dictR_eq (S : Store) (n : Nat) : dictR S (.loc n) = (match S[n]? with | some (.dK l) => some l | some (.dF l) => some l | _ => none) := rfl
@[simp] theorem keyD_int (i : Int) : keyD (.int i) = some (.inl i) := rfl
@[simp] theorem keyD_str (x : PySem.Str) : keyD (.str x) = some (.inr x) := rfl
@[simp] theorem mPar_eq (is : List Nat) (m : MSl) (ρ : MEnv) (S : Store) : mPar is m ρ S = (m ρ S).bind fun ss S1 => if is.length = ss.length then .ok (.nx (setSl ρ (is.zip ss))) S1 else .bad := rfl
@[simp] theorem sNil_eq (ρ : MEnv) (S : Store) : sNil ρ S = .ok [] S := rfl
@[simp] theorem sVal_eq (m : ME) (r : MSl) (ρ : MEnv) (S : Store) : sVal m r ρ S = (m ρ S).bind fun d S1 => (r ρ S1).bind fun ss S2 => .ok (.val d :: ss) S2 := rfl
@[simp] theorem sOwnL_eq (m : ML) (r : MSl) (ρ : MEnv) (S : Store) : sOwnL m r ρ S = (m ρ S).bind fun l S1 => (r ρ S1).bind fun ss S2 => .ok (.own (.lst l) :: ss) S2 := rfl
@[simp] theorem setSl_nil (ρ : MEnv) : setSl ρ [] = ρ := rfl
@[simp] theorem setSl_cons (ρ : MEnv) (i : Nat) (s : Slot) (r : List (Nat × Slot)) : setSl ρ ((i, s) :: r) = setSl (ρ.set i (some s)) r := rfl
@[simp] theorem setD_nil (ρ : MEnv) : setD ρ [] = ρ := rfl
@[simp] theorem setD_cons (ρ : MEnv) (i : Nat) (d : D) (r : List (Nat × D)) : setD ρ ((i, d) :: r) = setD (ρ.set i (some (.val d))) r := rfl
@[simp] theorem pat_nm (i : Nat) (d : D) : Pat.bind (.nm i) d = some [(i, d)] := by unfold Pat.bind; rfl
@[simp] theorem pat_tp (ps : List Pat) (l : List D) : Pat.bind (.tp ps) (.tup l) = Pat.binds ps l := by unfold Pat.bind; rfl
@[simp] theorem pats_nil : Pat.binds [] [] = some [] := by unfold Pat.binds; rfl
@[simp] theorem pats_cons (p : Pat) (ps : List Pat) (d : D) (ds : List D) : Pat.binds (p :: ps) (d :: ds) = (match Pat.bind p d, Pat.binds ps ds with | some a, some b => some (a ++ b) | _, _ => none) := by
  rw [Pat.binds]
  all_goals (cases Pat.bind p d <;> cases Pat.binds ps ds <;> rfl)
@[simp] theorem wipeM_nil (ρ : MEnv) : wipeM ρ [] = ρ := rfl
@[simp] theorem wipeM_cons (ρ : MEnv) (v : Nat) (vs : List Nat) : wipeM ρ (v :: vs) = (wipeM ρ vs).set v none := rfl
@[simp] theorem forL_nil (p : Pat) (mb : MS) (ρ : MEnv) (S : Store) : mForL p mb [] ρ S = .ok (.nx ρ) S := rfl
theorem forL_cons (p : Pat) (mb : MS) (d : D) (ds : List D) (ρ : MEnv) (S : Store) : mForL p mb (d :: ds) ρ S = (match p.bind d with
    | none => .bad
    | some l => (mb (setD ρ l) S).bind fun fl S1 => (match fl with
      | .nx ρ1 => mForL p mb ds ρ1 S1
      | .ct ρ1 => mForL p mb ds ρ1 S1
      | .bk ρ1 => .ok (.nx ρ1) S1
      | .rt d => .ok (.rt d) S1)) := rfl
@[simp] theorem lcL_nil (p : Pat) (mt : MT) (me : ME) (ρ : MEnv) (S : Store) : mLcL p mt me [] ρ S = .ok [] S := rfl
theorem lcL_cons (p : Pat) (mt : MT) (me : ME) (d : D) (ds : List D) (ρ : MEnv) (S : Store) : mLcL p mt me (d :: ds) ρ S = (match p.bind d with
    | none => .bad
    | some l => (mt (setD ρ l) S).bind fun k S1 => if k = true then (me (setD ρ l) S1).bind fun y S2 => (mLcL p mt me ds ρ S2).bind fun r S3 => .ok (y :: r) S3
      else mLcL p mt me ds ρ S1) := rfl
theorem mDef_eq (N : Nat) (b : MS) (ds : List D) (S : Store) : mDef N b ds S = (b (ds.map (fun d => some (.val d)) ++ List.replicate (N - ds.length) none) S).bind fun fl S1 => (match fl with
  | .rt d => .ok d S1
  | .nx _ => .ok .non S1
  | _ => .bad) := rfl
@[simp] theorem n2_eq (h : D → D → Store → R (List D)) (a b : ME) (ρ : MEnv) (S : Store) : n2 h a b ρ S = (a ρ S).bind fun x S1 => (b ρ S1).bind fun y S2 => h x y S2 := rfl
@[simp] theorem atI0 {α : Type} (a : α) (l : List α) : atI (a :: l) 0 = some a := by
  have := atI_nat (xs := a :: l) (j := 0) (v := a) rfl
  exact this
@[simp] theorem atI1 {α : Type} (a b : α) (l : List α) : atI (a :: b :: l) 1 = some b := by
  have := atI_nat (xs := a :: b :: l) (j := 1) (v := b) rfl
  exact this
@[simp] theorem atI2 {α : Type} (a b c : α) (l : List α) : atI (a :: b :: c :: l) 2 = some c := by
  have := atI_nat (xs := a :: b :: c :: l) (j := 2) (v := c) rfl
  exact this
theorem small_le {n : Nat} (h : n ≤ 1000000) : n ≤ PySem.sizeLine := Nat.le_trans h (by decide)
theorem small_lt {n : Nat} (h : n ≤ 1000000) : n < PySem.sizeLine := Nat.lt_of_le_of_lt h (by decide)
end Mo
set_option maxRecDepth 100000
/-! Mo: bounds of what is reckoned. -/
namespace Mo
open L2
theorem log2_le {i : Int} {k : Nat} (h0 : 0 ≤ i) (h : i < 2 ^ (k + 1)) : i.natAbs.log2 ≤ k := by
  by_cases z : i.natAbs = 0
  · rw [z]; simp
  · have h1 : i.natAbs < 2 ^ (k + 1) := by
      have e : ((i.natAbs : Nat) : Int) = i := Int.natAbs_of_nonneg h0
      have : ((i.natAbs : Nat) : Int) < ((2 ^ (k + 1) : Nat) : Int) := by rw [e]; simpa using h
      exact Int.ofNat_lt.mp this
    have := (Nat.log2_lt z).mpr h1
    omega
theorem cMul_nn {i j : Int} (h1 : 0 ≤ i) (h2 : i < 2 ^ 256) (h3 : 0 ≤ j) (h4 : j < 2 ^ 256) : cMul i j := by
  have a := log2_le (k := 255) h1 h2
  have b := log2_le (k := 255) h3 h4
  unfold cMul
  omega
theorem cDiv_nn {i j : Int} (h1 : 0 < j) (h2 : j < 2 ^ 256) : cDiv i j := by
  have a := log2_le (k := 255) (Int.le_of_lt h1) h2
  exact ⟨h1, by omega⟩
theorem cMod_nn {i j : Int} (h1 : 0 < j) : cMod i j := h1
theorem cPow_nn {i j : Int} (h0 : 0 ≤ i) (h1 : i < 2 ^ 60) (h2 : 0 ≤ j) (h3 : j ≤ 1000000) : cPow i j := ⟨h2, h3, by
  have : ((i.natAbs : Nat) : Int) = i := Int.natAbs_of_nonneg h0
  omega⟩
end Mo
set_option maxRecDepth 100000
/-! Mo: how long what repr gives can be; == of data that are no truths. -/
namespace Mo
open PySem L2
mutual
/-- numbers below 2 ^ 64 alone, and lists and tuples of such -/
def nums : PyData → Bool
  | .int i => decide (i.natAbs.log2 < 64)
  | .list xs => numsAll xs
  | .tuple xs => numsAll xs
  | .bool _ => true
  | .none => true
  | .str _ => false
  | .dict _ => false
def numsAll : List PyData → Bool
  | [] => true
  | x :: xs => nums x && numsAll xs
end
mutual
def nodes : PyData → Nat
  | .list xs => 1 + nodesAll xs
  | .tuple xs => 1 + nodesAll xs
  | _ => 1
def nodesAll : List PyData → Nat
  | [] => 0
  | x :: xs => nodes x + nodesAll xs
end
theorem piled_le : ∀ {ts : List Str} {n : Nat}, ts.length ≤ n → True := fun _ => trivial
theorem tupleText_len {ts : List Str} {k : Nat} (h : piled ts ≤ k) : (tupleText ts).length ≤ k + 3 := by
  unfold tupleText
  rw [strLen_append, strLen_append]
  have e1 : (("(" : String) : Str).length = 1 := rfl
  have e2 : ((if ts.length == 1 then ",)" else ")" : String) : Str).length ≤ 2 := by split <;> decide
  have e3 : (Str.join ", " ts).length ≤ k := by
    cases ts with
    | nil => exact Nat.zero_le _
    | cons t r => have := join_length_add (t :: r) (by simp); omega
  omega
theorem textFrom_up : ∀ (ts : List Str) (k : Nat) (acc : Str), (textFrom k acc ts).length ≤ acc.length + piled ts
  | [], k, acc => by show acc.length ≤ acc.length + 0; omega
  | t :: r, k, acc => by
    have ih := textFrom_up r (k + 1) (acc ++ (if k > 0 then ", " else "" : String) ++ t)
    have e : (acc ++ (if k > 0 then ", " else "" : String) ++ t).length = acc.length + (if k > 0 then 2 else 0) + t.length := by
      rw [strLen_append, strLen_append]
      split <;> rfl
    show (textFrom (k + 1) (acc ++ (if k > 0 then ", " else "" : String) ++ t) r).length ≤ acc.length + (t.length + 2 + piled r)
    rw [e] at ih
    have h2 : (if k > 0 then 2 else 0) ≤ 2 := by split <;> omega
    omega
theorem listText_len {ts : List Str} {k : Nat} (h : piled ts ≤ k) : (listText ts).length ≤ k + 2 := by
  unfold listText
  rw [strLen_append]
  have e1 : (("[" : String) : Str).length = 1 := rfl
  have e2 : (("]" : String) : Str).length = 1 := rfl
  have := textFrom_up ts 0 "["
  omega
mutual
theorem shown_len : ∀ p : PyData, nums p = true → p.shown.length + 2 ≤ 80 * nodes p ∧ p.showable = true
  | .none, _ => by simp only [PyData.shown, nodes, PyData.showable]; exact ⟨by decide, trivial⟩
  | .bool b, _ => by simp only [PyData.shown, nodes, PyData.showable]; refine ⟨?_, trivial⟩; cases b <;> decide
  | .int i, h => by
    rw [nums] at h
    have h' := of_decide_eq_true h
    simp only [PyData.shown, nodes, PyData.showable]
    have e := int_text_length_le (by decide : 0 < 64) h'
    have e2 : ((toString i : String) : Str).length = (toString i).length := PySem.ofString_length _
    exact ⟨by rw [e2]; omega, decide_eq_true (by omega)⟩
  | .str _, h => by rw [nums] at h; cases h
  | .list xs, h => by
    rw [nums] at h
    obtain ⟨h1, h2⟩ := shownAll_len xs h
    rw [PyData.shown, nodes, PyData.showable]
    have := listText_len (Nat.le_refl (piled (PyData.shownAll xs)))
    exact ⟨by omega, h2⟩
  | .tuple xs, h => by
    rw [nums] at h
    obtain ⟨h1, h2⟩ := shownAll_len xs h
    rw [PyData.shown, nodes, PyData.showable]
    have := tupleText_len (Nat.le_refl (piled (PyData.shownAll xs)))
    exact ⟨by omega, h2⟩
  | .dict _, h => by rw [nums] at h; cases h
theorem shownAll_len : ∀ ps : List PyData, numsAll ps = true → piled (PyData.shownAll ps) ≤ 80 * nodesAll ps ∧ PyData.showableAll ps = true
  | [], _ => by rw [PyData.shownAll, nodesAll, PyData.showableAll]; exact ⟨Nat.le_refl _, rfl⟩
  | p :: ps, h => by
    rw [numsAll, Bool.and_eq_true] at h
    obtain ⟨a1, a2⟩ := shown_len p h.1
    obtain ⟨b1, b2⟩ := shownAll_len ps h.2
    rw [PyData.shownAll, nodesAll, PyData.showableAll, a2, b2]
    refine ⟨?_, rfl⟩
    show p.shown.length + 2 + piled (PyData.shownAll ps) ≤ _
    omega
end
theorem shownOk_of {p : PyData} (h : nums p = true) (hn : nodes p ≤ 10000) (hd : p.depth ≤ 60) : shownOk p := by
  obtain ⟨a, b⟩ := shown_len p h
  exact ⟨b, hd, small_le (by omega)⟩
theorem gRepr_tup {l : List D} {p : PyData} {S : Store} (hp : toP (.tup l) = some p) (h : shownOk p) : gRepr (.tup l) S = .ok (.str p.shown) S := by
  unfold gRepr
  rw [hp]
  dsimp only
  rw [if_pos h]
theorem gRepr_lst {l : List D} {p : PyData} {S : Store} (hp : toP (.lst l) = some p) (h : shownOk p) : gRepr (.lst l) S = .ok (.str p.shown) S := by
  unfold gRepr
  rw [hp]
  dsimp only
  rw [if_pos h]
theorem eqD_ints (x y : Int) : eqD (.int x) (.int y) = some (x == y) := by
  unfold eqD
  have h : ∀ z : Int, SeqAt.shaped (.int z) = true := fun z => by simp [SeqAt.shaped, PyData.canLay0, PyData.depth]
  simp only [toP, h, and_self, if_true]
  rw [PyData.eqv]
/-- texts first, then data -/
def gEqS : G2 := fun x y S => match x, y with
  | .str a, .str b => .ok (.bl (decide (a = b))) S
  | _, _ => .bad
def gNeS : G2 := fun x y S => match x, y with
  | .str a, .str b => .ok (.bl (!decide (a = b))) S
  | _, _ => .bad
theorem dec_vstr {a b : Str} : decide (V.str a = V.str b) = decide (a = b) := by
  by_cases h : a = b
  · rw [h]; simp
  · rw [decide_eq_false h, decide_eq_false fun e => h (V.str.inj e)]
theorem od_eqS {K : PySem.W.Frag} : OpD K rEq gEqS := by
  intro g f H S dx dy d S' x y Q s rx ry hm q
  unfold gEqS at hm
  split at hm
  · cases hm
    cases rx; cases ry
    exact ⟨rfl, by rw [dec_vstr]; exact q.same s rfl⟩
  · cases hm
theorem od_neS {K : PySem.W.Frag} : OpD K rNe gNeS := by
  intro g f H S dx dy d S' x y Q s rx ry hm q
  unfold gNeS at hm
  split at hm
  · cases hm
    cases rx; cases ry
    exact ⟨rfl, by rw [dec_vstr]; exact q.same s rfl⟩
  · cases hm
def gEqA : G2 := gOr gEqS gEq
def gNeA : G2 := gOr gNeS gNe
theorem od_eqA {K : PySem.W.Frag} : OpD K (fun x y H Q => rEq x y H Q ∨ rEqD K x y H Q) gEqA := OpD.or od_eqS od_eq
theorem od_neA {K : PySem.W.Frag} : OpD K (fun x y H Q => rNe x y H Q ∨ rNeD K x y H Q) gNeA := OpD.or od_neS od_ne
theorem op_eqA {X : Cx} (hu : X.A.units + 64 < cLine) : OpR X (compareOp .Eq) (fun x y H Q => rEq x y H Q ∨ rEqD X.K x y H Q) := op_eq.or (op_eqD hu)
theorem op_neA {X : Cx} (hu : X.A.units + 64 < cLine) : OpR X (compareOp .NotEq) (fun x y H Q => rNe x y H Q ∨ rNeD X.K x y H Q) := op_ne.or (op_neD hu)
@[simp] theorem gNe_strs (x y : Str) (S : Store) : gNeA (.str x) (.str y) S = .ok (.bl (!decide (x = y))) S := rfl
@[simp] theorem gEq_strs (x y : Str) (S : Store) : gEqA (.str x) (.str y) S = .ok (.bl (decide (x = y))) S := rfl
@[simp] theorem gNe_ints (x y : Int) (S : Store) : gNeA (.int x) (.int y) S = .ok (.bl (!(x == y))) S := by
  show gNe (.int x) (.int y) S = _
  unfold gNe
  rw [eqD_ints]
@[simp] theorem gEq_ints (x y : Int) (S : Store) : gEqA (.int x) (.int y) S = .ok (.bl (x == y)) S := by
  show gEq (.int x) (.int y) S = _
  unfold gEq
  rw [eqD_ints]
@[simp] theorem sz_1 : 1 ≤ PySem.sizeLine := by decide
@[simp] theorem sz_2 : 2 ≤ PySem.sizeLine := by decide
@[simp] theorem sz_3 : 3 ≤ PySem.sizeLine := by decide
@[simp] theorem sz_4 : 4 ≤ PySem.sizeLine := by decide
@[simp] theorem sz_5 : 5 ≤ PySem.sizeLine := by decide
@[simp] theorem sz_6 : 6 ≤ PySem.sizeLine := by decide
@[simp] theorem sz_7 : 7 ≤ PySem.sizeLine := by decide
@[simp] theorem sz_8 : 8 ≤ PySem.sizeLine := by decide
@[simp] theorem sz_9 : 9 ≤ PySem.sizeLine := by decide
@[simp] theorem sz_10 : 10 ≤ PySem.sizeLine := by decide
@[simp] theorem sz_11 : 11 ≤ PySem.sizeLine := by decide
@[simp] theorem sz_12 : 12 ≤ PySem.sizeLine := by decide
@[simp] theorem sz_13 : 13 ≤ PySem.sizeLine := by decide
@[simp] theorem sz_14 : 14 ≤ PySem.sizeLine := by decide
@[simp] theorem sz_15 : 15 ≤ PySem.sizeLine := by decide
@[simp] theorem sz_16 : 16 ≤ PySem.sizeLine := by decide
@[simp] theorem sz_17 : 17 ≤ PySem.sizeLine := by decide
@[simp] theorem sz_18 : 18 ≤ PySem.sizeLine := by decide
@[simp] theorem sz_19 : 19 ≤ PySem.sizeLine := by decide
@[simp] theorem sz_20 : 20 ≤ PySem.sizeLine := by decide
end Mo
set_option maxRecDepth 100000
/-! Mo: loops and comprehensions, held by what they keep. -/
namespace Mo
open L2
variable {α : Type}
theorem forL_run {p : Pat} {mb : MS} {enc : α → D} (I : List α → MEnv → Store → Prop) : ∀ (xs done : List α) {ρ : MEnv} {S : Store}, I done ρ S →
    (∀ (d : List α) (x : α) (r : List α) (ρ : MEnv) (S : Store), done ++ xs = d ++ x :: r → I d ρ S → ∃ l ρ' S', p.bind (enc x) = some l ∧ (mb (setD ρ l) S = .ok (.nx ρ') S' ∨ mb (setD ρ l) S = .ok (.ct ρ') S') ∧ I (d ++ [x]) ρ' S') →
    ∃ ρ' S', mForL p mb (xs.map enc) ρ S = .ok (.nx ρ') S' ∧ I (done ++ xs) ρ' S'
  | [], done, ρ, S, h, _ => ⟨ρ, S, rfl, by rw [List.append_nil]; exact h⟩
  | x :: xs, done, ρ, S, h, st => by
    obtain ⟨l, ρ1, S1, hp, e1, h1⟩ := st done x xs ρ S rfl h
    obtain ⟨ρ2, S2, e2, h2⟩ := forL_run I xs (done ++ [x]) h1 (fun d y r ρ S e hI => st d y r ρ S (by rw [← e, List.append_assoc]; rfl) hI)
    refine ⟨ρ2, S2, ?_, by rw [List.append_assoc] at h2; exact h2⟩
    rw [List.map_cons, forL_cons, hp]
    rcases e1 with e1 | e1
    · dsimp only; rw [e1]; exact e2
    · dsimp only; rw [e1]; exact e2
/-- the same, from nothing done -/
theorem forL_inv {p : Pat} {mb : MS} {enc : α → D} (I : List α → MEnv → Store → Prop) (xs : List α) {ρ : MEnv} {S : Store} (h : I [] ρ S)
    (st : ∀ (d : List α) (x : α) (r : List α) (ρ : MEnv) (S : Store), xs = d ++ x :: r → I d ρ S → ∃ l ρ' S', p.bind (enc x) = some l ∧ (mb (setD ρ l) S = .ok (.nx ρ') S' ∨ mb (setD ρ l) S = .ok (.ct ρ') S') ∧ I (d ++ [x]) ρ' S') :
    ∃ ρ' S', mForL p mb (xs.map enc) ρ S = .ok (.nx ρ') S' ∧ I xs ρ' S' := by
  have := forL_run (mb := mb) I xs [] h (fun d x r ρ S e hI => st d x r ρ S (by rw [← e, List.nil_append]) hI)
  rw [List.nil_append] at this
  exact this
/-- a comprehension whose elements change the store -/
theorem lcL_run {β : Type} {p : Pat} {me : ME} {enc : α → D} {dec : β → D} {ρ : MEnv} (I : Nat → Store → Prop) (J : β → Prop) (N : Nat) : ∀ (xs : List α) (k : Nat) {S : Store}, I k S → k + xs.length ≤ N →
    (∀ (x : α) (k : Nat) (S : Store), x ∈ xs → k < N → I k S → ∃ l y S', p.bind (enc x) = some l ∧ me (setD ρ l) S = .ok (dec y) S' ∧ J y ∧ I (k + 1) S') →
    ∃ (ys : List β) (S' : Store), mLcL p mYes me (xs.map enc) ρ S = .ok (ys.map dec) S' ∧ ys.length = xs.length ∧ (∀ y ∈ ys, J y) ∧ I (k + xs.length) S'
  | [], k, S, h, _, _ => ⟨[], S, rfl, rfl, (fun y hy => nomatch hy), h⟩
  | x :: xs, k, S, h, hN, st => by
    rw [List.length_cons] at hN
    obtain ⟨l, y, S1, hp, e1, j1, h1⟩ := st x k S List.mem_cons_self (by omega) h
    obtain ⟨ys, S2, e2, n2, j2, h2⟩ := lcL_run I J N xs (k + 1) h1 (by omega) (fun x k S hx => st x k S (List.mem_cons_of_mem _ hx))
    refine ⟨y :: ys, S2, ?_, by rw [List.length_cons, List.length_cons, n2], fun z hz => ?_, by rw [List.length_cons, show k + (xs.length + 1) = k + 1 + xs.length by omega]; exact h2⟩
    · rw [List.map_cons, lcL_cons, hp]
      dsimp only
      rw [mYes_eq, bind_ok_eq, if_pos rfl, e1, bind_ok_eq, e2, bind_ok_eq, List.map_cons]
    · cases hz with
      | head => exact j1
      | tail _ hz => exact j2 z hz
/-- a comprehension that leaves the store -/
theorem lcL_map {p : Pat} {me : ME} {enc : α → D} {f : α → D} {ρ : MEnv} {S : Store} : ∀ (xs : List α),
    (∀ x ∈ xs, ∃ l, p.bind (enc x) = some l ∧ me (setD ρ l) S = .ok (f x) S) → mLcL p mYes me (xs.map enc) ρ S = .ok (xs.map f) S
  | [], _ => rfl
  | x :: xs, st => by
    obtain ⟨l, hp, e⟩ := st x List.mem_cons_self
    rw [List.map_cons, lcL_cons, hp]
    dsimp only
    rw [mYes_eq, bind_ok_eq, if_pos rfl, e, bind_ok_eq, lcL_map xs (fun y hy => st y (List.mem_cons_of_mem _ hy)), bind_ok_eq, List.map_cons]
/-- with a test -/
theorem lcL_filter {p : Pat} {mt : MT} {me : ME} {enc : α → D} {f : α → D} {c : α → Bool} {ρ : MEnv} {S : Store} : ∀ (xs : List α),
    (∀ x ∈ xs, ∃ l, p.bind (enc x) = some l ∧ mt (setD ρ l) S = .ok (c x) S ∧ (c x = true → me (setD ρ l) S = .ok (f x) S)) → mLcL p mt me (xs.map enc) ρ S = .ok ((xs.filter c).map f) S
  | [], _ => rfl
  | x :: xs, st => by
    obtain ⟨l, hp, e, e'⟩ := st x List.mem_cons_self
    have ih := lcL_filter xs (fun y hy => st y (List.mem_cons_of_mem _ hy))
    rw [List.map_cons, lcL_cons, hp]
    dsimp only
    rw [e, bind_ok_eq]
    cases h : c x with
    | true => rw [if_pos rfl, e' h, bind_ok_eq, ih, bind_ok_eq, List.filter_cons_of_pos h, List.map_cons]
    | false => rw [if_neg Bool.false_ne_true, ih, List.filter_cons_of_neg (by rw [h]; exact Bool.false_ne_true)]
/-! ### dicts whose keys are numbers -/
def addK (ks : List Int) (k : Int) : List Int := if k ∈ ks then ks else ks ++ [k]
theorem valA_map (ks : List Int) (f : Int → D) (k : Int) : valA (ks.map fun j => ((.inl j : Key), f j)) (.inl k) = if k ∈ ks then some (f k) else none := by
  induction ks with
  | nil => rfl
  | cons j ks ih =>
    unfold valA at ih ⊢
    rw [List.map_cons, List.find?_cons]
    by_cases h : j = k
    · subst h; simp
    · have h1 : decide ((Sum.inl j : Key) = Sum.inl k) = false := decide_eq_false fun e => h (Sum.inl.inj e)
      have h2 : (k ∈ j :: ks) = (k ∈ ks) := by simp [Ne.symm h]
      simp only [h1, h2]
      exact ih
theorem any_map (ks : List Int) (f : Int → D) (k : Int) : ((ks.map fun j => ((.inl j : Key), f j)).any fun kv => decide (kv.1 = .inl k)) = decide (k ∈ ks) := by
  induction ks with
  | nil => rfl
  | cons j ks ih =>
    rw [List.map_cons, List.any_cons, ih]
    by_cases h : j = k
    · subst h; simp
    · have h1 : decide ((Sum.inl j : Key) = Sum.inl k) = false := decide_eq_false fun e => h (Sum.inl.inj e)
      have h2 : (k ∈ j :: ks) = (k ∈ ks) := by simp [Ne.symm h]
      simp only [h1, h2, Bool.false_or]
theorem putA_map (ks : List Int) (f : Int → D) (k : Int) (d : D) : putA (ks.map fun j => ((.inl j : Key), f j)) (.inl k) d = (addK ks k).map fun j => ((.inl j : Key), if j = k then d else f j) := by
  unfold putA addK
  rw [any_map]
  by_cases h : k ∈ ks
  · rw [decide_eq_true h, if_pos rfl, if_pos h, List.map_map]
    refine List.map_congr_left fun j _ => ?_
    show (if (Sum.inl j : Key) = Sum.inl k then _ else _) = _
    by_cases e : j = k
    · subst e; rw [if_pos rfl, if_pos rfl]
    · rw [if_neg (fun e' => e (Sum.inl.inj e')), if_neg e]
  · rw [decide_eq_false h, if_neg Bool.false_ne_true, if_neg h, List.map_append]
    congr 1
    · refine List.map_congr_left fun j hj => ?_
      have hne : j ≠ k := fun e => h (e ▸ hj)
      rw [if_neg hne]
    · simp
theorem intKeys_map (ks : List Int) (f : Int → D) : intKeys (ks.map fun j => ((.inl j : Key), f j)) = some ks := by
  induction ks with
  | nil => rfl
  | cons j ks ih => rw [List.map_cons, intKeys, ih]; rfl
theorem sortI_mem {ks : List Int} {k : Int} : k ∈ sortI ks ↔ k ∈ ks := List.mem_mergeSort
theorem sortI_length (ks : List Int) : (sortI ks).length = ks.length := List.length_mergeSort ks
/-- what lay in the store lies there still -/
def Keeps (S S' : Store) : Prop := S.length ≤ S'.length ∧ ∀ i, i < S.length → S'[i]? = S[i]?
theorem Keeps.refl (S : Store) : Keeps S S := ⟨Nat.le_refl _, fun _ _ => rfl⟩
theorem Keeps.app (S T : Store) : Keeps S (S ++ T) := ⟨by rw [List.length_append]; omega, fun i h => List.getElem?_append_left h⟩
theorem Keeps.trans {S S' S'' : Store} (h : Keeps S S') (h' : Keeps S' S'') : Keeps S S'' := ⟨Nat.le_trans h.1 h'.1, fun i hi => (h'.2 i (Nat.lt_of_lt_of_le hi h.1)).trans (h.2 i hi)⟩
theorem Keeps.set {S S' : Store} {n : Nat} {c : Cell} (h : Keeps S S') (hn : S.length ≤ n) : Keeps S (S'.set n c) := ⟨by rw [List.length_set]; exact h.1, fun i hi => by rw [List.getElem?_set_ne (by omega)]; exact h.2 i hi⟩
/-! ### data -/
theorem toPs_map {f : α → D} {g : α → PySem.PyData} (h : ∀ x, toP (f x) = some (g x)) : ∀ xs : List α, toPs (xs.map f) = some (xs.map g)
  | [] => rfl
  | x :: xs => by rw [List.map_cons, toPs, h x, toPs_map h xs]; rfl
theorem numsAll_map {g : α → PySem.PyData} {xs : List α} (h : ∀ x ∈ xs, nums (g x) = true) : numsAll (xs.map g) = true := by
  induction xs with
  | nil => rfl
  | cons x xs ih => rw [List.map_cons, numsAll, h x List.mem_cons_self, ih (fun y hy => h y (List.mem_cons_of_mem _ hy))]; rfl
theorem nodesAll_map {g : α → PySem.PyData} {k : Nat} {xs : List α} (h : ∀ x ∈ xs, nodes (g x) ≤ k) : nodesAll (xs.map g) ≤ xs.length * k := by
  induction xs with
  | nil => rw [List.map_nil, nodesAll]; exact Nat.zero_le _
  | cons x xs ih =>
    rw [List.map_cons, nodesAll, List.length_cons, Nat.add_mul, Nat.one_mul]
    have := h x List.mem_cons_self
    have := ih (fun y hy => h y (List.mem_cons_of_mem _ hy))
    omega
theorem depthAll_map {g : α → PySem.PyData} {k : Nat} {xs : List α} (h : ∀ x ∈ xs, (g x).depth ≤ k) : PySem.PyData.depthAll (xs.map g) ≤ k := by
  induction xs with
  | nil => rw [List.map_nil, PySem.PyData.depthAll]; omega
  | cons x xs ih =>
    rw [List.map_cons, PySem.PyData.depthAll]
    exact Nat.max_le.mpr ⟨h x List.mem_cons_self, ih (fun y hy => h y (List.mem_cons_of_mem _ hy))⟩
theorem log_lt {i : Int} (h : i.natAbs < 2 ^ 64) : i.natAbs.log2 < 64 := by
  by_cases z : i.natAbs = 0
  · rw [z]; decide
  · exact (Nat.log2_lt z).mpr h
end Mo
set_option maxRecDepth 100000
set_option maxHeartbeats 1000000
/-! Mo: dicts that are walked through. -/
namespace Mo
open PySem PySem.Spec PyProof.Rows L2

section
variable {K : PySem.W.Frag} {g f : List Addr} {H : Hp} {p : Addr} {u : HO}
/-- no tuple, no list stands there -/
def Nt (H : Hp) (p : Addr) : Prop := ∀ vs, ¬ Rd H p (.tup vs)
theorem Nt.of {kvs : List (Key × V)} (h : H p = some (.dK kvs)) : Nt H p := fun vs r => by
  rcases r with r | ⟨o, r⟩ <;> rw [h] at r <;> cases r
theorem Nt.frz {kvs : List (Key × V)} {o : Obj} (h : H p = some (.frz o (.dK kvs))) : Nt H p := fun vs r => by
  rcases r with r | ⟨o, r⟩ <;> rw [h] at r <;> cases r
theorem SqT.updN {a : Addr} {vs : List V} (hm : Nt H p) (h : SqT K H a vs) : SqT K (L2.upd H p u) a vs := by
  rcases h with h | h
  · exact .inl (Rd.upd (fun e => by subst e; exact hm vs h) h)
  · exact .inr h
mutual
theorem RelD.updN (hm : Nt H p) (hp : p ∈ f ∨ p ∈ g) : ∀ (d : D) (v : V), RelD K g f H d v → RelD K g f (L2.upd H p u) d v
  | .non, _, h => h
  | .bl _, _, h => h
  | .int _, _, h => h
  | .str _, _, h => h
  | .raw _, _, h => h
  | .tup l, _, ⟨a, vs, e, q, r⟩ => ⟨a, vs, e, SqT.updN hm q, RelDs.updN hm hp l vs r⟩
  | .lst l, _, ⟨a, vs, e, q, r⟩ => ⟨a, vs, e, q.upd hp, RelDs.updN hm hp l vs r⟩
  | .loc n, _, h => h
  | .scr l, _, ⟨a, e, q⟩ => ⟨a, e, q.upd hp⟩
  | .ex c n d, _, ⟨a, C, dd, y, e, k, q1, q2, r⟩ => ⟨a, C, dd, y, e, k, q1.upd hp, q2.upd hp, RelD.updN hm hp d y r⟩
theorem RelDs.updN (hm : Nt H p) (hp : p ∈ f ∨ p ∈ g) : ∀ (l : List D) (vs : List V), RelDs K g f H l vs → RelDs K g f (L2.upd H p u) l vs
  | [], _, h => h
  | d :: ds, _, ⟨v, r, e, q, t⟩ => ⟨v, r, e, RelD.updN hm hp d v q, RelDs.updN hm hp ds r t⟩
end
theorem RelKv.updN {κ : Type} (hm : Nt H p) (hp : p ∈ f ∨ p ∈ g) : ∀ (l : List (κ × D)) (vs : List (κ × V)), RelKv K g f H l vs → RelKv K g f (L2.upd H p u) l vs
  | [], _, h => h
  | d :: ds, _, ⟨v, r, e, q, t⟩ => ⟨v, r, e, RelD.updN hm hp d.2 v q, RelKv.updN hm hp ds r t⟩
theorem RelC.updN {a : Addr} (hm : Nt H p) (hp : p ∈ f ∨ p ∈ g) (hne : a ≠ p) : ∀ {c : Cell}, RelC K g f H a c → RelC K g f (L2.upd H p u) a c
  | .lst l, ⟨vs, e, r⟩ => ⟨vs, by rw [upd_ne hne]; exact e, RelDs.updN hm hp l vs r⟩
  | .dK l, ⟨vs, e, r⟩ => ⟨vs, by rw [upd_ne hne]; exact e, RelKv.updN hm hp l vs r⟩
  | .dT l, ⟨vs, e, r, r'⟩ => ⟨vs, by rw [upd_ne hne]; exact e, RelKv.updN hm hp _ _ r, RelKv.updN hm hp _ _ r'⟩
  | .dF l, ⟨vs, ⟨ob, e⟩, r⟩ => ⟨vs, ⟨ob, by rw [upd_ne hne]; exact e⟩, RelKv.updN hm hp l vs r⟩
  | .dG l, ⟨vs, ⟨ob, e⟩, r, r'⟩ => ⟨vs, ⟨ob, by rw [upd_ne hne]; exact e⟩, RelKv.updN hm hp _ _ r, RelKv.updN hm hp _ _ r'⟩
theorem g_inj {S : Store} {n m : Nat} (s : RelS K g f H S) (h1 : g[n]? = some p) (h2 : g[m]? = some p) : n = m := by
  have l1 := lt_of_get h1
  have l2 := lt_of_get h2
  rw [List.getElem?_eq_getElem l1] at h1
  rw [List.getElem?_eq_getElem l2] at h2
  cases h1
  exact (List.getElem_inj s.nod).mp (Option.some.inj h2).symm
theorem RelS.updGN {S : Store} {n : Nat} {c : Cell} (s : RelS K g f H S) (hm : Nt H p) (hp : g[n]? = some p) (r : RelC K g f (L2.upd H p u) p c) : RelS K g f (L2.upd H p u) (S.set n c) where
  len := by rw [List.length_set]; exact s.len
  nod := s.nod
  cel := fun m d a e1 e2 => by
    by_cases hk : n = m
    · subst hk
      rw [hp] at e2; cases e2
      have hl : n < S.length := by rw [← s.len]; exact lt_of_get hp
      rw [List.getElem?_set_self hl] at e1
      cases e1
      exact r
    · rw [List.getElem?_set_ne hk] at e1
      exact (s.cel m d a e1 e2).updN hm (.inr (List.mem_of_getElem? hp)) fun e => hk (g_inj s hp (e ▸ e2))
theorem Sta.updGN {w o : List Addr} {ρ : MEnv} {S : Store} {σ : L2.St} {n : Nat} {c : Cell} (s : Sta K g w o ρ S σ H) (hm : Nt H p) (hp : g[n]? = some p) (r : RelC K g (w ++ o) (L2.upd H p u) p c) : Sta K g w o ρ (S.set n c) σ (L2.upd H p u) where
  len := s.len
  val := fun i d e => let ⟨v, e1, r1⟩ := s.val i d e; ⟨v, e1, RelD.updN hm (.inr (List.mem_of_getElem? hp)) d v r1⟩
  own := fun i d e => let ⟨a, e1, m, r1⟩ := s.own i d e; ⟨a, e1, m, r1.updN hm (.inr (List.mem_of_getElem? hp)) fun z => (s.out a m).1 (by subst z; exact List.mem_of_getElem? hp)⟩
  inj := s.inj
  out := s.out
  liv := fun a m => by
    by_cases e : a = p
    · subst e; rw [upd_same]; simp
    · rw [upd_ne e]; exact s.liv a m
  sto := s.sto.updGN hm hp r
theorem RelKv.extS {κ : Type} {w o g' o' : List Addr} {H' : Hp} (x : ExtS g o H g' o' H') : ∀ (l : List (κ × D)) (vs : List (κ × V)), RelKv K g (w ++ o) H l vs → RelKv K g' (w ++ o') H' l vs
  | [], _, h => h
  | d :: ds, _, ⟨v, r, e, q, t⟩ => ⟨v, r, e, RelD.extS x d.2 v q, RelKv.extS x ds r t⟩
/-- what was locked is what it was -/
theorem ExtS.unlock {g' o o' : List Addr} {H' : Hp} {kvs : List (Key × V)} {od : Obj} (hH : H p = some (.dK kvs)) (hp : p ∈ g) (x : ExtS g o (L2.upd H p (.frz od (.dK kvs))) g' o' H') : ExtS g o H g' o' (L2.upd H' p (.dK kvs)) where
  more := by
    obtain ⟨ns, e, h⟩ := x.more
    refine ⟨ns, e, fun b hb => ?_⟩
    have := h b hb
    by_cases z : b = p
    · subst z; rw [upd_same] at this; cases this
    · rwa [upd_ne z] at this
  keep := fun c v e n m => by
    have z : c ≠ p := fun z => n (z ▸ hp)
    rw [upd_ne z]
    exact x.keep c v (by rw [upd_ne z]; exact e) n m
  live := fun c h => by
    by_cases z : c = p
    · subst z; rw [upd_same]; simp
    · rw [upd_ne z]; exact x.live c (by rw [upd_ne z]; exact h)
  tups := fun c vs r => by
    have z : c ≠ p := fun z => by subst z; exact Nt.of hH vs r
    exact Rd.upd z (x.tups c vs (Rd.upd z r))
  frz := fun c o' v e => by
    have z : c ≠ p := fun z => by subst z; rw [hH] at e; cases e
    rw [upd_ne z]
    exact x.frz c o' v (by rw [upd_ne z]; exact e)
  lam := fun c h => by
    rcases x.lam c h with q | q
    · exact .inl q
    · refine .inr ?_
      by_cases z : c = p
      · subst z; rw [upd_same] at q; cases q
      · rwa [upd_ne z] at q
theorem Ext.unlock {g' : List Addr} {H' : Hp} {kvs : List (Key × V)} {od : Obj} (hH : H p = some (.dK kvs)) (hp : p ∈ g) (x : Ext g (L2.upd H p (.frz od (.dK kvs))) g' H') : Ext g H g' (L2.upd H' p (.dK kvs)) :=
  (ExtS.unlock (o := []) hH hp x.s).ext
end
section
variable {X : Cx} {st : Stmt} {e : Expr} {i : Nat} {m : MS} {ml : ML} {me : ME}
def dictVar (i : Nat) (ρ : MEnv) (S : Store) : Option (Nat × List (Key × D)) := match ρ[i]? with
  | some (some (.val (.loc n))) => match S[n]? with
    | some (.dK l) => some (n, l)
    | _ => none
  | _ => none
theorem dictVar_of {i : Nat} {ρ : MEnv} {S : Store} {n : Nat} {l : List (Key × D)} (h : dictVar i ρ S = some (n, l)) : ρ[i]? = some (some (.val (.loc n))) ∧ S[n]? = some (.dK l) := by
  unfold dictVar at h
  split at h
  · rename_i n' e
    split at h
    · rename_i l' e'
      cases h
      exact ⟨e, e'⟩
    · cases h
  · cases h
/-- the statement, while the dict of a name is walked through -/
def mLock (i : Nat) (m : MS) : MS := fun ρ S => match dictVar i ρ S with
  | some (n, l) => (m ρ (S.set n (.dF l))).bind fun fl S2 => .ok fl (S2.set n (.dK l))
  | none => .bad
theorem sm_lock (h : SM X st m) : SM X st (mLock i m) := PS.of (ps_lock h) fun E σ H ⟨g, w, o, ρ, S, fl, S', s, hm, q⟩ => by
  unfold mLock at hm
  split at hm
  · rename_i n l hv
    obtain ⟨e1, e2⟩ := dictVar_of hv
    obtain ⟨f1, S2, h2, hm⟩ := R.bind_ok hm
    cases hm
    obtain ⟨v, _, a, _, hg⟩ := s.val i _ e1
    obtain ⟨kvs, hH, r⟩ := s.sto.cel n _ a e2 hg
    have gD : a ∈ g := List.mem_of_getElem? hg
    refine ⟨a, .dK kvs, hH, trivial, fun od => ?_⟩
    have s1 : Sta X.K g w o ρ (S.set n (.dF l)) σ (upd H a (.frz od (.dK kvs))) := s.updGN (Nt.of hH) hg ⟨kvs, ⟨od, upd_same⟩, RelKv.updN (Nt.of hH) (.inr gD) _ _ r⟩
    have rl : RelKv X.K g (w ++ o) (upd H a (.frz od (.dK kvs))) l kvs := RelKv.updN (Nt.of hH) (.inr gD) _ _ r
    refine ⟨g, w, o, ρ, _, _, S2, s1, h2, fun g' o' H' x => ?_⟩
    have hf : H' a = some (.frz od (.dK kvs)) := x.frz a od _ upd_same
    have xx := ExtS.unlock hH gD x
    have hg' : g'[n]? = some a := x.get hg
    have gD' : a ∈ g' := List.mem_of_getElem? hg'
    have rl' : ∀ f', RelKv X.K g' f' H' l kvs → RelC X.K g' f' (upd H' a (.dK kvs)) a (.dK l) := fun f' r => ⟨kvs, upd_same, RelKv.updN (Nt.frz hf) (.inr gD') _ _ r⟩
    have key : ∀ {σ' : L2.St} {ρ' : MEnv}, Sta X.K g' w o' ρ' S2 σ' H' → Sta X.K g' w o' ρ' (S2.set n (.dK l)) σ' (upd H' a (.dK kvs)) := fun st => by
      refine st.updGN (Nt.frz hf) hg' (rl' _ ?_)
      exact RelKv.extS x l kvs rl
    have Q := q g' o' _ xx
    cases fl with
    | nx ρ' => exact fun σ' st => ⟨hf, Q σ' (key st)⟩
    | bk ρ' => exact fun σ' st => ⟨hf, Q σ' (key st)⟩
    | ct ρ' => exact fun σ' st => ⟨hf, Q σ' (key st)⟩
    | rt d => 
      refine fun v rs rd => ⟨hf, Q v ?_ (RelD.updN (Nt.frz hf) (.inr gD') _ _ rd)⟩
      refine rs.updGN (Nt.frz hf) hg' (rl' _ ?_)
      exact RelKv.less (fun b hb => List.mem_append_left _ hb) _ _ (RelKv.extS x l kvs rl)
  · cases hm
/-- the list that an expression makes, while the dict of a name is walked through -/
def nLock (i : Nat) (m : ML) : ML := fun ρ S => match dictVar i ρ S with
  | some (n, l) => (m ρ (S.set n (.dF l))).bind fun ds S2 => .ok ds (S2.set n (.dK l))
  | none => .bad
theorem nm_lock (h : NM X e ml) : NM X e (nLock i ml) := PE.of (pe_lock h) fun σ H Q ⟨g, w, o, ρ, S, ds, S', s, hm, q⟩ => by
  unfold nLock at hm
  split at hm
  · rename_i n l hv
    obtain ⟨e1, e2⟩ := dictVar_of hv
    obtain ⟨d1, S2, h2, hm⟩ := R.bind_ok hm
    cases hm
    obtain ⟨v, _, a, _, hg⟩ := s.val i _ e1
    obtain ⟨kvs, hH, r⟩ := s.sto.cel n _ a e2 hg
    have gD : a ∈ g := List.mem_of_getElem? hg
    refine ⟨a, .dK kvs, hH, trivial, fun od => ?_⟩
    have s1 : Sta X.K g w o ρ (S.set n (.dF l)) σ (upd H a (.frz od (.dK kvs))) := s.updGN (Nt.of hH) hg ⟨kvs, ⟨od, upd_same⟩, RelKv.updN (Nt.of hH) (.inr gD) _ _ r⟩
    have rl : RelKv X.K g (w ++ o) (upd H a (.frz od (.dK kvs))) l kvs := RelKv.updN (Nt.of hH) (.inr gD) _ _ r
    refine ⟨g, w, o, ρ, _, _, S2, s1, h2, fun p vs g' H' x hp hn hl rs rd => ?_⟩
    have hf : H' a = some (.frz od (.dK kvs)) := x.frz a od _ upd_same
    have hg' : g'[n]? = some a := x.get hg
    have gD' : a ∈ g' := List.mem_of_getElem? hg'
    have hpa : p ≠ a := fun z => by subst z; rw [upd_same] at hp; cases hp
    refine ⟨hf, q p vs g' _ (Ext.unlock hH gD x) (by rwa [upd_ne hpa] at hp) hn (by rw [upd_ne hpa]; exact hl) ?_ (RelDs.updN (Nt.frz hf) (.inr gD') _ _ rd)⟩
    refine rs.updGN (Nt.frz hf) hg' ⟨kvs, upd_same, RelKv.updN (Nt.frz hf) (.inr gD') _ _ ?_⟩
    exact RelKv.ext x l kvs (RelKv.fresh hp _ _ rl)
  · cases hm
def keyV : Key → D
  | .inl i => .int i
  | .inr x => .str x
theorem keyV_rel {K : PySem.W.Frag} {g f : List Addr} {H : Hp} (k : Key) : RelD K g f H (keyV k) (kV k) := by cases k <;> rfl
/-- the keys of the walked dict of a name -/
def iKeysF (m : ME) : ML := fun ρ S => (m ρ S).bind fun d S1 => match d with
  | .loc n => match S1[n]? with
    | some (.dF l) => .ok (l.map fun kv => keyV kv.1) S1
    | _ => .bad
  | _ => .bad
theorem RelKv.get {K : PySem.W.Frag} {g f : List Addr} {H : Hp} {κ : Type} : ∀ {l : List (κ × D)} {vs : List (κ × V)} {i : Nat} {kd : κ × D}, RelKv K g f H l vs → l[i]? = some kd → ∃ v, vs[i]? = some (kd.1, v) ∧ RelD K g f H kd.2 v
  | [], _, i, _, _, e => by simp at e
  | d :: ds, _, 0, _, ⟨v, r, e, q, _⟩, h => by
    simp at h; subst h; subst e
    exact ⟨v, rfl, q⟩
  | d :: ds, _, i + 1, _, ⟨v, r, e, _, t⟩, h => by
    subst e
    obtain ⟨v', e1, q⟩ := RelKv.get t (by simpa using h)
    exact ⟨v', by simpa using e1, q⟩
theorem im_keys {tg : Expr} (h : EM X e me) : IM X tg e (iKeysF me) := PI.of (pi_keys h) fun σ H Rr ⟨g, w, o, ρ, S, ks, S', s, hm, q⟩ => by
  obtain ⟨d, S1, h1, h2⟩ := R.bind_ok hm
  split at h2
  · rename_i n
    split at h2
    · rename_i l hn
      cases h2
      refine ⟨g, w, o, ρ, S, _, _, s, h1, fun v g1 H1 x1 s1 ⟨a, ev, hg⟩ => ?_⟩
      obtain ⟨kvs, ⟨ob, hf⟩, r⟩ := s1.cel n _ a hn hg
      refine ⟨a, ob, ev, .inl ⟨kvs, hf, q g1 H1 _ x1 s1 ⟨fun i d g2 o2 H2 hi x2 => ?_, fun i g2 o2 H2 hi x2 => ?_⟩⟩⟩
      · rw [List.getElem?_map] at hi
        cases ei : l[i]? with
        | none => rw [ei] at hi; cases hi
        | some kd =>
          rw [ei] at hi
          cases hi
          obtain ⟨v', e1, _⟩ := RelKv.get r ei
          refine ⟨⟨x2.frz _ _ _ hf, lt_of_get e1⟩, fun y H3 ⟨e3, k, v3, e4, e5⟩ => ?_⟩
          subst e3
          rw [e1] at e4
          cases e4
          subst e5
          exact ⟨.refl, keyV_rel _⟩
      · rw [List.length_map] at hi
        exact ⟨x2.frz _ _ _ hf, by rw [← RelKv.length r]; exact hi⟩
    · cases h2
  · cases h2
@[simp] theorem mLock_eq (i : Nat) (m : MS) (ρ : MEnv) (S : Store) : mLock i m ρ S = (match dictVar i ρ S with
  | some (n, l) => (m ρ (S.set n (.dF l))).bind fun fl S2 => .ok fl (S2.set n (.dK l))
  | none => .bad) := rfl
@[simp] theorem nLock_eq (i : Nat) (m : ML) (ρ : MEnv) (S : Store) : nLock i m ρ S = (match dictVar i ρ S with
  | some (n, l) => (m ρ (S.set n (.dF l))).bind fun ds S2 => .ok ds (S2.set n (.dK l))
  | none => .bad) := rfl
@[simp] theorem dictVar_eq (i : Nat) (ρ : MEnv) (S : Store) : dictVar i ρ S = (match ρ[i]? with
  | some (some (.val (.loc n))) => match S[n]? with
    | some (.dK l) => some (n, l)
    | _ => none
  | _ => none) := rfl
@[simp] theorem iKeysF_eq (m : ME) (ρ : MEnv) (S : Store) : iKeysF m ρ S = (m ρ S).bind fun d S1 => (match d with
  | .loc n => match S1[n]? with
    | some (.dF l) => .ok (l.map fun kv => keyV kv.1) S1
    | _ => .bad
  | _ => .bad) := rfl
@[simp] theorem keyV_inl (i : Int) : keyV (.inl i) = .int i := rfl
end
end Mo
set_option maxRecDepth 100000
set_option maxHeartbeats 1000000
/-! Mo: own lists read and changed, parts of tuples and lists, + of tuples, dict(list of pairs). -/
namespace Mo
open PySem PySem.Spec PyProof.Rows L2

section
variable {X : Cx} {e a b o idx : Expr} {me mb mi : ME} {ml : ML} {mt : MT} {pos p p2 : Pos} {i : Nat}
/-- x[idx], x an own list -/
def mIxO (i : Nat) (mi : ME) : ME := fun ρ S => (mi ρ S).bind fun k S1 => match ρ[i]?, k with
  | some (some (.own (.lst l))), .int j => match atI l j with
    | some d => .ok d S1
    | none => .bad
  | _, _ => .bad
theorem em_ixO (ho : PE X o (tVar i)) (hi : EM X idx mi) (hs : PlainIx idx) : EM X (.Subscript o idx pos) (mIxO i mi) := PE.of (pe_ix ix_list ho hi hs) fun σ H Q ⟨g, w, o, ρ, S, d, S', s, hm, q⟩ => by
  obtain ⟨k, S1, h1, hm⟩ := R.bind_ok hm
  split at hm
  · rename_i l j hl
    split at hm
    · rename_i d' hd
      cases hm
      obtain ⟨a, e1, m, vs, hH, r⟩ := s.own i _ hl
      refine ⟨_, e1, g, w, o, ρ, S, _, _, s, h1, fun v g1 H1 x1 s1 r1 => ?_⟩
      obtain ⟨a', e1', m', vs', hH', r'⟩ := (s.ext x1 s1).own i _ hl
      rw [e1] at e1'; cases e1'
      obtain ⟨v', hv, rv⟩ := r'.atI hd
      exact ⟨a, vs', j, v', rfl, r1, .of hH', hv, q v' g1 H1 x1 s1 rv⟩
    · cases hm
  · cases hm
/-- x[idx] = e, x an own list -/
def mSetO (i : Nat) (mi me : ME) : MS := fun ρ S => (me ρ S).bind fun d S1 => (mi ρ S1).bind fun k S2 => match ρ[i]?, k with
  | some (some (.own (.lst l))), .int j => match ixN l.length j with
    | some m => .ok (.nx (ρ.set i (some (.own (.lst (l.set m d)))))) S2
    | none => .bad
  | _, _ => .bad
theorem sm_setO {st : Stmt} (h : PS X st (tAsg (tE X.K me) (gSub (tVar i) (tE X.K mi) rSetL))) : SM X st (mSetO i mi me) := PS.of h fun E σ H ⟨g, w, o, ρ, S, fl, S', s, hm, q⟩ => by
  obtain ⟨d, S1, h1, hm⟩ := R.bind_ok hm
  obtain ⟨k, S2, h2, hm⟩ := R.bind_ok hm
  split at hm
  · rename_i l j hl
    split at hm
    · rename_i m hmx
      cases hm
      refine ⟨g, w, o, ρ, S, d, S1, s, h1, fun v g1 H1 x1 s1 r1 => ?_⟩
      have t1 := s.ext x1 s1
      obtain ⟨a, e1, _⟩ := t1.own i _ hl
      refine ⟨_, e1, g1, w, o, ρ, S1, _, _, t1, h2, fun vk g2 H2 x2 s2 r2 => ?_⟩
      have t2 := t1.ext x2 s2
      obtain ⟨a', e1', m', vs, hH, r⟩ := t2.own i _ hl
      rw [e1] at e1'; cases e1'
      have mD : Mut (H2 a) := by rw [hH]; trivial
      have fD : a ∈ w ++ o := List.mem_append_right _ m'
      have rv := RelD.ext x2 d v r1
      refine ⟨a, vs, j, m, rfl, r2, hH, by rw [← r.length]; exact hmx, ?_⟩
      exact q g2 o _ (((x1.trans x2).s).trans (.updO mD m')) _ (t2.updO hl e1 mD ⟨_, upd_same, RelDs.upd mD (.inl fD) _ _ (RelDs.set r rv)⟩)
    · cases hm
  · cases hm
/-- a list as a test: it holds something -/
def mTruQ (m : ML) : MT := fun ρ S => (m ρ S).bind fun l S1 => .ok (!l.isEmpty) S1
theorem rel_isEmpty {K : PySem.W.Frag} {g f : List Addr} {H : Hp} {l : List D} {vs : List V} (r : RelDs K g f H l vs) : (!l.isEmpty) = !vs.isEmpty := by
  cases l with
  | nil => cases r; rfl
  | cons d l => obtain ⟨v, r, e, _, _⟩ := r; rw [e]; rfl
theorem tm_truQ (h : QM X e ml) (he : ∀ whole, isTrue e X.env whole = (do let v ← whole; standAt e.pos; holding [v] (truthy v)) := by intro _; rfl) : TM X e (mTruQ ml) := PT.of (pt_truth h he) fun σ H Q ⟨g, w, o, ρ, S, k, S', s, hm, q⟩ => by
  obtain ⟨l, S1, h1, hm⟩ := R.bind_ok hm
  cases hm
  exact ⟨g, w, o, ρ, S, l, _, s, h1, fun a vs g1 H1 x1 s1 hq r1 => ⟨_, .inl ⟨vs, hq, rel_isEmpty r1⟩, q g1 H1 x1 s1⟩⟩
/-- x == e, x != e, x an own list -/
def mEqO (neg : Bool) (i : Nat) (mb : ME) : ME := fun ρ S => (mb ρ S).bind fun y S1 => match ρ[i]? with
  | some (some (.own (.lst l))) => match eqD (.lst l) y with
    | some k => .ok (.bl (k != neg)) S1
    | none => .bad
  | _ => .bad
theorem eqO_of {neg : Bool} {r : R2} (hr : ∀ x y H Q d e, Dp X.K H x d → Dp X.K H y e → SeqAt.shaped d = true → SeqAt.shaped e = true → Q (.bl (PyData.eqv d e != neg)) H → r x y H Q) {σ : L2.St} {H : Hp} {Q : VK} (q : tE X.K (mEqO neg i mb) σ H Q) : tOp r (tVar i) (tE X.K mb) σ H Q := by
  obtain ⟨g, w, o, ρ, S, d, S', s, hm, q⟩ := q
  obtain ⟨y, S1, h1, hm⟩ := R.bind_ok hm
  split at hm
  · rename_i l hl
    split at hm
    · rename_i k hk
      cases hm
      obtain ⟨a, e1, _⟩ := s.own i _ hl
      refine ⟨_, e1, g, w, o, ρ, S, y, _, s, h1, fun v g1 H1 x1 s1 r1 => ?_⟩
      obtain ⟨a', e1', m', vs, hH, r⟩ := (s.ext x1 s1).own i _ hl
      rw [e1] at e1'; cases e1'
      obtain ⟨p1, p2, t1, t2, h3, h4, rfl⟩ := eqD_of hk
      unfold toP at t1
      cases hp : toPs l with
      | none => rw [hp] at t1; cases t1
      | some ps =>
        rw [hp] at t1; cases t1
        exact hr _ _ _ _ _ _ (.lst (.of hH) (RelDs.dp l vs ps r hp)) (RelD.dp _ _ _ r1 t2) h3 h4 (q _ g1 H1 x1 s1 rfl)
    · cases hm
  · cases hm
theorem em_eqO (hu : X.A.units + 64 < cLine) (ho : PE X a (tVar i)) (hb : EM X b mb) (hm : behindInMarks .Eq b = false) : EM X (.Compare a [.Eq] [b] pos) (mEqO false i mb) :=
  PE.of (pe_cmpR (op_eqD hu) ho hb hm) fun σ H Q q => eqO_of (fun x y H Q d e h1 h2 h3 h4 q => ⟨d, e, h1, h2, h3, h4, by simpa using q⟩) q
theorem em_neO (hu : X.A.units + 64 < cLine) (ho : PE X a (tVar i)) (hb : EM X b mb) (hm : behindInMarks .NotEq b = false) : EM X (.Compare a [.NotEq] [b] pos) (mEqO true i mb) :=
  PE.of (pe_cmpR (op_neD hu) ho hb hm) fun σ H Q q => eqO_of (fun x y H Q d e h1 h2 h3 h4 q => ⟨d, e, h1, h2, h3, h4, by simpa using q⟩) q
theorem tm_eqO (hu : X.A.units + 64 < cLine) (ho : PE X a (tVar i)) (hb : EM X b mb) (hm : behindInMarks .Eq b = false) : TM X (.Compare a [.Eq] [b] pos) (mB (mEqO false i mb)) :=
  tm_ofB (pt_cmpR (op_eqD hu) ho hb hm) fun σ H Q q => eqO_of (fun x y H Q d e h1 h2 h3 h4 q => ⟨d, e, h1, h2, h3, h4, by simpa using q⟩) q
theorem tm_neO (hu : X.A.units + 64 < cLine) (ho : PE X a (tVar i)) (hb : EM X b mb) (hm : behindInMarks .NotEq b = false) : TM X (.Compare a [.NotEq] [b] pos) (mB (mEqO true i mb)) :=
  tm_ofB (pt_cmpR (op_neD hu) ho hb hm) fun σ H Q q => eqO_of (fun x y H Q d e h1 h2 h3 h4 q => ⟨d, e, h1, h2, h3, h4, by simpa using q⟩) q
/-! ### parts -/
abbrev MO := MEnv → Store → R (Option Int)
def tO (K : PySem.W.Frag) (m : MO) : TO := fun σ H Q => ∃ g w o ρ S k S', Sta K g w o ρ S σ H ∧ m ρ S = .ok k S' ∧ ∀ g' H', Ext g H g' H' → RelS K g' (w ++ o) H' S' → Q k H'
def OM (X : Cx) (e : Option Expr) (m : MO) : Prop := PO X e (tO X.K m)
theorem PO.of {oe : Option Expr} {t t' : TO} (h : PO X oe t) (i : ∀ σ H Q, t' σ H Q → t σ H Q) : PO X oe t' := ⟨fun pins s σ H Q I q => h.run pins s σ H Q I (i σ H Q q)⟩
def oNone : MO := fun _ S => .ok none S
def oSome (m : ME) : MO := fun ρ S => (m ρ S).bind fun d S1 => match d with
  | .int j => .ok (some j) S1
  | _ => .bad
theorem om_none : OM X none oNone := PO.of po_none fun σ H Q ⟨g, w, o, ρ, S, k, S', s, hm, q⟩ => by
  cases hm
  exact q g H .refl s.sto
theorem om_some (h : EM X e me) : OM X (some e) (oSome me) := PO.of (po_some h) fun σ H Q ⟨g, w, o, ρ, S, k, S', s, hm, q⟩ => by
  obtain ⟨d, S1, h1, h2⟩ := R.bind_ok hm
  split at h2
  · cases h2
    exact ⟨g, w, o, ρ, S, _, _, s, h1, fun v g1 H1 x1 s1 r1 => ⟨_, r1, q g1 H1 x1 s1⟩⟩
  · cases h2
def cutD (l : List D) (lo hi : Option Int) : List D := (l.drop (HT.sIx l.length 0 lo)).take (HT.sIx l.length l.length hi - HT.sIx l.length 0 lo)
theorem RelDs.drop {K : PySem.W.Frag} {g f : List Addr} {H : Hp} : ∀ {l : List D} {vs : List V} (n : Nat), RelDs K g f H l vs → RelDs K g f H (l.drop n) (vs.drop n)
  | _, _, 0, h => h
  | [], _, n + 1, h => by cases h; rfl
  | d :: l, _, n + 1, ⟨v, r, e, _, t⟩ => by subst e; exact RelDs.drop n t
theorem RelDs.take {K : PySem.W.Frag} {g f : List Addr} {H : Hp} : ∀ {l : List D} {vs : List V} (n : Nat), RelDs K g f H l vs → RelDs K g f H (l.take n) (vs.take n)
  | _, _, 0, _ => rfl
  | [], _, n + 1, h => by cases h; rfl
  | d :: l, _, n + 1, ⟨v, r, e, q, t⟩ => by subst e; exact ⟨v, _, rfl, q, RelDs.take n t⟩
theorem RelDs.cut {K : PySem.W.Frag} {g f : List Addr} {H : Hp} {l : List D} {vs : List V} (r : RelDs K g f H l vs) (lo hi : Option Int) : RelDs K g f H (cutD l lo hi) (cutV vs lo hi) := by
  unfold cutD cutV
  rw [← r.length]
  exact RelDs.take _ (RelDs.drop _ r)
theorem cutD_whole {l : List D} {lo hi : Option Int} (h : HT.sIx l.length 0 lo = 0 ∧ HT.sIx l.length l.length hi = l.length) : cutD l lo hi = l := by
  unfold cutD
  rw [h.1, h.2, List.drop_zero, Nat.sub_zero, List.take_length]
/-- t[lo:hi], t a tuple -/
def mSlT (me : ME) (ml mh : MO) : ME := fun ρ S => (me ρ S).bind fun d S1 => (ml ρ S1).bind fun lo S2 => (mh ρ S2).bind fun hi S3 => match d with
  | .tup l => .ok (.tup (cutD l lo hi)) S3
  | _ => .bad
variable {lo hi : Option Expr} {mlo mhi : MO}
theorem em_slT (he : EM X e me) (hl : OM X lo mlo) (hh : OM X hi mhi) : EM X (.Subscript e (.Slice lo hi none p2) pos) (mSlT me mlo mhi) := PE.of (pe_slice sl_tupA he hl hh) fun σ H Q ⟨g, w, o, ρ, S, d, S', s, hm, q⟩ => by
  obtain ⟨d1, S1, h1, hm⟩ := R.bind_ok hm
  obtain ⟨k1, S2, h2, hm⟩ := R.bind_ok hm
  obtain ⟨k2, S3, h3, hm⟩ := R.bind_ok hm
  split at hm
  · rename_i l
    cases hm
    refine ⟨g, w, o, ρ, S, _, S1, s, h1, fun v g1 H1 x1 s1 r1 => ?_⟩
    have t1 := s.ext x1 s1
    refine ⟨g1, w, o, ρ, S1, _, S2, t1, h2, fun g2 H2 x2 s2 => ?_⟩
    have t2 := t1.ext x2 s2
    refine ⟨g2, w, o, ρ, S2, _, _, t2, h3, fun g3 H3 x3 s3 => ?_⟩
    obtain ⟨a, vs, ev, hq, r⟩ := RelD.ext (x2.trans x3) _ _ r1
    refine ⟨a, vs, ev, hq, fun hw => ?_, fun _ t ht => ?_⟩
    · rw [← r.length] at hw
      rw [cutD_whole hw] at q
      exact q _ g3 H3 ((x1.trans x2).trans x3) s3 ⟨a, vs, rfl, hq, r⟩
    · exact q _ g3 _ (((x1.trans x2).trans x3).trans (.new ht)) (s3.new ht) ⟨t, _, rfl, .inl (.inl upd_same), RelDs.ext (.new ht) _ _ (r.cut k1 k2)⟩
  · cases hm
/-- x[lo:hi], x a list: a new one -/
def mSlQ (me : ML) (ml mh : MO) : ML := fun ρ S => (me ρ S).bind fun l S1 => (ml ρ S1).bind fun lo S2 => (mh ρ S2).bind fun hi S3 => .ok (cutD l lo hi) S3
/-- the parts' bounds do nothing: x may be any list -/
def Still (m : MO) : Prop := ∀ ρ S k S', m ρ S = .ok k S' → S' = S
/-- .. of a list that rests -/
theorem nm_slL (he : EM X e me) (hl : OM X lo mlo) (hh : OM X hi mhi) : NM X (.Subscript e (.Slice lo hi none p2) pos) (mSlQ (iLst me) mlo mhi) := PE.of (pe_slice sl_list he hl hh) fun σ H Q ⟨g, w, o, ρ, S, d, S', s, hm, q⟩ => by
  obtain ⟨l, S1, h1, hm⟩ := R.bind_ok hm
  obtain ⟨k1, S2, h2, hm⟩ := R.bind_ok hm
  obtain ⟨k2, S3, h3, hm⟩ := R.bind_ok hm
  cases hm
  obtain ⟨d1, S0, h0, h1⟩ := R.bind_ok h1
  obtain ⟨rfl, rfl⟩ := seqD_ok h1
  refine ⟨g, w, o, ρ, S, _, _, s, h0, fun v g1 H1 x1 s1 r1 => ?_⟩
  have t1 := s.ext x1 s1
  refine ⟨g1, w, o, ρ, _, _, S2, t1, h2, fun g2 H2 x2 s2 => ?_⟩
  have t2 := t1.ext x2 s2
  refine ⟨g2, w, o, ρ, S2, _, _, t2, h3, fun g3 H3 x3 s3 => ?_⟩
  obtain ⟨a, vs, ev, hq, r⟩ := RelD.ext (x2.trans x3) _ _ r1
  refine ⟨a, vs, ev, hq.sq, ?_⟩
  have q' : FinN X.K g3 (w ++ o) H3 (cutD l k1 k2) _ Q := fun p vs g4 H4 x4 hp n4 e4 s4 r4 => q p vs g4 H4 (((x1.trans x2).trans x3).trans x4) (back_none x1 (back_none x2 (back_none x3 hp))) n4 e4 s4 r4
  exact q'.put s3 (r.cut k1 k2)
/-! ### + of tuples -/
def gCatT : G2 := fun x y S => match x, y with
  | .tup l, .tup m => if l.length + m.length ≤ sizeLine then .ok (.tup (l ++ m)) S else .bad
  | _, _ => .bad
theorem rel_nil {K : PySem.W.Frag} {g f : List Addr} {H : Hp} {l : List D} {vs : List V} (r : RelDs K g f H l vs) (h : vs = []) : l = [] := by
  have := r.length
  rw [h] at this
  exact List.eq_nil_of_length_eq_zero this
theorem od_catT {K : PySem.W.Frag} : OpD K (rCatA K) gCatT := by
  intro g f H S dx dy d S' x y Q s rx ry hm q
  unfold gCatT at hm
  split at hm
  · split at hm
    · rename_i l m hz
      cases hm
      obtain ⟨a, vs, ea, ha, ra⟩ := rx
      obtain ⟨b, us, eb, hb, rb⟩ := ry
      refine ⟨a, b, vs, us, ea, eb, ha, hb, by rw [← ra.length, ← rb.length]; exact hz, fun h => ?_, fun _ h => ?_, fun _ _ t ht => ?_⟩
      · have := rel_nil ra h
        subst this
        exact q.same s ⟨b, us, rfl, hb, by simpa using rb⟩
      · have := rel_nil rb h
        subst this
        exact q.same s ⟨a, vs, rfl, ha, by simpa using ra⟩
      · exact q _ g _ (.new ht) (s.new ht) ⟨t, _, rfl, .inl (.inl upd_same), RelDs.ext (.new ht) _ _ (RelDs.append ra rb)⟩
    · cases hm
  · cases hm
/-- numbers first, then tuples -/
def gAddA : G2 := gOr gAddI gCatT
theorem od_addA {K : PySem.W.Frag} : OpD K (fun x y H Q => rI0 (fun i j => .int (i + j)) x y H Q ∨ rCatA K x y H Q) gAddA := OpD.or od_add od_catT
theorem op_addA : OpR X (binaryOp .Add) (fun x y H Q => rI0 (fun i j => .int (i + j)) x y H Q ∨ rCatA X.K x y H Q) := op_add.or op_catA
/-! ### dict(a list of pairs) -/
def pairsD : List D → Option (List (Key × D))
  | [] => some []
  | .tup [k, d] :: r => match keyD k, pairsD r with
    | some k, some l => some ((k, d) :: l)
    | _, _ => none
  | _ => none
def mergeD (kvs more : List (Key × D)) : List (Key × D) := more.foldl (fun acc kv => putA acc kv.1 kv.2) kvs
def mDictQ (ml : ML) : ME := fun ρ S => (ml ρ S).bind fun l S1 => match pairsD l with
  | some kvs => .ok (.loc S1.length) (S1 ++ [.dK (mergeD [] kvs)])
  | none => .bad
theorem pairs_rel {K : PySem.W.Frag} {g f : List Addr} {H : Hp} : ∀ {l : List D} {vs : List V} {kvs : List (Key × D)}, RelDs K g f H l vs → pairsD l = some kvs →
    ∃ (ps : List Addr) (us : List (Key × V)), vs = ps.map V.ref ∧ Paired (fun p kv => SqT K H p [kV kv.1, kv.2]) ps us ∧ RelKv K g f H kvs us
  | [], _, _, r, h => by cases h; cases r; exact ⟨[], [], rfl, .nil, rfl⟩
  | d :: l, _, _, ⟨v, r, e, q, t⟩, h => by
    unfold pairsD at h
    split at h
    · rename_i h0; cases h0
    · rename_i k d' l' h0
      cases h0
      split at h
      · rename_i k' kvs' hk hp
        cases h
        obtain ⟨ps, us, e1, pr, rk⟩ := pairs_rel t hp
        obtain ⟨a, xs, ea, ha, vk, r1, e2, rk1, vd, r2, e3, rd, e4⟩ := q
        subst ea; subst e2; subst e3; subst e4
        refine ⟨a :: ps, (k', vd) :: us, by rw [e, e1]; rfl, .cons ?_ pr, ⟨vd, us, rfl, rd, rk⟩⟩
        rw [← keyD_rel rk1 hk]
        exact ha
      · cases h
    · cases h
theorem merge_rel {K : PySem.W.Frag} {g f : List Addr} {H : Hp} : ∀ {more : List (Key × D)} {us : List (Key × V)} {kvs : List (Key × D)} {vs : List (Key × V)}, RelKv K g f H more us → RelKv K g f H kvs vs → RelKv K g f H (mergeD kvs more) (mergeK vs us)
  | [], _, _, _, h, r => by cases h; exact r
  | (k, d) :: more, _, kvs, vs, ⟨v, us, e, q, t⟩, r => by
    subst e
    show RelKv K g f H (mergeD (putA kvs k d) more) (mergeK (putK vs k v) us)
    exact merge_rel t (r.put q)
theorem em_dictQ (hc : X.calm = true) (h : QM X e ml) (hg : Gl X "dict") (hm : X.mg "dict" = none) (hb : bootBuiltins "dict" = some (.type "dict") := by decide +kernel) (hs : starEach [e] X.env = (false, eval e X.env) :: starEach [] X.env := by rfl) (hpl : (backTo pos (starEach [] X.env)).any (·.1) = false := by rfl) :
    EM X (.Call (.Name "dict" p) [e] [] pos) (mDictQ ml) :=
  PE.of (pe_callTy (call_dictP hc) hg hm hb (b1 h hs) (by decide) (by decide) hs hpl) fun σ H Q ⟨g, w, o, ρ, S, d, S', s, hm, q⟩ => by
    obtain ⟨l, S1, h1, hm⟩ := R.bind_ok hm
    split at hm
    · rename_i kvs hk
      cases hm
      refine ⟨g, w, o, ρ, S, l, S1, s, h1, fun a vs g1 H1 x1 s1 hq r1 => ?_⟩
      obtain ⟨ps, us, e1, pr, rk⟩ := pairs_rel r1 hk
      subst e1
      refine ⟨a, ps, us, rfl, hq, pr, fun t ht => ?_⟩
      have x2 : Ext g1 H1 (g1 ++ [t]) (upd H1 t (.dK (mergeK [] us))) := ⟨⟨[t], rfl, fun b hb => by rw [List.mem_singleton.mp hb]; exact ht⟩, fun a u h _ => (Ext.new (g := []) ht).keep a u h (by simp), (Ext.new (g := []) ht).live, (Ext.new (g := []) ht).tups, (Ext.new (g := []) ht).frz⟩
      have rm : RelKv X.K g1 (w ++ o) H1 (mergeD [] kvs) (mergeK [] us) := merge_rel rk rfl
      refine q _ (g1 ++ [t]) _ (x1.trans x2) (((s1.fresh ht).new ht).addG (s1.noG ht) (c := .dK (mergeD [] kvs)) ⟨_, upd_same, ?_⟩) ⟨t, rfl, by rw [← s1.len]; exact List.getElem?_concat_length⟩
      exact RelKv.ext (.new ht) _ _ (RelKv.fresh ht _ _ rm)
    · cases hm
end
end Mo
set_option maxRecDepth 100000
set_option maxHeartbeats 1000000
/-! Mo: data in order, data in tuples and lists, extend. -/
namespace Mo
open PySem PySem.Spec PyProof.Rows L2
section
variable {X : Cx}
/-- data compared: both are of like kinds -/
def rCmp (K : PySem.W.Frag) (h : PyData → PyData → Bool) : R2 := fun x y H Q => ∃ p q, Dp K H x p ∧ Dp K H y q ∧ PySem.W.alike p q = true ∧ p ≠ .none ∧ p.depth ≤ 60 ∧ Q (.bl (h p q)) H
theorem room60 {A : Around} {p q : PyData} (hu : A.units + 64 < cLine) (h : p.depth ≤ 60) : A.units + min p.depth q.depth < cLine := by
  have : min p.depth q.depth ≤ p.depth := Nat.min_le_left _ _
  omega
theorem op_ltA (hu : X.A.units + 64 < cLine) : OpR X (compareOp .Lt) (rCmp X.K fun p q => PySem.W.dataLt p q) := by
  intro pins s σ H x y v u Q I rx ry ⟨p, q, hp, hq, ha, hn, hd, k⟩
  obtain ⟨as, r1⟩ := Dp.reads I p x v hp rx
  obtain ⟨bs, r2⟩ := Dp.reads I q y u hq ry
  exact PySem.W.lt_data r1 r2 ha hn (room60 hu hd) ⟨.bl _, H, I, rfl, k⟩
theorem op_gtA (hu : X.A.units + 64 < cLine) : OpR X (compareOp .Gt) (rCmp X.K fun p q => PySem.W.dataLt q p) := by
  intro pins s σ H x y v u Q I rx ry ⟨p, q, hp, hq, ha, hn, hd, k⟩
  obtain ⟨as, r1⟩ := Dp.reads I p x v hp rx
  obtain ⟨bs, r2⟩ := Dp.reads I q y u hq ry
  exact PySem.W.gt_data r1 r2 ha hn (room60 hu hd) ⟨.bl _, H, I, rfl, k⟩
theorem op_leA (hu : X.A.units + 64 < cLine) : OpR X (compareOp .LtE) (rCmp X.K fun p q => !PySem.W.dataLt q p) := by
  intro pins s σ H x y v u Q I rx ry ⟨p, q, hp, hq, ha, hn, hd, k⟩
  obtain ⟨as, r1⟩ := Dp.reads I p x v hp rx
  obtain ⟨bs, r2⟩ := Dp.reads I q y u hq ry
  exact PySem.W.le_data r1 r2 ha hn (room60 hu hd) ⟨.bl _, H, I, rfl, k⟩
theorem op_geA (hu : X.A.units + 64 < cLine) : OpR X (compareOp .GtE) (rCmp X.K fun p q => !PySem.W.dataLt p q) := by
  intro pins s σ H x y v u Q I rx ry ⟨p, q, hp, hq, ha, hn, hd, k⟩
  obtain ⟨as, r1⟩ := Dp.reads I p x v hp rx
  obtain ⟨bs, r2⟩ := Dp.reads I q y u hq ry
  exact PySem.W.ge_data r1 r2 ha hn (room60 hu hd) ⟨.bl _, H, I, rfl, k⟩
def gCmp (h : PyData → PyData → Bool) : G2 := fun x y S => match toP x, toP y with
  | some p, some q => if PySem.W.alike p q = true ∧ notNoneP p = true ∧ p.depth ≤ 60 then .ok (.bl (h p q)) S else .bad
  | _, _ => .bad
theorem od_cmp {K : PySem.W.Frag} {h : PyData → PyData → Bool} : OpD K (rCmp K h) (gCmp h) := by
  intro g f H S dx dy d S' x y Q s rx ry hm q
  unfold gCmp at hm
  split at hm
  · rename_i p p' hp hp'
    split at hm
    · rename_i hc
      cases hm
      have hn : p ≠ .none := fun e => by rw [e] at hc; exact absurd hc.2.1 (by decide)
      exact ⟨p, p', RelD.dp _ _ _ rx hp, RelD.dp _ _ _ ry hp', hc.1, hn, hc.2.2, q.same s rfl⟩
    · cases hm
  · cases hm
abbrev gLtA : G2 := gCmp fun p q => PySem.W.dataLt p q
abbrev gGtA : G2 := gCmp fun p q => PySem.W.dataLt q p
abbrev gLeA : G2 := gCmp fun p q => !PySem.W.dataLt q p
abbrev gGeA : G2 := gCmp fun p q => !PySem.W.dataLt p q
/-! ### x in e -/
def seqP : PyData → Option (List PyData)
  | .list ps => some ps
  | .tuple ps => some ps
  | _ => none
def rInA (K : PySem.W.Frag) (neg : Bool) : R2 := fun x y H Q => ∃ p q ps, Dp K H x p ∧ Dp K H y q ∧ seqP q = some ps ∧ SeqAt.shaped p = true ∧ SeqAt.shaped q = true ∧ Q (.bl ((ps.any fun z => PyData.eqv z p) != neg)) H
theorem op_inA (hu : X.A.units + 65 < cLine) : OpR X (compareOp .In) (rInA X.K false) := by
  intro pins s σ H x y v u Q I rx ry ⟨p, q, ps, hp, hq, hs, sp, sq, k⟩
  obtain ⟨as, r1⟩ := Dp.reads I p x v hp rx
  obtain ⟨bs, r2⟩ := Dp.reads I q y u hq ry
  cases q with
  | list qs =>
    cases hs
    exact SeqAt.in_list_reads r2 r1 (SeqAt.canLay_of_shaped sq) (SeqAt.canLay_of_shaped sp) (room_in_shaped sp hu) ⟨.bl _, H, I, rfl, by simpa using k⟩
  | tuple qs =>
    cases hs
    exact SeqAt.in_tuple_reads r2 r1 (SeqAt.canLay_of_shaped sq) (SeqAt.canLay_of_shaped sp) (room_in_shaped sp hu) ⟨.bl _, H, I, rfl, by simpa using k⟩
  | _ => cases hs
theorem op_notInA (hu : X.A.units + 65 < cLine) : OpR X (compareOp .NotIn) (rInA X.K true) := by
  intro pins s σ H x y v u Q I rx ry ⟨p, q, ps, hp, hq, hs, sp, sq, k⟩
  obtain ⟨as, r1⟩ := Dp.reads I p x v hp rx
  obtain ⟨bs, r2⟩ := Dp.reads I q y u hq ry
  cases q with
  | list qs =>
    cases hs
    exact SeqAt.notIn_list_reads r2 r1 (SeqAt.canLay_of_shaped sq) (SeqAt.canLay_of_shaped sp) (room_in_shaped sp hu) ⟨.bl _, H, I, rfl, by simpa using k⟩
  | tuple qs =>
    cases hs
    exact SeqAt.notIn_tuple_reads r2 r1 (SeqAt.canLay_of_shaped sq) (SeqAt.canLay_of_shaped sp) (room_in_shaped sp hu) ⟨.bl _, H, I, rfl, by simpa using k⟩
  | _ => cases hs
def gInA (neg : Bool) : G2 := fun x y S => match toP x, toP y with
  | some p, some q => match seqP q with
    | some ps => if SeqAt.shaped p = true ∧ SeqAt.shaped q = true then .ok (.bl ((ps.any fun z => PyData.eqv z p) != neg)) S else .bad
    | none => .bad
  | _, _ => .bad
theorem od_inA {K : PySem.W.Frag} {neg : Bool} : OpD K (rInA K neg) (gInA neg) := by
  intro g f H S dx dy d S' x y Q s rx ry hm q
  unfold gInA at hm
  split at hm
  · rename_i p p' hp hp'
    split at hm
    · rename_i ps hs
      split at hm
      · rename_i hc
        cases hm
        exact ⟨p, p', ps, RelD.dp _ _ _ rx hp, RelD.dp _ _ _ ry hp', hs, hc.1, hc.2, q.same s rfl⟩
      · cases hm
    · cases hm
  · cases hm
/-! ### extend, list(a tuple) -/
variable {e a b o idx : Expr} {me mb mi : ME} {ml : ML} {pos p : Pos} {i : Nat}
theorem qm_tup_list (h : EM X e me) (hg : Gl X "list") (hm : X.mg "list" = none) (hb : bootBuiltins "list" = some (.type "list") := by decide +kernel) (hs : starEach [e] X.env = (false, eval e X.env) :: starEach [] X.env := by rfl) (hpl : (backTo pos (starEach [] X.env)).any (·.1) = false := by rfl) :
    NM X (.Call (.Name "list" p) [e] [] pos) (iTup me) :=
  PE.of (pe_callTy call_list_of hg hm hb (b1 h hs) (by decide) (by decide) hs hpl) fun σ H Q ⟨g, w, o, ρ, S, d, S', s, hm, q⟩ => by
    obtain ⟨c, S1, h1, h2⟩ := R.bind_ok hm
    obtain ⟨rfl, rfl⟩ := tupD_ok h2
    refine ⟨g, w, o, ρ, S, _, _, s, h1, fun v g1 H1 x1 s1 ⟨a, vs, ev, hq, r⟩ => ?_⟩
    subst ev
    have q' : FinN X.K g1 (w ++ o) H1 d _ Q := fun p vs g2 H2 x2 hp n2 e2 s2 r2 => q p vs g2 H2 (x1.trans x2) (back_none x1 hp) n2 e2 s2 r2
    exact ⟨a, vs, rfl, .inr hq, q'.put s1 r⟩
/-- x.extend(a new list), x an own list -/
def mExt (i : Nat) (ml : ML) : MS := fun ρ S => (ml ρ S).bind fun ds S1 => match ρ[i]? with
  | some (some (.own (.lst l))) => if l.length + ds.length ≤ sizeLine then .ok (.nx (ρ.set i (some (.own (.lst (l ++ ds)))))) S1 else .bad
  | _ => .bad
theorem sm_extend {o : Expr} {apos cpos spos : Pos} (ho : PE X o (tVar i)) (ha : NM X e ml) (hbase : attributeBase o "extend" X.env (eval o X.env) = eval o X.env := by rfl)
    (hfew : ((backTo cpos (starEach [e] X.env)).all (fun x => !x.1) && (backToKw cpos (keywordEach [] X.env)).all (fun x => x.1.isSome) && decide ([e].length + ([] : List Keyword).length + (if ([] : List Keyword).isEmpty then 0 else 1) < 30)) = true := by rfl)
    (hline : (apos.endLine == cpos.line) = true := by rfl) (hs : starEach [e] X.env = (false, eval e X.env) :: starEach [] X.env := by rfl) (hplain : (backTo cpos (starEach [] X.env)).any (·.1) = false := by rfl)
    (hsw : swapsWith (.Call (.Attribute o "extend" apos) [e] [] cpos) none spos.line X.env = pure false := by rfl) : SM X (.Expr (.Call (.Attribute o "extend" apos) [e] [] cpos) spos) (mExt i ml) :=
  PS.of (ps_expr (pe_bm PySem.F.plainAttrs_list PySem.F.slot_list_extend PySem.F.type_list_extend mt_extend ho (pa_cons ha pa_nil hs) hbase hfew hline hs hplain) hsw) fun E σ H ⟨g, w, o, ρ, S, fl, S', s, hm, q⟩ => by
    obtain ⟨ds, S1, h1, hm⟩ := R.bind_ok hm
    split at hm
    · rename_i l hl
      split at hm
      · rename_i hz
        cases hm
        obtain ⟨a, e1, m, vs, hH, r⟩ := s.own i _ hl
        refine ⟨_, e1, .inl ⟨rfl, vs, .of hH⟩, ?_⟩
        refine ⟨g, w, o, ρ, S, ds, _, s, h1, fun p us g1 H1 x1 hp n1 eH s1 r1 => ?_⟩
        have st1 := s.ext x1 (s1.less sub_app)
        obtain ⟨a', e1', m', vs', hH', r'⟩ := st1.own i _ hl
        rw [e1] at e1'; cases e1'
        have mD : Mut (H1 a) := by rw [hH']; trivial
        have fD : a ∈ w ++ o := List.mem_append_right _ m
        refine ⟨a, p, vs', us, rfl, rfl, hH', eH, by rw [← r'.length, ← r1.length]; exact hz, q g1 o _ (x1.s.trans (.updO mD m)) _ (st1.updO hl e1 mD ?_)⟩
        exact ⟨vs' ++ us, upd_same, RelDs.upd mD (.inl fD) _ _ (RelDs.append r' (RelDs.less sub_app _ _ r1))⟩
      · cases hm
    · cases hm
theorem hu65 {A : Around} {k : Nat} (hr : Room k A) : A.units + 65 < cLine := by have := hr.un; omega
@[simp] theorem mRest_eq (i : Nat) (m : MS) (ρ : MEnv) (S : Store) : mRest i m ρ S = m (restAt i ρ) S := rfl
@[simp] theorem restAt_eq (i : Nat) (ρ : MEnv) : restAt i ρ = (match ρ[i]? with
  | some (some (.own (.lst l))) => ρ.set i (some (.val (.lst l)))
  | _ => ρ) := rfl
@[simp] theorem mExt_eq (i : Nat) (ml : ML) (ρ : MEnv) (S : Store) : mExt i ml ρ S = (ml ρ S).bind fun ds S1 => (match ρ[i]? with
  | some (some (.own (.lst l))) => if l.length + ds.length ≤ PySem.sizeLine then .ok (.nx (ρ.set i (some (.own (.lst (l ++ ds)))))) S1 else .bad
  | _ => .bad) := rfl
@[simp] theorem iTup_eq (m : ME) (ρ : MEnv) (S : Store) : iTup m ρ S = (m ρ S).bind tupD := rfl
@[simp] theorem tupD_tup (l : List D) (S : Store) : tupD (.tup l) S = .ok l S := rfl
end
end Mo
set_option maxRecDepth 100000
set_option maxHeartbeats 1000000
/-! Mo: an own list is returned. -/
namespace Mo
open PySem PySem.Spec PyProof.Rows L2
section
variable {X : Cx} {e : Expr} {pos : Pos} {i : Nat}
def mRetO (i : Nat) : MS := fun ρ S => match ρ[i]? with
  | some (some (.own (.lst l))) => .ok (.rt (.lst l)) S
  | _ => .bad
theorem sm_retO (h : PE X e (tVar i)) : SM X (.Return (some e) pos) (mRetO i) := PS.of (ps_ret h) fun E σ H ⟨g, w, o, ρ, S, fl, S', s, hm, q⟩ => by
  unfold mRetO at hm
  split at hm
  · rename_i l hl
    cases hm
    obtain ⟨a, e1, m, vs, hH, r⟩ := s.own i _ hl
    have sub : ∀ b ∈ w, b ∈ w ++ o := fun b hb => List.mem_append_left _ hb
    exact ⟨_, e1, q g o H .refl _ (s.sto.less sub) ⟨a, vs, rfl, ⟨(s.out a m).1, (s.out a m).2, hH⟩, RelDs.less sub _ _ r⟩⟩
  · cases hm
@[simp] theorem mRetO_eq (i : Nat) (ρ : MEnv) (S : Store) : mRetO i ρ S = (match ρ[i]? with
  | some (some (.own (.lst l))) => .ok (.rt (.lst l)) S
  | _ => .bad) := rfl
end
end Mo
set_option maxRecDepth 100000
set_option maxHeartbeats 1000000
/-! Mo: isinstance of data, is of truths, zip, sorted backwards, a = b = e, x += e. -/
namespace Mo
open PySem PySem.Spec PyProof.Rows L2

section
variable {X : Cx} {e e2 a b : Expr} {me ma mb : ME} {ml l : MA} {p pos tpos : Pos}

/-! ### isinstance(x, a built-in type) -/
theorem em_ty {n : Str} {s : String} (hg : Gl X n) (hm : X.mg n = none) (hv : bootBuiltins n = some (.type s)) (hn : n ≠ "__name__" := by decide) (hd : (n == ("__debug__" : Str)) = false := by decide) : EM X (.Name n pos) (mC (.raw (.ty s))) :=
  em_c (pe_bltn (v := .ty s) hg hm hv rfl hn hd) fun _ _ _ _ => rfl
/-- what type data have -/
def tyD : D → Store → Option String
  | .non, _ => some "NoneType"
  | .bl _, _ => some "bool"
  | .int _, _ => some "int"
  | .str _, _ => some "str"
  | .tup _, _ => some "tuple"
  | .lst _, _ => some "list"
  | .loc n, S => match S[n]? with
    | some (.lst _) => some "list"
    | some (.dK _) => some "dict"
    | some (.dT _) => none
    | some (.dF _) => some "dict"
    | some (.dG _) => none
    | none => none
  | _, _ => none
theorem tyD_rel {K : PySem.W.Frag} {g f : List Addr} {H : Hp} {S : Store} (s : RelS K g f H S) {d : D} {v : V} {t : String} (r : RelD K g f H d v) (h : tyD d S = some t) : TyX K H v (.type t) := by
  cases d with
  | non => cases h; cases r; exact .base .non
  | bl x => cases h; cases r; exact .base (.bl x)
  | int x => cases h; cases r; exact .base (.int x)
  | str x => cases h; cases r; exact .base (.str x)
  | tup x =>
    cases h
    obtain ⟨a, vs, rfl, q, _⟩ := r
    rcases q with (q | ⟨ob, q⟩) | q
    · exact .base (.tup q)
    · exact .fTuple q
    · obtain ⟨ob, its, n, q1, q2, _⟩ := q
      exact .kTuple q1 q2
  | lst x =>
    cases h
    obtain ⟨a, vs, rfl, q, _⟩ := r
    exact .base (.lst q.2.2)
  | raw x => cases h
  | scr x => cases h
  | ex _ _ _ => cases h
  | loc n =>
    obtain ⟨a, rfl, q⟩ := r
    unfold tyD at h
    cases e : S[n]? with
    | none => simp only [tyD, e] at h; cases h
    | some c =>
      simp only [tyD, e] at h
      have rc := s.cel n c a e q
      cases c with
      | lst x => cases h; obtain ⟨vs, q1, _⟩ := rc; exact .base (.lst q1)
      | dK x => cases h; obtain ⟨vs, q1, _⟩ := rc; exact .base (.dK q1)
      | dT x => cases h
      | dF x => cases h; obtain ⟨vs, ⟨ob, q1⟩, _⟩ := rc; exact .fDict q1
      | dG x => cases h
def hIsi : List D → Store → R D
  | [d, .raw (.ty n)], S => match tyD d S with
    | some t => match kitB t n with
      | some b => .ok (.bl b) S
      | none => .bad
    | none => .bad
  | _, _ => .bad
theorem em_isi (h : AM X [a, b] l) (hg : Gl X "isinstance") (hm : X.mg "isinstance" = none) (hb : bootBuiltins "isinstance" = some (.builtin "isinstance") := by decide +kernel) (hs : starEach [a, b] X.env = (false, eval a X.env) :: starEach [b] X.env := by rfl) (hpl : (backTo pos (starEach [b] X.env)).any (·.1) = false := by rfl) :
    EM X (.Call (.Name "isinstance" p) [a, b] [] pos) (mA hIsi l) :=
  PE.of (pe_callB call_isi hg hm hb h (by decide) (by decide) hs hpl) fun σ H Q q => a_of (fun g f H S l d S' vs Q s r hm q => by
    unfold hIsi at hm
    split at hm
    · rename_i d1 n
      split at hm
      · rename_i t ht
        split at hm
        · rename_i k hk
          cases hm
          obtain ⟨v, t2, rfl, rv, v2, t3, rfl, rv2, rn⟩ := r
          cases rn
          cases rv2
          exact ⟨v, _, _, _, k, rfl, .ty n, tyD_rel s rv ht, kit_ty hk, q.same s rfl⟩
        · cases hm
      · cases hm
    · cases hm) q
/-! ### is, is not, of truths -/
def gIsB : G2 := fun x y S => match x, y with
  | .bl i, .bl j => .ok (.bl (decide (i = j))) S
  | _, _ => .bad
def gNotB : G2 := fun x y S => match x, y with
  | .bl i, .bl j => .ok (.bl (!decide (i = j))) S
  | _, _ => .bad
theorem od_isB {K : PySem.W.Frag} : OpD K rIsB gIsB := by
  intro g f H S dx dy d S' x y Q s rx ry hm q
  unfold gIsB at hm
  split at hm
  · cases hm
    exact ⟨_, _, rx, ry, q.same s rfl⟩
  · cases hm
theorem od_notB {K : PySem.W.Frag} : OpD K rNotB gNotB := by
  intro g f H S dx dy d S' x y Q s rx ry hm q
  unfold gNotB at hm
  split at hm
  · cases hm
    exact ⟨_, _, rx, ry, q.same s rfl⟩
  · cases hm
@[simp] theorem gIsB_eq (i j : Bool) (S : Store) : gIsB (.bl i) (.bl j) S = .ok (.bl (decide (i = j))) S := rfl
@[simp] theorem gNotB_eq (i j : Bool) (S : Store) : gNotB (.bl i) (.bl j) S = .ok (.bl (!decide (i = j))) S := rfl

@[simp] theorem gIsN_non  (S : Store) : gIsN .non .non S = .ok (.bl true) S := rfl
@[simp] theorem gIsN_int (i : Int) (S : Store) : gIsN (.int i) .non S = .ok (.bl false) S := rfl
@[simp] theorem gIsN_bl (i : Bool) (S : Store) : gIsN (.bl i) .non S = .ok (.bl false) S := rfl
@[simp] theorem gIsN_str (i : PySem.Str) (S : Store) : gIsN (.str i) .non S = .ok (.bl false) S := rfl
@[simp] theorem gIsN_tup (i : List D) (S : Store) : gIsN (.tup i) .non S = .ok (.bl false) S := rfl
@[simp] theorem gIsN_lst (i : List D) (S : Store) : gIsN (.lst i) .non S = .ok (.bl false) S := rfl
@[simp] theorem gIsN_loc (i : Nat) (S : Store) : gIsN (.loc i) .non S = .ok (.bl false) S := rfl
@[simp] theorem gNotN_non  (S : Store) : gNotN .non .non S = .ok (.bl false) S := rfl
@[simp] theorem gNotN_int (i : Int) (S : Store) : gNotN (.int i) .non S = .ok (.bl true) S := rfl
@[simp] theorem gNotN_bl (i : Bool) (S : Store) : gNotN (.bl i) .non S = .ok (.bl true) S := rfl
@[simp] theorem gNotN_str (i : PySem.Str) (S : Store) : gNotN (.str i) .non S = .ok (.bl true) S := rfl
@[simp] theorem gNotN_tup (i : List D) (S : Store) : gNotN (.tup i) .non S = .ok (.bl true) S := rfl
@[simp] theorem gNotN_lst (i : List D) (S : Store) : gNotN (.lst i) .non S = .ok (.bl true) S := rfl
@[simp] theorem gNotN_loc (i : Nat) (S : Store) : gNotN (.loc i) .non S = .ok (.bl true) S := rfl

/-! ### zip -/
def zipD : List D → List D → List D
  | x :: xs, y :: ys => .tup [x, y] :: zipD xs ys
  | _, _ => []
theorem zipD_get : ∀ (xs ys : List D) (i : Nat) (d : D), (zipD xs ys)[i]? = some d → ∃ x y, xs[i]? = some x ∧ ys[i]? = some y ∧ d = .tup [x, y]
  | [], ys, i, d, h => by simp [zipD] at h
  | x :: xs, [], i, d, h => by simp [zipD] at h
  | x :: xs, y :: ys, 0, d, h => by simp [zipD] at h; exact ⟨x, y, rfl, rfl, h.symm⟩
  | x :: xs, y :: ys, i + 1, d, h => by
    have h' : (zipD xs ys)[i]? = some d := by simpa [zipD] using h
    exact zipD_get xs ys i d h'
theorem zipD_stop : ∀ (xs ys : List D) (i : Nat), (zipD xs ys).length ≤ i → xs.length ≤ i ∨ ys.length ≤ i
  | [], ys, i, h => .inl (Nat.zero_le _)
  | x :: xs, [], i, h => .inr (Nat.zero_le _)
  | x :: xs, y :: ys, 0, h => by simp [zipD] at h
  | x :: xs, y :: ys, i + 1, h => by
    have h' : (zipD xs ys).length ≤ i := by simpa [zipD] using h
    rcases zipD_stop xs ys i h' with q | q
    · exact .inl (by simpa using q)
    · exact .inr (by simpa using q)
theorem Walks.zipL {K : PySem.W.Frag} {g w o : List Addr} {H : Hp} {a b : Addr} {vs us : List V} {xs ys : List D} (hr : RestL g (w ++ o) H a vs) (r : RelDs K g (w ++ o) H xs vs) (hr2 : RestL g (w ++ o) H b us) (r2 : RelDs K g (w ++ o) H ys us) :
    Walks K g w o H (Itz K a b) (zipD xs ys) where
  item := fun i d g1 o1 H1 h x => by
    obtain ⟨dx, dy, h1, h2, rfl⟩ := zipD_get _ _ _ _ h
    have q := hr.extS x
    have q2 := hr2.extS x
    obtain ⟨v, ev, rv⟩ := (RelDs.extS x xs vs r).get h1
    obtain ⟨u, eu, ru⟩ := (RelDs.extS x ys us r2).get h2
    refine ⟨⟨vs, us, v, u, q.sq, q2.sq, ev, eu⟩, fun y H2 ⟨T, z1, z2, ey, hT, eH, hz1, hz2⟩ => ?_⟩
    have e1 := hz1 vs q.sq
    have e2 := hz2 us q2.sq
    rw [ev] at e1; rw [eu] at e2
    cases e1; cases e2
    subst ey; subst eH
    exact ⟨.new hT, T, _, rfl, .inl (.inl upd_same), _, _, rfl, RelD.ext (.new hT) _ _ rv, _, [], rfl, RelD.ext (.new hT) _ _ ru, rfl⟩
  stop := fun i g1 o1 H1 h x => ⟨vs, us, (hr.extS x).sq, (hr2.extS x).sq, by rw [← r.length, ← r2.length]; exact zipD_stop _ _ _ h⟩
theorem Walks.zipT {K : PySem.W.Frag} {g w o : List Addr} {H : Hp} {a b : Addr} {vs us : List V} {xs ys : List D} (hr : SqT K H a vs) (r : RelDs K g (w ++ o) H xs vs) (hr2 : SqT K H b us) (r2 : RelDs K g (w ++ o) H ys us) :
    Walks K g w o H (RZ.ItzT K a b) (zipD xs ys) where
  item := fun i d g1 o1 H1 h x => by
    obtain ⟨dx, dy, h1, h2, rfl⟩ := zipD_get _ _ _ _ h
    have q := SqT.extS x hr
    have q2 := SqT.extS x hr2
    obtain ⟨v, ev, rv⟩ := (RelDs.extS x xs vs r).get h1
    obtain ⟨u, eu, ru⟩ := (RelDs.extS x ys us r2).get h2
    refine ⟨⟨vs, us, v, u, q, q2, ev, eu⟩, fun y H2 ⟨T, z1, z2, ey, hT, eH, hz1, hz2⟩ => ?_⟩
    have e1 := hz1 vs q
    have e2 := hz2 us q2
    rw [ev] at e1; rw [eu] at e2
    cases e1; cases e2
    subst ey; subst eH
    exact ⟨.new hT, T, _, rfl, .inl (.inl upd_same), _, _, rfl, RelD.ext (.new hT) _ _ rv, _, [], rfl, RelD.ext (.new hT) _ _ ru, rfl⟩
  stop := fun i g1 o1 H1 h x => ⟨vs, us, SqT.extS x hr, SqT.extS x hr2, by rw [← r.length, ← r2.length]; exact zipD_stop _ _ _ h⟩
def iZip (m : MA) : ML := fun ρ S => (m ρ S).bind fun ds S1 => match ds with
  | [.lst xs, .lst ys] => .ok (zipD xs ys) S1
  | [.tup xs, .tup ys] => .ok (zipD xs ys) S1
  | _ => .bad
theorem im_zip {elts : List Expr} {kk : Nat} (h : AM X [e, e2] l) (hg : Gl X "zip") (hm : X.mg "zip" = none) (hs : starEach [e, e2] X.env = (false, eval e X.env) :: starEach [e2] X.env := by rfl) (hpl : (backTo pos (starEach [e2] X.env)).any (·.1) = false := by rfl) :
    IM X (.Tuple elts kk tpos) (.Call (.Name "zip" p) [e, e2] [] pos) (iZip l) :=
  PI.of (RZ.pi_zipA hg hm h hs hpl) fun σ H Rr ⟨g, w, o, ρ, S, l, S', s, hm, q⟩ => by
    obtain ⟨ds, S1, h1, hm⟩ := R.bind_ok hm
    refine ⟨g, w, o, ρ, S, ds, S1, s, h1, fun vs g1 H1 x1 s1 r1 => ?_⟩
    split at hm
    · cases hm
      obtain ⟨v, t, rfl, ⟨a, us, rfl, hr, r⟩, v2, t2, rfl, ⟨b, us2, rfl, hr2, r2⟩, rn⟩ := r1
      cases rn
      exact ⟨a, b, us, us2, rfl, .inl ⟨hr.sq, hr2.sq, q g1 H1 _ x1 s1 (.zipL hr r hr2 r2)⟩⟩
    · cases hm
      obtain ⟨v, t, rfl, ⟨a, us, rfl, hr, r⟩, v2, t2, rfl, ⟨b, us2, rfl, hr2, r2⟩, rn⟩ := r1
      cases rn
      exact ⟨a, b, us, us2, rfl, .inr ⟨hr, hr2, q g1 H1 _ x1 s1 (.zipT hr r hr2 r2)⟩⟩
    · cases hm
@[simp] theorem iZip_eq (m : MA) (ρ : MEnv) (S : Store) : iZip m ρ S = (m ρ S).bind fun ds S1 => (match ds with
  | [.lst xs, .lst ys] => .ok (zipD xs ys) S1
  | [.tup xs, .tup ys] => .ok (zipD xs ys) S1
  | _ => .bad) := rfl
theorem zipD_map {α β : Type} (f : α → D) (h : β → D) : ∀ (xs : List α) (ys : List β), zipD (xs.map f) (ys.map h) = (xs.zip ys).map fun p => .tup [f p.1, h p.2]
  | [], _ => by simp [zipD]
  | _ :: _, [] => by simp [zipD]
  | x :: xs, y :: ys => by simp [zipD, zipD_map f h xs ys]

/-! ### a = b = e -/
def mAsg2 (i j : Nat) (m : ME) : MS := fun ρ S => (m ρ S).bind fun d S1 => .ok (.nx ((ρ.set i (some (.val d))).set j (some (.val d)))) S1
theorem sm_asg2 {st : Stmt} {i j : Nat} (h : PS X st (tAsg2 (tE X.K me) (gName i) (gName j))) : SM X st (mAsg2 i j me) := PS.of h fun E σ H ⟨g, w, o, ρ, S, fl, S', s, hm, q⟩ => by
  obtain ⟨d, S1, e1, hm⟩ := R.bind_ok hm
  cases hm
  exact ⟨g, w, o, ρ, S, d, S', s, e1, fun v g1 H1 x1 s1 r1 => q g1 o H1 x1.s _ (((s.ext x1 s1).set r1).set r1)⟩
@[simp] theorem mAsg2_eq (i j : Nat) (m : ME) (ρ : MEnv) (S : Store) : mAsg2 i j m ρ S = (m ρ S).bind fun d S1 => .ok (.nx ((ρ.set i (some (.val d))).set j (some (.val d)))) S1 := rfl

/-! ### x += e, of numbers -/
def mAug (i : Nat) (h : Int → Int → Int) (m : ME) : MS := fun ρ S => match ρ[i]? with
  | some (some (.val (.int k))) => (m ρ S).bind fun d S1 => (match d with
    | .int j => .ok (.nx (ρ.set i (some (.val (.int (h k j)))))) S1
    | _ => .bad)
  | _ => .bad
theorem sm_aug {st : Stmt} {i : Nat} {h : Int → Int → Int} (hp : PS X st (tAug i (tE X.K me) (ipI h))) : SM X st (mAug i h me) := PS.of hp fun E σ H ⟨g, w, o, ρ, S, fl, S', s, hm, q⟩ => by
  unfold mAug at hm
  split at hm
  · rename_i k hk
    obtain ⟨d, S1, e1, hm⟩ := R.bind_ok hm
    split at hm
    · cases hm
      obtain ⟨v, ev, rv⟩ := s.val i _ hk
      refine ⟨v, ev, g, w, o, ρ, S, _, _, s, e1, fun u g1 H1 x1 s1 r1 => ?_⟩
      exact ⟨_, _, rv, r1, q g1 o H1 x1.s _ ((s.ext x1 s1).set rfl)⟩
    · cases hm
  · cases hm
@[simp] theorem mAug_eq (i : Nat) (h : Int → Int → Int) (m : ME) (ρ : MEnv) (S : Store) : mAug i h m ρ S = (match ρ[i]? with
  | some (some (.val (.int k))) => (m ρ S).bind fun d S1 => (match d with
    | .int j => .ok (.nx (ρ.set i (some (.val (.int (h k j)))))) S1
    | _ => .bad)
  | _ => .bad) := rfl

/-! ### sorted(numbers, reverse=True) -/
def geI (i j : Int) : Bool := decide (j ≤ i)
def sortG (ns : List Int) : List Int := ns.mergeSort geI
theorem sortG_perm (ns : List Int) : (sortG ns).Perm ns := List.mergeSort_perm ns geI
theorem sortG_ord (ns : List Int) : (sortG ns).Pairwise (· ≥ ·) := by
  have := List.pairwise_mergeSort (le := geI) (fun a b c h1 h2 => by simp only [geI, decide_eq_true_eq] at *; omega) (fun a b => by simp only [geI, Bool.or_eq_true, decide_eq_true_eq]; omega) ns
  exact this.imp fun h => by simpa [geI] using h
theorem perm_ge : ∀ {xs ys : List Int}, xs.Perm ys → xs.Pairwise (· ≥ ·) → ys.Pairwise (· ≥ ·) → xs = ys
  | [], ys, h, _, _ => (List.perm_nil.mp h.symm).symm
  | x :: xs, [], h, _, _ => nomatch h.length_eq
  | x :: xs, y :: ys, h, hx, hy => by
    rw [List.pairwise_cons] at hx hy
    have e : x = y := by
      have h1 : x ∈ y :: ys := h.mem_iff.mp List.mem_cons_self
      have h2 : y ∈ x :: xs := h.mem_iff.mpr List.mem_cons_self
      rcases List.mem_cons.mp h1 with q | q
      · exact q
      · rcases List.mem_cons.mp h2 with q2 | q2
        · exact q2.symm
        · have a1 := hy.1 x q
          have a2 := hx.1 y q2
          omega
    subst e
    rw [perm_ge (List.Perm.cons_inv h) hx.2 hy.2]
def hSortedR (l : List D) (S : Store) : R (List D) := match intsD l with
  | some ns => .ok ((sortG ns).map .int) S
  | none => .bad
theorem relDs_ints {K : PySem.W.Frag} {g f : List Addr} {H : Hp} : ∀ (ns : List Int), RelDs K g f H (ns.map .int) (ns.map V.int)
  | [] => rfl
  | n :: ns => ⟨_, _, rfl, rfl, relDs_ints ns⟩
theorem tp_bl {v : Bool} {kind} {vpos : Pos} {nm : Option Str} {kpos : Pos} : PK X [⟨nm, .Constant (.bool v) kind vpos, kpos⟩] (tCons (tC (.bl v)) tNil) := pk_cons pe_bl pk_nil
theorem nm_sortedR {vpos kpos : Pos} {kind} (h : QM X e ml) (hg : Gl X "sorted") (hm : X.mg "sorted" = none) (hb : bootBuiltins "sorted" = some (.builtin "sorted") := by decide +kernel) (hs : starEach [e] X.env = (false, eval e X.env) :: starEach [] X.env := by rfl)
    (he : backTo pos (starEach [e] X.env) = (false, eval e X.env) :: backTo pos (starEach [] X.env) := by rfl) (hpl : (backTo pos (starEach [e] X.env)).any (·.1) = false := by rfl) :
    NM X (.Call (.Name "sorted" p) [e] [⟨some "reverse", .Constant (.bool true) kind vpos, kpos⟩] pos) (mQL hSortedR ml) :=
  PE.of (pe_callBK (cr_sortedRev (b := true)) hg hm hb (b1 h hs) tp_bl (by decide) (by decide) he hpl (by rfl) (by rfl) (by rfl)) fun σ H Q ⟨g, w, o, ρ, S, d, S', s, hm, q⟩ => by
    obtain ⟨l, S1, h1, hm⟩ := R.bind_ok hm
    unfold hSortedR at hm
    split at hm
    · rename_i ns hns
      cases hm
      refine ⟨g, w, o, ρ, S, l, _, s, h1, fun a vs g1 H1 x1 s1 hq r1 => ?_⟩
      have hv := intsD_rel r1 hns
      subst hv
      refine ⟨a, ns, rfl, rfl, hq, fun ns' pp hp hord hnone => ?_⟩
      have e1 : ns' = sortG ns := perm_ge (hp.trans (sortG_perm ns).symm) hord (sortG_ord ns)
      subst e1
      refine q pp _ g1 _ (x1.trans (.new hnone)) (back_none x1 hnone) (s1.noG hnone) upd_same ((s1.fresh hnone).new hnone) (relDs_ints _)
    · cases hm
@[simp] theorem hSortedR_eq (l : List D) (S : Store) : hSortedR l S = (match intsD l with
  | some ns => .ok ((sortG ns).map .int) S
  | none => .bad) := rfl
end
end Mo
set_option maxRecDepth 100000
set_option maxHeartbeats 1000000
/-! Mo: sum, sorted, tuple, list of a value that is a list or a tuple. -/
namespace Mo
open PySem PySem.Spec PyProof.Rows L2

/-! ### collecting a tuple, at the library's level -/
namespace Low
open PySem.Calls
section
variable {prog : Program} {w : World} {A : Around} {E : Value → Shared → Prop} {s : Shared}
theorem collect_tuple {l : Addr} {vs : List Value} {Q : List Value → Shared → Prop} (hl : s.heap.IsTuple l vs.toArray)
    (h : Q vs { s with heap := (s.heap.push (seqObj "list" #[] 0)).update s.heap.objs.size (Obj.mapSeq (· ++ vs.toArray)) }) (hsz : vs.length ≤ sizeLine := by size_fits) :
    wpAny (model prog w) A (collect (.ref l)) Q E s := by
  obtain ⟨o, ho, hc, n, hd⟩ := id hl
  unfold collect
  refine wpAny_bind (wpAny_runValue (codeAny_builtin entry_proto_collect' ?_))
  show wpAny _ _ (do again (.builtin "list.__iadd__" ⟨[← newList [], .ref l], []⟩)) _ _ s
  refine wpAny_bind (wpAny_newList (wpAny_pure ⟨Code.quiet_builtin _ (by decide +kernel), codeAny_builtin entry_list_iadd' ?_⟩))
  show wpAny _ _ (Builtin.List.listExtendWith (.ref s.heap.objs.size) (.ref l) (.ref s.heap.objs.size)) _ _ { s with heap := s.heap.push (seqObj "list" #[] 0) }
  unfold Builtin.List.listExtendWith
  have ho' : (s.heap.push (seqObj "list" #[] 0)).get? l = some o := Heap.get?_push_of_some _ ho
  refine wpAny_bind (wpAny_typeOf (T := "tuple") ⟨o, ho', hc⟩ ?_)
  have ht : (Value.type "tuple" == Value.type "tuple") = true := by rfl
  rw [if_pos (by rw [ht]; simp)]
  refine wpAny_bind (listItems_at ho' hd ?_)
  refine wpAny_bind (listItems_at (xs := #[]) (n := 0) (Heap.get?_push_size _ rfl) rfl ?_)
  rw [if_neg (by simp)]
  refine wpAny_bind (listUpdate_at (xs := #[]) (n := 0) (Heap.get?_push_size _ rfl) rfl ?_ (Nat.zero_le _) (by show (#[] ++ vs.toArray).size ≤ sizeLine + 1; simp only [Array.size_append, List.size_toArray, List.length_nil]; omega))
  refine wpAny_pure ?_
  show wpAny (model prog w) A (do
      let o ← load s.heap.objs.size
      match o.data with
      | .seq xs _ => pure xs.toList
      | _ => unsupported "internal:collect") Q E { s with heap := (s.heap.push (seqObj "list" #[] 0)).update s.heap.objs.size (Obj.mapSeq (· ++ vs.toArray)) }
  refine wpAny_bind (wpAny_load (get?_update_seq (Heap.get?_push_size _ rfl) _) ?_)
  show wpAny _ _ (pure ((#[] : Array Value) ++ vs.toArray).toList) Q E _
  rw [show ((#[] : Array Value) ++ vs.toArray).toList = vs by simp]
  exact wpAny_pure h
end
end Low
end Mo
namespace PySem.W
open PySem PySem.Spec PySem.Calls PyProof.Rows PyProof.V
section
variable {prog : Program} {w : World} {A : Around} {E : Value → Shared → Prop} {s : Shared}
theorem mo_sorted_of_sortT {l : Addr} {vs : List Value} {kw : List (Str × Value)} {Q : Value → Shared → Prop} (hl : s.heap.IsTuple l vs.toArray) (hL : vs.length ≤ sizeLine) (ha1 : argsOk "sorted" ⟨[.ref l], kw⟩) (ha2 : ∀ x, argsOk "list.sort" ⟨[.ref x], kw⟩)
    (body : ∀ E' : Value → Shared → Prop, wpAny (model prog w) A.in1.in1 (Builtin.«list.sort» ⟨[.ref (s.heap.objs.size + 1)], kw⟩) (fun f s' => f = .done (.ret .none) ∧ Q (.ref (s.heap.objs.size + 1)) s') E' { s with heap := copyHeap s.heap vs }) :
    wpAny (model prog w) A (call (.builtin "sorted") [.ref l] kw) Q E s := by
  refine call_function_entry_kw kind_sorted plain_sorted entry_sorted ha1 ?_
  unfold Builtin.«sorted»
  refine wpAny_bind (m := checkCount "sorted" 1 1 _) (wpAny_pure ?_)
  refine wpAny_bind (Mo.Low.collect_tuple hl ?_ hL)
  refine wpAny_bind (wpAny_newList ?_ hL)
  have hsz : ((s.heap.push (seqObj "list" #[] 0)).update s.heap.objs.size (Obj.mapSeq (· ++ vs.toArray))).objs.size = s.heap.objs.size + 1 := by
    rw [Heap.size_update, size_push']
  show wpAny _ _ _ _ _ { s with heap := copyHeap s.heap vs }
  rw [hsz]
  refine wpAny_bind (wpAny_holding (wpAny_call_entry_kw slot_list_sort ⟨_, copyHeap_at s.heap vs, rfl⟩ entry_list_sort ?body (ha2 _)))
  case body =>
    show wpAny (model prog w) A.in1.in1 (Builtin.«list.sort» ⟨[.ref (s.heap.objs.size + 1)], kw⟩) _ _ _
    refine wpAny_mono (body _) (fun f s' hf => ?_) fun _ _ e => e
    obtain ⟨rfl, hq⟩ := hf
    exact ⟨_, rfl, wpAny_pure ⟨_, rfl, hq⟩⟩
variable {α : Type} {R : Value → α → Prop} {enc : α → PyData} {vs : List Value} {bs : List α}
theorem mo_sorted_dataT {l : Addr} {Q : Value → Shared → Prop} (hl : s.heap.IsTuple l vs.toArray) (e : EachIs R vs bs) (er : EachIs (fun v b => ∃ as, Reads s.heap v (enc b) as) vs bs) (hal : AllAlike (bs.map enc)) (hk : Sortable (bs.map enc)) (hL : bs.length ≤ sizeLine)
    (hu : ∀ b, b ∈ bs → A.units + 2 + (enc b).depth < cLine) (h : ∀ out, out.length = bs.length → EachIs R out (bs.mergeSort (dataLe false enc)) → Q (.ref (s.heap.objs.size + 1)) { s with heap := sortedAll s.heap vs (List.toArray out) }) :
    wpAny (model prog w) A (call (.builtin "sorted") [.ref l]) Q E s := by
  have er' : EachIs (fun v b => ∃ as, Reads (sortingHeap (copyHeap s.heap vs) (s.heap.objs.size + 1) vs) v (enc b) as) vs bs := er.mono fun _ _ ⟨as, r⟩ => ⟨as, PyProof.Rows.Reads.keeps (fun _ _ => sorting_copy_old) r⟩
  have hL' : vs.length ≤ sizeLine := by rw [e.length]; exact hL
  have S : SortsAt prog w A.in1.in1 { s with heap := sortingHeap (copyHeap s.heap vs) (s.heap.objs.size + 1) vs } (dataKind (sortingHeap (copyHeap s.heap vs) (s.heap.objs.size + 1) vs) (bs.map enc)) vs :=
    SortsAt.data (s := { s with heap := sortingHeap (copyHeap s.heap vs) (s.heap.objs.size + 1) vs }) (each_map (R := fun v d => ∃ as, Reads (sortingHeap (copyHeap s.heap vs) (s.heap.objs.size + 1) vs) v d as) enc er') hal hk (bound_map hu)
  exact mo_sorted_of_sortT hl hL' (args_sorted1 _) (fun _ => args_list_sort _) fun _ => list_sort_vals (s := { s with heap := copyHeap s.heap vs }) (copyHeap_at s.heap vs) S hL' ⟨rfl, h _ (by rw [sortVals_length false rfl]; exact e.length) (sortVals_data false e er' hal)⟩
theorem mo_sorted_rev_dataT {l : Addr} {b : Bool} {Q : Value → Shared → Prop} (hl : s.heap.IsTuple l vs.toArray) (e : EachIs R vs bs) (er : EachIs (fun v b => ∃ as, Reads s.heap v (enc b) as) vs bs) (hal : AllAlike (bs.map enc)) (hk : Sortable (bs.map enc)) (hL : bs.length ≤ sizeLine)
    (hu : ∀ b, b ∈ bs → A.units + 2 + (enc b).depth < cLine) (h : ∀ out, out.length = bs.length → EachIs R out (bs.mergeSort (dataLe b enc)) → Q (.ref (s.heap.objs.size + 1)) { s with heap := sortedAll s.heap vs (List.toArray out) }) :
    wpAny (model prog w) A (call (.builtin "sorted") [.ref l] [(Str.ofString "reverse", .bool b)]) Q E s := by
  have er' : EachIs (fun v b => ∃ as, Reads (sortingHeap (copyHeap s.heap vs) (s.heap.objs.size + 1) vs) v (enc b) as) vs bs := er.mono fun _ _ ⟨as, r⟩ => ⟨as, PyProof.Rows.Reads.keeps (fun _ _ => sorting_copy_old) r⟩
  have hL' : vs.length ≤ sizeLine := by rw [e.length]; exact hL
  have S : SortsAt prog w A.in1.in1 { s with heap := sortingHeap (copyHeap s.heap vs) (s.heap.objs.size + 1) vs } (dataKind (sortingHeap (copyHeap s.heap vs) (s.heap.objs.size + 1) vs) (bs.map enc)) vs :=
    SortsAt.data (s := { s with heap := sortingHeap (copyHeap s.heap vs) (s.heap.objs.size + 1) vs }) (each_map (R := fun v d => ∃ as, Reads (sortingHeap (copyHeap s.heap vs) (s.heap.objs.size + 1) vs) v d as) enc er') hal hk (bound_map hu)
  exact mo_sorted_of_sortT hl hL' (args_sorted_rev _ _) (fun _ => args_list_sort_rev _ _) fun _ => list_sort_rev_vals (s := { s with heap := copyHeap s.heap vs }) (copyHeap_at s.heap vs) S hL' ⟨rfl, h _ (by rw [sortVals_length b rfl]; exact e.length) (sortVals_data b e er' hal)⟩
end
end PySem.W
namespace Mo
open PySem PySem.Spec PyProof.Rows L2
section
variable {X : Cx} {e a b : Expr} {me : ME} {p pos : Pos}
/-- a list or a tuple -/
def SqA (K : PySem.W.Frag) (H : Hp) (a : Addr) (vs : List V) : Prop := SqL K H a vs ∨ SqT K H a vs
/-- the items of a value that is a list or a tuple -/
def anyD : D → Store → R (List D)
  | .lst l, S => .ok l S
  | .tup l, S => .ok l S
  | .scr l, S => .ok (l.map .int) S
  | .loc n, S => match S[n]? with
    | some (.lst l) => .ok l S
    | _ => .bad
  | _, _ => .bad
theorem anyD_rel {K : PySem.W.Frag} {g f : List Addr} {H : Hp} {S S' : Store} {d : D} {v : V} {l : List D} (s : RelS K g f H S) (r : RelD K g f H d v) (h : anyD d S = .ok l S') :
    S' = S ∧ ∃ a vs, v = .ref a ∧ SqA K H a vs ∧ RelDs K g f H l vs := by
  cases d with
  | lst l' => cases h; obtain ⟨a, vs, rfl, q, rr⟩ := r; exact ⟨rfl, a, vs, rfl, .inl q.sq, rr⟩
  | tup l' => cases h; obtain ⟨a, vs, rfl, q, rr⟩ := r; exact ⟨rfl, a, vs, rfl, .inr q, rr⟩
  | scr l' => cases h; obtain ⟨a, rfl, q⟩ := r; exact ⟨rfl, a, _, rfl, .inl q.sq, relDs_ints _⟩
  | loc n =>
    obtain ⟨a, rfl, q⟩ := r
    unfold anyD at h
    cases e : S[n]? with
    | none => simp only [e] at h; cases h
    | some c =>
      cases c with
      | lst l' =>
        simp only [e] at h
        cases h
        obtain ⟨vs, q1, rr⟩ := s.cel n _ a e q
        exact ⟨rfl, a, vs, rfl, .inl (.of q1), rr⟩
      | dK x => simp only [e] at h; cases h
      | dT x => simp only [e] at h; cases h
      | dF x => simp only [e] at h; cases h
      | dG x => simp only [e] at h; cases h
  | ex _ _ _ => cases h
  | non => cases h
  | bl x => cases h
  | int x => cases h
  | str x => cases h
  | raw x => cases h
/-- what a built-in gives of such a value -/
def mV (h : List D → Store → R D) (m : ME) : ME := fun ρ S => (m ρ S).bind fun d S1 => (anyD d S1).bind h
def mVL (h : List D → Store → R (List D)) (m : ME) : ML := fun ρ S => (m ρ S).bind fun d S1 => (anyD d S1).bind h
@[simp] theorem mV_eq (h : List D → Store → R D) (m : ME) (ρ : MEnv) (S : Store) : mV h m ρ S = (m ρ S).bind fun d S1 => (anyD d S1).bind h := rfl
@[simp] theorem mVL_eq (h : List D → Store → R (List D)) (m : ME) (ρ : MEnv) (S : Store) : mVL h m ρ S = (m ρ S).bind fun d S1 => (anyD d S1).bind h := rfl
@[simp] theorem anyD_lst (l : List D) (S : Store) : anyD (.lst l) S = .ok l S := rfl
@[simp] theorem anyD_tup (l : List D) (S : Store) : anyD (.tup l) S = .ok l S := rfl
@[simp] theorem anyD_scr (l : List Int) (S : Store) : anyD (.scr l) S = .ok (l.map .int) S := rfl
@[simp] theorem anyD_loc (n : Nat) (S : Store) : anyD (.loc n) S = (match S[n]? with | some (.lst l) => .ok l S | _ => .bad) := rfl
theorem v_of {r : List V → Hp → VK → Prop} {h : List D → Store → R D} {σ : L2.St} {H : Hp} {Q : VK}
    (hr : ∀ g f H (S : Store) l d S' a vs Q, RelS X.K g f H S → SqA X.K H a vs → RelDs X.K g f H l vs → h l S = .ok d S' → FinE X.K g f H d S' Q → r [.ref a] H Q)
    (q : tE X.K (mV h me) σ H Q) : tCB r (tCons (tE X.K me) tNil) σ H Q := by
  obtain ⟨g, w, o, ρ, S, d, S', s, hm, q⟩ := q
  obtain ⟨d1, S1, h1, hm⟩ := R.bind_ok hm
  obtain ⟨l, S2, h2, hm2⟩ := R.bind_ok hm
  refine ⟨g, w, o, ρ, S, d1, S1, s, h1, fun v g1 H1 x1 s1 r1 => ?_⟩
  obtain ⟨rfl, a, vs, rfl, hq, rr⟩ := anyD_rel s1 r1 h2
  exact hr g1 (w ++ o) H1 _ l d S' a vs Q s1 hq rr hm2 fun v g2 H2 x2 s2 r2 => q v g2 H2 (x1.trans x2) s2 r2
theorem vn_of {r : List V → Hp → VK → Prop} {h : List D → Store → R (List D)} {σ : L2.St} {H : Hp} {Q : VK}
    (hr : ∀ g f H (S : Store) l d S' a vs Q, RelS X.K g f H S → SqA X.K H a vs → RelDs X.K g f H l vs → h l S = .ok d S' → FinN X.K g f H d S' Q → r [.ref a] H Q)
    (q : tN X.K (mVL h me) σ H Q) : tCB r (tCons (tE X.K me) tNil) σ H Q := by
  obtain ⟨g, w, o, ρ, S, d, S', s, hm, q⟩ := q
  obtain ⟨d1, S1, h1, hm⟩ := R.bind_ok hm
  obtain ⟨l, S2, h2, hm2⟩ := R.bind_ok hm
  refine ⟨g, w, o, ρ, S, d1, S1, s, h1, fun v g1 H1 x1 s1 r1 => ?_⟩
  obtain ⟨rfl, a, vs, rfl, hq, rr⟩ := anyD_rel s1 r1 h2
  exact hr g1 (w ++ o) H1 _ l d S' a vs Q s1 hq rr hm2 fun p us g2 H2 x2 hp n2 e2 s2 r2 => q p us g2 H2 (x1.trans x2) (back_none x1 hp) n2 e2 s2 r2
/-- sum -/
theorem cr_sumA (hc : X.calm = true) : CallR X (.builtin "sum") (fun vs H Q => ∃ (a : Addr) (ns : List Int), vs = [V.ref a] ∧ SqA X.K H a (ns.map V.int) ∧ Q (.int ns.sum) H) := by
  intro pins s σ H vs us Q I r h
  obtain ⟨a, ns, rfl, hs | hs, q⟩ := h
  · exact cr_sum hc pins s σ H _ us Q I r ⟨a, ns, rfl, hs, q⟩
  · obtain ⟨its, rv, ht, _⟩ := I.tuple hs
    rw [Vals.ref1 r]
    have hi := rv.ints
    obtain ⟨xs, hx⟩ := hi.allInts.items
    have hn : numsOf its.toArray.toList = ns := by rw [show its.toArray.toList = its from rfl, hi.numsOf]
    have ht' : s.heap.IsTuple a its.toArray := ht
    rw [hx] at ht' hn
    rw [PySem.nums_intItems] at hn
    refine PySem.W.ktm_sumG (I.ok.hd hc) ht' fun h' tk t' hk => ?_
    refine ⟨.int ns.sum, H, I.kept hk, ⟨t', ?_⟩, q⟩
    rw [preSum_eq, List.take_of_length_le (by simp), hn]
theorem em_sumV (hc : X.calm = true) (h : EM X e me) (hg : Gl X "sum") (hm : X.mg "sum" = none) (hb : bootBuiltins "sum" = some (.builtin "sum") := by decide +kernel) (hs : starEach [e] X.env = (false, eval e X.env) :: starEach [] X.env := by rfl) (hpl : (backTo pos (starEach [] X.env)).any (·.1) = false := by rfl) :
    EM X (.Call (.Name "sum" p) [e] [] pos) (mV hSum me) :=
  PE.of (pe_callB (cr_sumA hc) hg hm hb (b1 h hs) (by decide) (by decide) hs hpl) fun σ H Q q => v_of (fun g f H S l d S' a vs Q s hq r hm q => by
    unfold hSum at hm
    split at hm
    · rename_i ns hns
      cases hm
      have hv := intsD_rel r hns
      subst hv
      exact ⟨a, ns, rfl, hq, q.same s rfl⟩
    · cases hm) q
/-- len, tuple, list -/
theorem em_tupleV (h : EM X e me) (hg : Gl X "tuple") (hm : X.mg "tuple" = none) (hb : bootBuiltins "tuple" = some (.type "tuple") := by decide +kernel) (hs : starEach [e] X.env = (false, eval e X.env) :: starEach [] X.env := by rfl) (hpl : (backTo pos (starEach [] X.env)).any (·.1) = false := by rfl) :
    EM X (.Call (.Name "tuple" p) [e] [] pos) (mV hTup me) :=
  PE.of (pe_callTy call_tuple_of hg hm hb (b1 h hs) (by decide) (by decide) hs hpl) fun σ H Q q => v_of (fun g f H S l d S' a vs Q s hq r hm q => by
    cases hm
    rcases hq with hq | hq
    · exact ⟨a, vs, rfl, .inl ⟨hq, fun t ht => q _ g _ (.new ht) (s.new ht) ⟨t, vs, rfl, .inl (.inl upd_same), RelDs.ext (.new ht) _ _ r⟩⟩⟩
    · exact ⟨a, vs, rfl, .inr ⟨hq, q.same s ⟨a, vs, rfl, hq, r⟩⟩⟩) q
theorem nm_listV (h : EM X e me) (hg : Gl X "list") (hm : X.mg "list" = none) (hb : bootBuiltins "list" = some (.type "list") := by decide +kernel) (hs : starEach [e] X.env = (false, eval e X.env) :: starEach [] X.env := by rfl) (hpl : (backTo pos (starEach [] X.env)).any (·.1) = false := by rfl) :
    NM X (.Call (.Name "list" p) [e] [] pos) (mVL hList me) :=
  PE.of (pe_callTy call_list_of hg hm hb (b1 h hs) (by decide) (by decide) hs hpl) fun σ H Q q => vn_of (fun g f H S l d S' a vs Q s hq r hm q => by
    cases hm
    exact ⟨a, vs, rfl, hq, q.put s r⟩) q
/-- sorted, perhaps backwards -/
def sortDR (b : Bool) (l : List D) : List D := l.mergeSort (PySem.W.dataLe b encD)
def hSortedB (b : Bool) (l : List D) (S : Store) : R (List D) := match toPs l with
  | some ps => if ps.all (fun x => ps.all (PySem.W.alike x)) = true ∧ sortableB ps = true ∧ PyData.depthAll ps ≤ 60 then .ok (sortDR b l) S else .bad
  | none => .bad
def rSortA (X : Cx) (b : Bool) : List V → Hp → VK → Prop := fun xs H Q => ∃ a vs l ps g f, xs = [.ref a] ∧ SqA X.K H a vs ∧ RelDs X.K g f H l vs ∧ toPs l = some ps ∧ PySem.W.AllAlike ps ∧ PySem.W.Sortable ps ∧ PyData.depthAll ps ≤ 60 ∧
    ∀ p us, H p = none → RelDs X.K g f H (sortDR b l) us → Q (.ref p) (upd H p (.lst us))
theorem sortA_run (hu : X.A.units + 64 < cLine) {b : Bool} {kw : List (Str × Value)} (hkw : (kw = [] ∧ b = false) ∨ kw = [(Str.ofString "reverse", .bool b)]) {pins : List (Addr × Obj)} {s : Shared} {σ : L2.St} {H : Hp} {xs : List V} {us : List Value} {Q : VK} (I : Inv X pins σ H s) (r : Vals xs us) (h : rSortA X b xs H Q) :
    wpAny (model X.prog X.w) X.A (call (.builtin "sorted") us kw) (EP X pins σ Q) X.xe s := by
  obtain ⟨a, vs, l, ps, g, f, rfl, hs, rl, hp, hal, hso, hd, q⟩ := h
  rw [Vals.ref1 r]
  obtain ⟨its, rv, pl, hz⟩ : ∃ its : List Value, Vals vs its ∧ (s.heap.IsList a its.toArray ∨ s.heap.IsTuple a its.toArray) ∧ vs.length ≤ sizeLine := by
    rcases hs with hs | hs
    · obtain ⟨its, rv, pl, hz⟩ := I.list hs
      exact ⟨its, rv, .inl pl.isList, hz⟩
    · obtain ⟨its, rv, pl, hz⟩ := I.tuple hs
      exact ⟨its, rv, .inr pl, hz⟩
  obtain ⟨as, hr⟩ := Dp.readsAll I _ _ its (RelDs.dp _ _ _ rl hp) rv
  have eenc : ∀ {l : List D} {ps : List PyData}, toPs l = some ps → l.map encD = ps := by
    intro l
    induction l with
    | nil => intro ps h; unfold toPs at h; cases h; rfl
    | cons d l ih =>
      intro ps h
      unfold toPs at h
      split at h
      · rename_i p ps' h1 h2
        cases h
        rw [List.map_cons, ih h2]
        unfold encD
        rw [h1]; rfl
      · cases h
  have e1 := eenc hp
  have hz1 : (l.zip vs).map (·.1) = l := List.map_fst_zip (by rw [rl.length]; exact Nat.le_refl _)
  have hz2 : (l.zip vs).map (·.2) = vs := List.map_snd_zip (by rw [rl.length]; exact Nat.le_refl _)
  have hze : (l.zip vs).map (fun b => encD b.1) = ps := by rw [← e1, ← hz1, List.map_map]; rw [hz1]; rfl
  have E1 : ∀ {zs : List (D × V)} {its : List Value}, Vals (zs.map (·.2)) its → PySem.W.EachIs (fun v (b : D × V) => RelV b.2 v) its zs := by
    intro zs
    induction zs with
    | nil => intro its h; cases h; exact .nil
    | cons z zs ih => intro its h; cases h with | cons r t => exact .cons r (ih t)
  have ea : PySem.W.EachIs (fun v (b : D × V) => RelV b.2 v) its (l.zip vs) := E1 (by rw [hz2]; exact rv)
  have er : PySem.W.EachIs (fun v (b : D × V) => ∃ as, Reads s.heap v (encD b.1) as) its (l.zip vs) := PySem.W.readsAll_each (fun b : D × V => encD b.1) (by rw [hze]; exact hr)
  have hlen : (l.zip vs).length = vs.length := by rw [← hz2, List.length_map, hz2]
  have fin : ∀ out, out.length = (l.zip vs).length → PySem.W.EachIs (fun v (b : D × V) => RelV b.2 v) out ((l.zip vs).mergeSort (PySem.W.dataLe b fun b : D × V => encD b.1)) →
      EP X pins σ Q (.ref (s.heap.objs.size + 1)) { s with heap := sortedAll s.heap its (List.toArray out) } := fun out hl2 ho => by
    obtain ⟨ep, he'⟩ := PyProof.Rows.sortedAll_at s.heap its (List.toArray out)
    have hs2 : ((l.zip vs).mergeSort (PySem.W.dataLe b fun b : D × V => encD b.1)).map (·.1) = sortDR b l := by
      unfold sortDR
      rw [List.map_mergeSort (r := PySem.W.dataLe b fun b : D × V => encD b.1) (s := PySem.W.dataLe b encD) (f := (·.1)) (fun _ _ _ _ => rfl), hz1]
    have rel : ∀ {zs : List (D × V)}, (∀ z ∈ zs, RelD X.K g f H z.1 z.2) → RelDs X.K g f H (zs.map (·.1)) (zs.map (·.2)) := by
      intro zs
      induction zs with
      | nil => intro _; rfl
      | cons z zs ih => intro hz; exact ⟨z.2, _, rfl, hz z List.mem_cons_self, ih fun y hy => hz y (List.mem_cons_of_mem _ hy)⟩
    have relz : ∀ {l : List D} {vs : List V}, RelDs X.K g f H l vs → ∀ z ∈ l.zip vs, RelD X.K g f H z.1 z.2 := by
      intro l
      induction l with
      | nil => intro vs h z hz; simp at hz
      | cons d l ih =>
        intro vs h z hz
        obtain ⟨v, r, e, q, t⟩ := h
        subst e
        rcases List.mem_cons.mp hz with e | hz
        · rw [e]; exact q
        · exact ih t z hz
    have rr : RelDs X.K g f H (sortDR b l) (((l.zip vs).mergeSort (PySem.W.dataLe b fun b : D × V => encD b.1)).map (·.2)) := by
      rw [← hs2]
      exact rel fun z hz => relz rl z ((List.mergeSort_perm _ _).mem_iff.mp hz)
    refine ⟨.ref _, upd H (s.heap.objs.size + 1) (.lst _), I.laid (t' := s.toks) (fun _ _ => PyProof.Rows.sortedAll_old) (Nat.le_succ _) ⟨?_, out, ep, each_vals ho, he'⟩, rfl, q _ _ (I.hok.fresh (Nat.le_succ _)) rr⟩
    rw [List.length_map, (List.mergeSort_perm _ _).length_eq, hlen]
    exact hz
  have hal' : PySem.W.AllAlike ((l.zip vs).map fun b => encD b.1) := by rw [hze]; exact hal
  have hso' : PySem.W.Sortable ((l.zip vs).map fun b => encD b.1) := by rw [hze]; exact hso
  have hlen' : (l.zip vs).length ≤ sizeLine := by rw [hlen]; exact hz
  have hdep : ∀ z ∈ l.zip vs, X.A.units + 2 + (encD z.1).depth < cLine := fun z hz => by
    have : encD z.1 ∈ ps := by rw [← hze]; exact List.mem_map.mpr ⟨z, hz, rfl⟩
    have := depth_le_all this
    omega
  rcases pl with pl | pl
  · rcases hkw with ⟨e1, e2⟩ | e1
    · subst e1 e2
      exact PySem.W.sorted_data (R := fun v (b : D × V) => RelV b.2 v) (enc := fun b : D × V => encD b.1) pl ea er hal' hso' hlen' hdep fin
    · subst e1
      exact PySem.W.sorted_rev_data (R := fun v (b : D × V) => RelV b.2 v) (enc := fun b : D × V => encD b.1) pl ea er hal' hso' hlen' hdep fin
  · rcases hkw with ⟨e1, e2⟩ | e1
    · subst e1 e2
      exact PySem.W.mo_sorted_dataT (R := fun v (b : D × V) => RelV b.2 v) (enc := fun b : D × V => encD b.1) pl ea er hal' hso' hlen' hdep fin
    · subst e1
      exact PySem.W.mo_sorted_rev_dataT (R := fun v (b : D × V) => RelV b.2 v) (enc := fun b : D × V => encD b.1) pl ea er hal' hso' hlen' hdep fin
theorem cr_sortA (hu : X.A.units + 64 < cLine) : CallR X (.builtin "sorted") (rSortA X false) := fun pins s σ H xs us Q I r h => sortA_run hu (.inl ⟨rfl, rfl⟩) I r h
theorem cr_sortAR (hu : X.A.units + 64 < cLine) {b : Bool} : CallRK X (.builtin "sorted") [Str.ofString "reverse"] (fun xs zs H Q => zs = [.bl b] ∧ rSortA X b xs H Q) := fun pins s σ H xs zs us ws Q I r rz h => by
  obtain ⟨rfl, h⟩ := h
  obtain ⟨w1, rfl, e1⟩ := vals1 rz
  obtain rfl : w1 = Value.bool b := e1
  exact sortA_run hu (.inr rfl) I r h
theorem hSortedB_run {g f : List Addr} {H : Hp} {S S' : Store} {bb : Bool} {l d : List D} {x : Addr} {vs : List V} {Q : VK} (s : RelS X.K g f H S) (hq : SqA X.K H x vs) (r : RelDs X.K g f H l vs) (hm : hSortedB bb l S = .ok d S') (q : FinN X.K g f H d S' Q) : rSortA X bb [.ref x] H Q := by
  unfold hSortedB at hm
  split at hm
  · rename_i ps hp
    split at hm
    · rename_i hc
      cases hm
      exact ⟨x, vs, l, ps, g, f, rfl, hq, r, hp, fun x hx y hy => List.all_eq_true.mp (List.all_eq_true.mp hc.1 x hx) y hy, sortableB_of hc.2.1, hc.2.2, fun t us ht rs => q.put s rs t ht⟩
    · cases hm
  · cases hm
theorem nm_sortV (hu : X.A.units + 64 < cLine) (h : EM X e me) (hg : Gl X "sorted") (hm : X.mg "sorted" = none) (hb : bootBuiltins "sorted" = some (.builtin "sorted") := by decide +kernel) (hs : starEach [e] X.env = (false, eval e X.env) :: starEach [] X.env := by rfl) (hpl : (backTo pos (starEach [] X.env)).any (·.1) = false := by rfl) :
    NM X (.Call (.Name "sorted" p) [e] [] pos) (mVL (hSortedB false) me) :=
  PE.of (pe_callB (cr_sortA hu) hg hm hb (b1 h hs) (by decide) (by decide) hs hpl) fun σ H Q q => vn_of (fun g f H S l d S' a vs Q s hq r hm q => hSortedB_run s hq r hm q) q
theorem nm_sortVR {vpos kpos : Pos} {kind} {bb : Bool} (hu : X.A.units + 64 < cLine) (h : EM X e me) (hg : Gl X "sorted") (hm : X.mg "sorted" = none) (hb : bootBuiltins "sorted" = some (.builtin "sorted") := by decide +kernel) (hs : starEach [e] X.env = (false, eval e X.env) :: starEach [] X.env := by rfl)
    (he : backTo pos (starEach [e] X.env) = (false, eval e X.env) :: backTo pos (starEach [] X.env) := by rfl) (hpl : (backTo pos (starEach [e] X.env)).any (·.1) = false := by rfl) :
    NM X (.Call (.Name "sorted" p) [e] [⟨some "reverse", .Constant (.bool bb) kind vpos, kpos⟩] pos) (mVL (hSortedB bb) me) :=
  PE.of (pe_callBK (cr_sortAR hu (b := bb)) hg hm hb (b1 h hs) tp_bl (by decide) (by decide) he hpl (by rfl) (by rfl) (by rfl)) fun σ H Q q => by
    have := vn_of (r := rSortA X bb) (fun g f H S l d S' a vs Q s hq r hm q => hSortedB_run s hq r hm q) q
    obtain ⟨g, w, o, ρ, S, d, S', s, hm, q⟩ := this
    exact ⟨g, w, o, ρ, S, d, S', s, hm, fun v g1 H1 x1 s1 r1 => ⟨rfl, q v g1 H1 x1 s1 r1⟩⟩
end
end Mo
set_option maxRecDepth 100000
set_option maxHeartbeats 1000000
/-! Mo: powers of great numbers. -/
namespace Mo
open PySem PySem.Spec PyProof.Rows L2
section
variable {X : Cx}
def CPowW (i j : Int) : Prop := 0 ≤ j ∧ (Builtin.Int.intBits i : Int) * j ≤ 2 ^ 27
theorem op_powW : OpR X (binaryOp .Pow) (rI CPowW fun i j => .int (i ^ j.toNat)) := opI fun _ _ _ _ _ _ _ hc q => pow_int hc.1 hc.2 q
def cPowW (i j : Int) : Prop := 0 ≤ j ∧ (Builtin.Int.intBits i : Int) * j ≤ 2 ^ 27
instance : ∀ i j, Decidable (cPowW i j) := fun _ _ => by unfold cPowW; infer_instance
abbrev gPowW : G2 := gI cPowW fun i j => .int (i ^ j.toNat)
theorem od_powW {K : PySem.W.Frag} : OpD K (rI CPowW fun i j => .int (i ^ j.toNat)) gPowW := od_I (fun _ _ h => h) fun _ _ _ _ _ _ => rfl
theorem bits_le {i : Int} {k : Nat} (h0 : 0 ≤ i) (h : i < 2 ^ k) : Builtin.Int.intBits i ≤ k := by
  unfold Builtin.Int.intBits
  split
  · omega
  · rename_i hz
    have hne : i.natAbs ≠ 0 := by
      intro e
      have : i = 0 := by omega
      exact hz (by simp [this])
    have h1 : i.natAbs < 2 ^ k := by
      have e : ((i.natAbs : Nat) : Int) = i := Int.natAbs_of_nonneg h0
      have : ((i.natAbs : Nat) : Int) < ((2 ^ k : Nat) : Int) := by rw [e]; simpa using h
      exact Int.ofNat_lt.mp this
    have := (Nat.log2_lt hne).mpr h1
    omega
theorem cPowW_nn {i j : Int} {k : Nat} (h0 : 0 ≤ i) (h : i < 2 ^ k) (hj : 0 ≤ j) (hk : (k : Int) * j ≤ 2 ^ 27) : cPowW i j :=
  ⟨hj, Int.le_trans (Int.mul_le_mul_of_nonneg_right (by have := bits_le h0 h; omega) hj) hk⟩
@[simp] theorem mIxO_eq (i : Nat) (mi : ME) (ρ : MEnv) (S : Store) : mIxO i mi ρ S = (mi ρ S).bind fun k S1 => (match ρ[i]?, k with
  | some (some (.own (.lst l))), .int j => (match atI l j with
    | some d => .ok d S1
    | none => .bad)
  | _, _ => .bad) := rfl
@[simp] theorem mSetO_eq (i : Nat) (mi me : ME) (ρ : MEnv) (S : Store) : mSetO i mi me ρ S = (me ρ S).bind fun d S1 => (mi ρ S1).bind fun k S2 => (match ρ[i]?, k with
  | some (some (.own (.lst l))), .int j => (match ixN l.length j with
    | some m => .ok (.nx (ρ.set i (some (.own (.lst (l.set m d)))))) S2
    | none => .bad)
  | _, _ => .bad) := rfl
@[simp] theorem oNone_eq (ρ : MEnv) (S : Store) : oNone ρ S = .ok none S := rfl
@[simp] theorem oSome_eq (m : ME) (ρ : MEnv) (S : Store) : oSome m ρ S = (m ρ S).bind fun d S1 => (match d with
  | .int j => .ok (some j) S1
  | _ => .bad) := rfl
@[simp] theorem mSlT_eq (me : ME) (ml mh : MO) (ρ : MEnv) (S : Store) : mSlT me ml mh ρ S = (me ρ S).bind fun d S1 => (ml ρ S1).bind fun lo S2 => (mh ρ S2).bind fun hi S3 => (match d with
  | .tup l => .ok (.tup (cutD l lo hi)) S3
  | _ => .bad) := rfl
@[simp] theorem mSlQ_eq (me : ML) (ml mh : MO) (ρ : MEnv) (S : Store) : mSlQ me ml mh ρ S = (me ρ S).bind fun l S1 => (ml ρ S1).bind fun lo S2 => (mh ρ S2).bind fun hi S3 => .ok (cutD l lo hi) S3 := rfl
@[simp] theorem mTruQ_eq (m : ML) (ρ : MEnv) (S : Store) : mTruQ m ρ S = (m ρ S).bind fun l S1 => .ok (!l.isEmpty) S1 := rfl
/-! ### repr of numbers, truths, None, texts, too -/
def gReprV (d : D) (S : Store) : R D := match toP d with
  | some p => if shownOk p then .ok (.str p.shown) S else .bad
  | none => .bad
theorem cr_reprV (hg : X.A.guards = some []) (hu : X.A.units + 64 < cLine) : CallR X (.builtin "repr") (fun xs H Q => ∃ x p, xs = [x] ∧ Dp X.K H x p ∧ p.hasDict = false ∧ shownOk p ∧ Q (.str p.shown) H) := by
  intro pins s σ H xs us Q I r h
  obtain ⟨x, p, rfl, hd, nd, ⟨h1, h2, h3⟩, q⟩ := h
  cases hd with
  | non =>
    obtain ⟨u, rfl, hu'⟩ := vals1 r
    cases (show u = Value.none from hu')
    exact PySem.P.repr_of_none ⟨.str _, H, I.tok _, ⟨_, rfl⟩, by simpa only [PyData.shown] using q⟩
  | bl b =>
    obtain ⟨u, rfl, hu'⟩ := vals1 r
    cases (show u = Value.bool b from hu')
    exact PySem.P.repr_of_bool ⟨.str _, H, I.tok _, ⟨_, rfl⟩, by simpa only [PyData.shown] using q⟩
  | int i =>
    obtain ⟨u, rfl, t, rfl⟩ := vals1 r
    exact PySem.P.repr_of_int (by simpa [PyData.showable] using h1) ⟨.str _, H, I.tok _, ⟨_, rfl⟩, by simpa only [PyData.shown] using q⟩
  | str x =>
    obtain ⟨u, rfl, t, rfl⟩ := vals1 r
    exact PySem.P.repr_of_str ⟨.str _, H, I.tok _, ⟨_, rfl⟩, by simpa only [PyData.shown] using q⟩ (by simpa only [PyData.shown] using h3)
  | lst a b => exact cr_repr hg hu pins s σ H _ us Q I r ⟨_, _, rfl, .lst a b, nd, ⟨h1, h2, h3⟩, q⟩
  | tup a b => exact cr_repr hg hu pins s σ H _ us Q I r ⟨_, _, rfl, .tup a b, nd, ⟨h1, h2, h3⟩, q⟩
theorem em_reprV {e : Expr} {me : ME} {p pos : Pos} (hgd : X.A.guards = some []) (hu : X.A.units + 64 < cLine) (h : EM X e me) (hg : Gl X "repr") (hm : X.mg "repr" = none) (hb : bootBuiltins "repr" = some (.builtin "repr") := by decide +kernel) (hs : starEach [e] X.env = (false, eval e X.env) :: starEach [] X.env := by rfl) (hpl : (backTo pos (starEach [] X.env)).any (·.1) = false := by rfl) :
    EM X (.Call (.Name "repr" p) [e] [] pos) (mB1 gReprV me) :=
  PE.of (pe_callB (cr_reprV hgd hu) hg hm hb (b1 h hs) (by decide) (by decide) hs hpl) fun σ H Q ⟨g, w, o, ρ, S, d, S', s, hm, q⟩ => by
    obtain ⟨d1, S1, h1, h2⟩ := R.bind_ok hm
    refine ⟨g, w, o, ρ, S, d1, S1, s, h1, fun v g1 H1 x1 s1 r1 => ?_⟩
    unfold gReprV at h2
    split at h2
    · rename_i pd hp
      split at h2
      · rename_i hok
        cases h2
        exact ⟨v, pd, rfl, RelD.dp _ _ _ r1 hp, toP_noDict _ _ hp, hok, q _ g1 H1 x1 s1 rfl⟩
      · cases h2
    · cases h2
theorem gReprV_ok {d : D} {p : PyData} {S : Store} (hp : toP d = some p) (h : shownOk p) : gReprV d S = .ok (.str p.shown) S := by
  unfold gReprV
  rw [hp]
  dsimp only
  rw [if_pos h]
/-! ### bounds as truths, so that nobody reckons with great numbers unasked -/
def b62 : Int → Bool
  | .ofNat n => Nat.ble n 4611686018427387903
  | .negSucc n => Nat.ble n 4611686018427387903
theorem b62_iff (j : Int) : b62 j = true ↔ (-(2 ^ 62) ≤ j ∧ j < 2 ^ 62) := by
  cases j with
  | ofNat n =>
    show Nat.ble n 4611686018427387903 = true ↔ _
    rw [Nat.ble_eq, Int.ofNat_eq_natCast]
    constructor
    · intro h; exact ⟨by omega, by omega⟩
    · intro h; omega
  | negSucc n =>
    show Nat.ble n 4611686018427387903 = true ↔ _
    rw [Nat.ble_eq]
    constructor
    · intro h; exact ⟨by omega, by omega⟩
    · intro h; omega
def iRg1 (l : MA) : ML := fun ρ S => (l ρ S).bind fun ds S1 => match ds with
  | [.int j] => if b62 j = true then .ok (rangeD 0 j) S1 else .bad
  | _ => .bad
def iRg2 (l : MA) : ML := fun ρ S => (l ρ S).bind fun ds S1 => match ds with
  | [.int i, .int j] => if b62 i = true ∧ b62 j = true then .ok (rangeD i j) S1 else .bad
  | _ => .bad
theorem iRg1_old (l : MA) : iRg1 l = iRange1 l := by
  funext ρ S
  unfold iRg1 iRange1
  congr 1
  funext ds S1
  split
  · rename_i j
    by_cases h : b62 j = true
    · rw [if_pos h]; exact (if_pos ((b62_iff j).mp h)).symm
    · rw [if_neg h]; exact (if_neg fun c => h ((b62_iff j).mpr c)).symm
  · rename_i h
    first
      | rfl
      | (split
         · rename_i j; exact absurd rfl (h j)
         · rfl)
theorem iRg2_old (l : MA) : iRg2 l = iRange2 l := by
  funext ρ S
  unfold iRg2 iRange2
  congr 1
  funext ds S1
  split
  · rename_i i j
    by_cases h : b62 i = true ∧ b62 j = true
    · rw [if_pos h]; exact (if_pos ⟨((b62_iff i).mp h.1).1, ((b62_iff i).mp h.1).2, (b62_iff j).mp h.2⟩).symm
    · rw [if_neg h]; exact (if_neg fun c => h ⟨(b62_iff i).mpr ⟨c.1, c.2.1⟩, (b62_iff j).mpr c.2.2⟩).symm
  · rename_i h
    first
      | rfl
      | (split
         · rename_i i j; exact absurd rfl (h i j)
         · rfl)
theorem im_rg1 {tg a : Expr} {l : MA} {p pos : Pos} (hg : Gl X "range") (hm : X.mg "range" = none) (ha : AM X [a] l) (hs : starEach [a] X.env = [(false, eval a X.env)] := by rfl) : IM X tg (.Call (.Name "range" p) [a] [] pos) (iRg1 l) := by
  rw [iRg1_old]; exact im_range1 hg hm ha hs
theorem im_rg2 {tg a b : Expr} {l : MA} {p pos : Pos} (hg : Gl X "range") (hm : X.mg "range" = none) (ha : AM X [a, b] l) (hs : starEach [a, b] X.env = [(false, eval a X.env), (false, eval b X.env)] := by rfl)
    (hs2 : starEach [b] X.env = [(false, eval b X.env)] := by rfl) : IM X tg (.Call (.Name "range" p) [a, b] [] pos) (iRg2 l) := by
  rw [iRg2_old]; exact im_range2 hg hm ha hs hs2
@[simp] theorem iRg1_eq (l : MA) (ρ : MEnv) (S : Store) : iRg1 l ρ S = (l ρ S).bind fun ds S1 => (match ds with
  | [.int j] => if b62 j = true then .ok (rangeD 0 j) S1 else .bad
  | _ => .bad) := rfl
@[simp] theorem iRg2_eq (l : MA) (ρ : MEnv) (S : Store) : iRg2 l ρ S = (l ρ S).bind fun ds S1 => (match ds with
  | [.int i, .int j] => if b62 i = true ∧ b62 j = true then .ok (rangeD i j) S1 else .bad
  | _ => .bad) := rfl
def b63 : Int → Bool
  | .ofNat n => Nat.ble n 9223372036854775807
  | .negSucc n => Nat.ble n 9223372036854775807
theorem b63_iff (j : Int) : b63 j = true ↔ (-(2 ^ 63) ≤ j ∧ j < 2 ^ 63) := by
  cases j with
  | ofNat n =>
    show Nat.ble n 9223372036854775807 = true ↔ _
    rw [Nat.ble_eq, Int.ofNat_eq_natCast]
    constructor
    · intro h; exact ⟨by omega, by omega⟩
    · intro h; omega
  | negSucc n =>
    show Nat.ble n 9223372036854775807 = true ↔ _
    rw [Nat.ble_eq]
    constructor
    · intro h; exact ⟨by omega, by omega⟩
    · intro h; omega
/-- list * n -/
def gRp : D → D → Store → R (List D)
  | .lst l, .int k, S => if b63 k = true ∧ l.length * k.toNat ≤ sizeLine then .ok (List.replicate k.toNat l).flatten S else .bad
  | _, _, _ => .bad
theorem gRp_old : gRp = gRep := by
  funext x y S
  unfold gRp gRep
  split
  · rename_i l k
    by_cases h : b63 k = true ∧ l.length * k.toNat ≤ sizeLine
    · rw [if_pos h]; exact (if_pos ⟨((b63_iff k).mp h.1).1, ((b63_iff k).mp h.1).2, h.2⟩).symm
    · rw [if_neg h]; exact (if_neg fun c => h ⟨(b63_iff k).mpr ⟨c.1, c.2.1⟩, c.2.2⟩).symm
  · rename_i h
    first
      | rfl
      | (split
         · rename_i l k; exact absurd rfl (h l k rfl)
         · rfl)
theorem nm_rp {a b : Expr} {ma mb : ME} {pos : Pos} (ha : EM X a ma) (hb : EM X b mb) : NM X (.BinOp a .Mult b pos) (n2 gRp ma mb) := by rw [gRp_old]; exact nm_rep ha hb
end
end Mo
set_option maxRecDepth 100000
set_option maxHeartbeats 1000000
/-! Mo: tuple * n. -/
namespace Mo
open PySem PySem.Spec PyProof.Rows L2
section
variable {K : PySem.W.Frag} {g f : List Addr} {H : Hp}
theorem RelDs.reps {l : List D} {vs : List V} (r : RelDs K g f H l vs) : ∀ n : Nat, RelDs K g f H (List.replicate n l).flatten (List.replicate n vs).flatten
  | 0 => rfl
  | n + 1 => by
    rw [List.replicate_succ, List.replicate_succ, List.flatten_cons, List.flatten_cons]
    exact RelDs.append r (RelDs.reps r n)
/-- a tuple * n -/
def gRpT : G2 := fun x y S => match x, y with
  | .tup (d :: l), .int k => if (decide (2 ≤ k) && decide (k ≤ 1000) && decide ((d :: l).length ≤ 1000)) = true then .ok (.tup (List.replicate k.toNat (d :: l)).flatten) S else .bad
  | _, _ => .bad
theorem od_rpT : OpD K (rRepT K) gRpT := by
  intro g f H S dx dy d S' x y Q s rx ry hm q
  unfold gRpT at hm
  split at hm
  · rename_i d0 l k
    split at hm
    · rename_i hc
      rw [Bool.and_eq_true, Bool.and_eq_true, decide_eq_true_eq, decide_eq_true_eq, decide_eq_true_eq] at hc
      cases hm
      obtain ⟨a, vs, rfl, hq, r⟩ := rx
      cases ry
      have hl := r.length
      refine ⟨a, k, vs, rfl, rfl, hq, fun e => ?_, hc.1.1, hc.1.2, by rw [← hl]; exact hc.2, fun p hp => ?_⟩
      · rw [e] at hl; cases hl
      · exact q _ g _ (.new hp) (s.new hp) ⟨p, _, rfl, .inl (.inl upd_same), RelDs.ext (.new hp) _ _ (RelDs.reps r _)⟩
    · cases hm
  · cases hm
end
/-! ### several names at once, cells among them, any number -/
section
variable {X : Cx}
theorem RelSl.new {K : PySem.W.Frag} {g f : List Addr} {H : Hp} {p : Addr} {u : HO} (h : H p = none) : ∀ (ss : List Slot) (vs : List V) (ns : List Addr), RelSl K g f H ss vs ns → RelSl K g f (upd H p u) ss vs ns
  | [], _, _, r => r
  | .val d :: ss, _, ns, ⟨v, vr, e, r, t⟩ => ⟨v, vr, e, RelD.ext (.new h) d v r, RelSl.new h ss vr ns t⟩
  | .own c :: ss, _, _, ⟨a, vr, nr, e, en, r, t⟩ => ⟨a, vr, nr, e, en, r.new h, RelSl.new h ss vr nr t⟩
def gNames : List Nat → TGs
  | [] => gNil
  | i :: is => gCons (gName i) (gNames is)
theorem gNames_of : ∀ (is : List Nat) (vs : List V) (σ : L2.St) (H : Hp) (Q : L2.St → Hp → Prop), vs.length = is.length → Q (setV σ (is.zip vs)) H → gNames is vs σ H Q
  | [], [], σ, H, Q, _, h => ⟨rfl, h⟩
  | i :: is, v :: vs, σ, H, Q, hl, h => ⟨v, vs, rfl, gNames_of is vs _ H Q (by simpa using hl) h⟩
  | [], _ :: _, _, _, _, hl, _ => by simp at hl
  | _ :: _, [], _, _, _, hl, _ => by simp at hl
theorem sm_parG {st : Stmt} {is : List Nat} {n : Nat} {m : MSl} (h : PS X st (tAsg (tTup (tSl X.K m)) (gTup X.K n (gNames is)))) (hn : is.length = n := by rfl) (hz : (decide (is.length ≤ 1000)) = true := by rfl) : SM X st (mPar is m) := PS.of h fun E σ H ⟨g, w, o, ρ, S, fl, S', s, hm, q⟩ => by
  obtain ⟨ss, S1, h1, hm⟩ := R.bind_ok hm
  split at hm
  · rename_i hl
    cases hm
    refine ⟨g, w, o, ρ, S, ss, _, s, h1, fun vs ns g1 H1 x1 st hns nd rs => ?_⟩
    have go : ∀ {f : List Addr} (ss : List Slot) (vs : List V) (ns : List Addr), RelSl X.K g1 f H1 ss vs ns → vs.length = ss.length := by
      intro f ss
      induction ss with
      | nil => intro vs ns h; rw [h.1]; rfl
      | cons c ss ih =>
        intro vs ns h
        cases c with
        | val d => obtain ⟨v, vr, e, _, t⟩ := h; rw [e, List.length_cons, List.length_cons, ih _ _ t]
        | own c => obtain ⟨a, vr, nr, e, _, _, t⟩ := h; rw [e, List.length_cons, List.length_cons, ih _ _ t]
    have hv : vs.length = is.length := by rw [hl]; exact go ss vs ns rs
    refine ⟨by rw [hv]; exact small_le (by have := of_decide_eq_true hz; omega), fun p hp => ⟨p, vs, rfl, .inl (.inl upd_same), by rw [hv]; exact hn, gNames_of is vs σ _ _ hv ?_⟩⟩
    have st2 := st.ext (.new hp) (st.sto.new hp (u := .tup vs))
    refine q g1 (o ++ ns) _ ?_ _ (Sta.setSl is ss vs ns ρ σ st2 (fun p hp => List.mem_append_right _ hp) nd (fun p hp j c hj e => ?_) (RelSl.new hp ss vs ns rs) hl)
    · refine ExtS.trans (o1 := o ++ ns) ⟨x1.more, fun a u h n _ => x1.keep a u h n, x1.live, x1.tups, x1.frz, fun a h => ?_⟩ (Ext.s (.new hp))
      rcases List.mem_append.mp h with m | m
      · exact .inl m
      · exact .inr (hns a m)
    · obtain ⟨a, e1, m, _⟩ := s.own j c hj
      rw [e] at e1; cases e1
      exact s.liv p (List.mem_append_right _ m) (hns p hp)
  · cases hm
end
end Mo
set_option maxRecDepth 100000
set_option maxHeartbeats 1000000
/-! Mo: dicts whose keys are tuples of numbers, of any depth. -/
namespace Mo
open PySem PySem.Spec PyProof.Rows L2
mutual
/-- data as a key -/
def convN : D → Option NestedKey
  | .non => some .none
  | .int i => some (.num i)
  | .tup l => (convNs l).map .tup
  | .bl _ | .str _ | .lst _ | .loc _ | .raw _ | .scr _ | .ex _ _ _ => none
def convNs : List D → Option (List NestedKey)
  | [] => some []
  | d :: ds => match convN d, convNs ds with
    | some k, some ks => some (k :: ks)
    | _, _ => none
end
mutual
theorem convN_key : ∀ {d : D} {k : NestedKey}, convN d = some k → d = dKey k ∧ calm k = true
  | .non, k, h => by rw [convN] at h; cases h; exact ⟨by rw [dKey], by rw [calm]⟩
  | .int i, k, h => by rw [convN] at h; cases h; exact ⟨by rw [dKey], by rw [calm]⟩
  | .tup l, k, h => by
    rw [convN] at h
    obtain ⟨ks, h1, rfl⟩ := Option.map_eq_some_iff.mp h
    obtain ⟨i1, i2⟩ := convNs_keys h1
    exact ⟨by rw [dKey, i1], by rw [calm, i2]⟩
  | .bl _, _, h | .str _, _, h | .lst _, _, h | .loc _, _, h | .raw _, _, h | .scr _, _, h | .ex _ _ _, _, h => by rw [convN] at h; cases h
theorem convNs_keys : ∀ {l : List D} {ks : List NestedKey}, convNs l = some ks → l = dKeys ks ∧ calms ks = true
  | [], ks, h => by rw [convNs] at h; cases h; exact ⟨by rw [dKeys], by rw [calms]⟩
  | d :: ds, ks, h => by
    rw [convNs] at h
    cases e1 : convN d with
    | none => simp only [e1] at h; cases h
    | some k1 =>
      cases e2 : convNs ds with
      | none => simp only [e1, e2] at h; cases h
      | some k2 =>
        simp only [e1, e2] at h
        cases h
        obtain ⟨i1, i2⟩ := convN_key e1
        obtain ⟨i3, i4⟩ := convNs_keys e2
        exact ⟨by rw [dKeys, ← i1, ← i3], by rw [calms, i2, i4]; rfl⟩
end
/-- a tuple as a key -/
def keyT (d : D) : Option NestedKey := match convN d with
  | some (.tup ks) => if decide ((NestedKey.tup ks).depth ≤ 8) = true then some (.tup ks) else none
  | _ => none
theorem keyT_of {d : D} {k : NestedKey} (h : keyT d = some k) : d = dKey k ∧ calm k = true ∧ k.depth ≤ 8 ∧ ∃ ks, k = .tup ks := by
  unfold keyT at h
  split at h
  · rename_i ks e
    split at h
    · rename_i z
      cases h
      obtain ⟨i1, i2⟩ := convN_key e
      exact ⟨i1, i2, of_decide_eq_true z, ks, rfl⟩
    · cases h
  · cases h
section
variable {X : Cx} {pins : List (Addr × Obj)} {σ : L2.St} {H : Hp} {s : Shared} {g f : List Addr}
mutual
theorem key_is (I : Inv X pins σ H s) : ∀ (k : NestedKey) (v : V) (u : Value), RelD X.K g f H (dKey k) v → RelV v u → NestedIs s.heap k u
  | .none, v, u, h, r => by
    rw [dKey] at h
    obtain rfl : v = V.non := h
    cases r
    exact .none
  | .num i, v, u, h, r => by
    rw [dKey] at h
    obtain rfl : v = V.int i := h
    obtain ⟨t, rfl⟩ := r
    exact .int i t
  | .text x, v, u, h, r => by
    rw [dKey] at h
    obtain rfl : v = V.str x := h
    obtain ⟨t, rfl⟩ := r
    exact .text x t
  | .tup ks, v, u, h, r => by
    rw [dKey] at h
    obtain ⟨a, vs, rfl, q, rs⟩ := h
    obtain rfl : u = Value.ref a := r
    obtain ⟨its, h1, ⟨o, h2, h3, n, h4⟩, _⟩ := I.tuple q
    exact .tup h2 h3 h4 (keys_are I ks vs its rs h1)
theorem keys_are (I : Inv X pins σ H s) : ∀ (ks : List NestedKey) (vs : List V) (us : List Value), RelDs X.K g f H (dKeys ks) vs → Vals vs us → NestedAll s.heap ks us
  | [], vs, us, h, r => by
    rw [dKeys] at h
    obtain rfl : vs = [] := h
    cases r
    exact .nil
  | k :: ks, vs, us, h, r => by
    rw [dKeys] at h
    obtain ⟨v, r1, rfl, q, t⟩ := h
    cases r with
    | cons r2 r3 => exact .cons (key_is I k v _ q r2) (keys_are I ks r1 _ t r3)
end
theorem kal_all {K : PySem.W.Frag} : ∀ {l : List (NestedKey × D)} {xs : List NX}, RelKv K g f H (kdl l) (kal xs) → ∀ x ∈ xs, RelD K g f H (dKey x.1) (.ref x.2.1)
  | [], [], _, x, hx => nomatch hx
  | [], y :: ys, h, _, _ => by cases h
  | p :: l, [], h, x, hx => nomatch hx
  | p :: l, y :: ys, h, x, hx => by
    obtain ⟨v, r, e, q, t⟩ := h
    have e' : (y.1, V.ref y.2.1) :: kal ys = (p.1, v) :: r := e
    injection e' with e1 e2
    injection e1 with e3 e4
    subst e2
    rcases List.mem_cons.mp hx with z | hx
    · rw [z, e3, e4]; exact q
    · exact kal_all t x hx
theorem kAll_of {l : List (NestedKey × D)} {xs : List NX} {k : NestedKey} {b : Addr} (r : RelKv X.K g f H (kdl l) (kal xs)) (rk : RelD X.K g f H (dKey k) (.ref b)) : KAll X H xs k b :=
  fun _ _ _ I => ⟨fun x hx => key_is I x.1 _ _ (kal_all r x hx) rfl, key_is I k _ _ rk rfl⟩
theorem any_kvl (xs : List NX) (k : NestedKey) : ((kvl xs).any fun kv => decide (kv.1 = k)) = (xs.any fun x => decide (x.1 = k)) := by unfold kvl; rw [List.any_map]; rfl
theorem kvl_put (xs : List NX) (k : NestedKey) (b : Addr) (v : V) : kvl (putX xs k b v) = putK (kvl xs) k v := by
  unfold putX putK
  rw [any_kvl]
  split
  · unfold kvl
    rw [List.map_map, List.map_map]
    refine List.map_congr_left fun x _ => ?_
    show (_ : NestedKey × V) = _
    by_cases e : x.1 = k
    · simp [e]
    · simp [e]
  · unfold kvl; rw [List.map_append]; rfl
theorem kal_put (xs : List NX) (k : NestedKey) (b : Addr) (v : V) : kal (putX xs k b v) = if (xs.any fun x => decide (x.1 = k)) = true then kal xs else kal xs ++ [(k, V.ref b)] := by
  unfold putX
  split
  · unfold kal
    rw [List.map_map]
    refine List.map_congr_left fun x _ => ?_
    show (_ : NestedKey × V) = _
    by_cases e : x.1 = k
    · simp [e]
    · simp [e]
  · unfold kal; rw [List.map_append]; rfl
theorem kdl_put (l : List (NestedKey × D)) (k : NestedKey) (d : D) : kdl (putA l k d) = if (l.any fun x => decide (x.1 = k)) = true then kdl l else kdl l ++ [(k, dKey k)] := by
  unfold putA
  split
  · unfold kdl
    rw [List.map_map]
    refine List.map_congr_left fun x _ => ?_
    show (_ : NestedKey × D) = _
    by_cases e : x.1 = k
    · simp [e]
    · simp [e]
  · unfold kdl; rw [List.map_append]; rfl
/-- a dict of deep keys changes -/
theorem relT_put {K : PySem.W.Frag} {l : List (NestedKey × D)} {xs : List NX} {k : NestedKey} {b : Addr} {d : D} {v : V} (r1 : RelKv K g f H (kdl l) (kal xs)) (r2 : RelKv K g f H l (kvl xs)) (rk : RelD K g f H (dKey k) (.ref b)) (rv : RelD K g f H d v) :
    RelKv K g f H (kdl (putA l k d)) (kal (putX xs k b v)) ∧ RelKv K g f H (putA l k d) (kvl (putX xs k b v)) := by
  refine ⟨?_, by rw [kvl_put]; exact r2.put rv⟩
  rw [kal_put, kdl_put, ← any_kvl, r2.any]
  split
  · exact r1
  · exact r1.append rk
end
def dictT (S : Store) : D → Option (List (NestedKey × D))
  | .loc n => match S[n]? with
    | some (.dT l) => some l
    | _ => none
  | _ => none
theorem dictT_of {S : Store} {d : D} {l : List (NestedKey × D)} (h : dictT S d = some l) : ∃ n, d = .loc n ∧ S[n]? = some (.dT l) := by
  cases d with
  | loc n =>
    dsimp only [dictT] at h
    cases e : S[n]? with
    | none => rw [e] at h; cases h
    | some c =>
      rw [e] at h
      cases c with
      | dT l' => cases h; exact ⟨n, rfl, e⟩
      | lst _ => cases h
      | dK _ => cases h
      | dF _ => cases h
      | dG _ => cases h
  | _ => cases h
theorem keyT_ref {K : PySem.W.Frag} {g f : List Addr} {H : Hp} {d : D} {v : V} {k : NestedKey} (r : RelD K g f H d v) (h : keyT d = some k) : ∃ b, v = .ref b ∧ RelD K g f H (dKey k) (.ref b) := by
  obtain ⟨e, _, _, ks, rfl⟩ := keyT_of h
  subst e
  have r0 := r
  rw [dKey] at r
  obtain ⟨a, vs, rfl, _, _⟩ := r
  exact ⟨a, rfl, r0⟩
section
variable {X : Cx} {e a b o i : Expr} {me ma mb mk mx mv mo : ME} {pos p apos cpos : Pos}
def mNNew : ME := fun _ S => .ok (.loc S.length) (S ++ [.dT []])
theorem em_nnew : EM X (.Dict [] [] pos) mNNew := PE.of pe_nnew fun σ H Q ⟨g, w, o, ρ, S, d, S', s, hm, q⟩ => by
  cases hm
  intro p hp
  have x : Ext g H (g ++ [p]) (upd H p (ndO p [])) := ⟨⟨[p], rfl, fun b hb => by rw [List.mem_singleton.mp hb]; exact hp⟩, fun a u h _ => (Ext.new (g := []) hp).keep a u h (by simp), (Ext.new (g := []) hp).live, (Ext.new (g := []) hp).tups, (Ext.new (g := []) hp).frz⟩
  exact q _ (g ++ [p]) _ x (((s.sto.fresh hp).new hp).addG (s.sto.noG hp) (c := .dT []) ⟨[], upd_same, rfl, rfl⟩) ⟨p, rfl, by rw [← s.sto.len]; exact List.getElem?_concat_length⟩
/-- d[k] -/
def gNGet : G2 := fun x y S => match dictT S x, keyT y with
  | some l, some k => match valA l k with
    | some d => .ok d S
    | none => .bad
  | _, _ => .bad
theorem em_nget (hu : X.A.units + 64 < cLine) (ho : EM X o mo) (hi : EM X i mk) (hs : NoSl i) : EM X (.Subscript o i pos) (m2 gNGet mo mk) :=
  PE.of (pe_nget hu ho hi hs) fun σ H Q q => op_of (r := fun x y H Q => ∃ a b xs k v, x = .ref a ∧ y = .ref b ∧ H a = some (ndO a xs) ∧ KAll X H xs k b ∧ k.depth ≤ 8 ∧ valV (kvl xs) k = some v ∧ Q v H) (fun g f H S dx dy d S' x y Q s rx ry hm q => by
    unfold gNGet at hm
    split at hm
    · rename_i l k hl hk
      split at hm
      · rename_i d' hd
        cases hm
        obtain ⟨n, rfl, hn⟩ := dictT_of hl
        obtain ⟨a, ev, hg⟩ := rx
        obtain ⟨xs, hH, r1, r2⟩ := s.cel n _ a hn hg
        obtain ⟨v, hv, rv⟩ := (r2.val (k := k)).1 _ hd
        obtain ⟨b, eb, rk⟩ := keyT_ref ry hk
        exact ⟨a, b, xs, k, v, ev, eb, hH, kAll_of r1 rk, (keyT_of hk).2.2.1, hv, q.same s rv⟩
      · cases hm
    · cases hm) q
/-- k in d, k not in d -/
def gNIn (neg : Bool) : G2 := fun y x S => match dictT S x, keyT y with
  | some l, some k => .ok (.bl ((valA l k).isSome != neg)) S
  | _, _ => .bad
def rNIn (X : Cx) (neg : Bool) : R2 := fun y x H Q => ∃ a b xs k, x = .ref a ∧ y = .ref b ∧ H a = some (ndO a xs) ∧ KAll X H xs k b ∧ k.depth ≤ 8 ∧ Q (.bl ((valV (kvl xs) k).isSome != neg)) H
theorem op_nin (hu : X.A.units + 64 < cLine) : OpR X (compareOp .In) (rNIn X false) := by
  intro pins s σ H y x iv u Q I ry rx h
  obtain ⟨a, b, xs, k, ex, ey, hH, hk, kd, q2⟩ := h
  subst ex ey
  obtain rfl : u = Value.ref a := rx
  obtain rfl : iv = Value.ref b := ry
  obtain ⟨k1, k2⟩ := hk _ _ _ I
  exact n_in hu I hH k1 k2 kd fun s3 I3 => ⟨.bl (valV (kvl xs) k).isSome, H, I3, rfl, by simpa using q2⟩
theorem op_nnotin (hu : X.A.units + 64 < cLine) : OpR X (compareOp .NotIn) (rNIn X true) := by
  intro pins s σ H y x iv u Q I ry rx h
  obtain ⟨a, b, xs, k, ex, ey, hH, hk, kd, q2⟩ := h
  subst ex ey
  obtain rfl : u = Value.ref a := rx
  obtain rfl : iv = Value.ref b := ry
  obtain ⟨k1, k2⟩ := hk _ _ _ I
  exact n_notIn hu I hH k1 k2 kd fun s3 I3 => ⟨.bl (!(valV (kvl xs) k).isSome), H, I3, rfl, by simpa using q2⟩
theorem od_nin (neg : Bool) : OpD X.K (rNIn X neg) (gNIn neg) := fun g f H S dy dx d S' y x Q s ry rx hm q => by
  unfold gNIn at hm
  split at hm
  · rename_i l k hl hk
    cases hm
    obtain ⟨n, rfl, hn⟩ := dictT_of hl
    obtain ⟨a, ev, hg⟩ := rx
    obtain ⟨xs, hH, r1, r2⟩ := s.cel n _ a hn hg
    obtain ⟨b, eb, rk⟩ := keyT_ref ry hk
    refine ⟨a, b, xs, k, ev, eb, hH, kAll_of r1 rk, (keyT_of hk).2.2.1, ?_⟩
    have e : (valV (kvl xs) k).isSome = (valA l k).isSome := by
      cases hv : valA l k with
      | none => rw [(r2.val (k := k)).2 hv]; rfl
      | some d => obtain ⟨v, e, _⟩ := (r2.val (k := k)).1 d hv; rw [e]; rfl
    rw [e]
    exact q.same s rfl
  · cases hm
/-- d.get(k), d.get(k, x) -/
def mNGet1 (md mk : ME) : ME := fun ρ S => (md ρ S).bind fun c S1 => match dictT S1 c with
  | none => .bad
  | some _ => (mk ρ S1).bind fun y S2 => match dictT S2 c, keyT y with
    | some l, some k => .ok ((valA l k).getD .non) S2
    | _, _ => .bad
theorem em_nget1 (hu : X.A.units + 64 < cLine) (ho : EM X o mo) (he : EM X e mk) (m : M1 X o "get" apos e cpos) : EM X (.Call (.Attribute o "get" apos) [e] [] cpos) (mNGet1 mo mk) :=
  PE.of (pe_nget1 hu ho he m) fun σ H Q ⟨g, w, o, ρ, S, d, S', s, hm, q⟩ => by
    obtain ⟨c, S1, h1, hm⟩ := R.bind_ok hm
    split at hm
    · cases hm
    rename_i l0 hl0
    obtain ⟨y, S2, h2, hm⟩ := R.bind_ok hm
    split at hm
    · rename_i l k hl hk
      cases hm
      obtain ⟨n, rfl, hn0⟩ := dictT_of hl0
      obtain ⟨n', en, hn⟩ := dictT_of hl
      cases en
      refine ⟨g, w, o, ρ, S, _, S1, s, h1, fun vc g1 H1 x1 s1 ⟨a, ev, hg⟩ => ?_⟩
      obtain ⟨xs0, hH0, _, _⟩ := s1.cel n _ a hn0 hg
      refine ⟨a, ev, ⟨xs0, hH0⟩, ?_⟩
      have t1 := s.ext x1 s1
      refine ⟨g1, w, o, ρ, S1, y, _, t1, h2, fun vy g2 H2 x2 s2 r2 => ?_⟩
      obtain ⟨xs, hH, q1, q2⟩ := s2.cel n _ a hn (x2.get hg)
      obtain ⟨b, eb, rk⟩ := keyT_ref r2 hk
      refine ⟨b, xs, k, eb, hH, kAll_of q1 rk, (keyT_of hk).2.2.1, q _ g2 H2 (x1.trans x2) s2 ?_⟩
      cases hv : valA l k with
      | none => rw [(q2.val (k := k)).2 hv]; rfl
      | some d => obtain ⟨v, e, rv⟩ := (q2.val (k := k)).1 d hv; rw [e]; exact rv
    · cases hm
def mNGet2 (md mk mx : ME) : ME := fun ρ S => (md ρ S).bind fun c S1 => match dictT S1 c with
  | none => .bad
  | some _ => (mk ρ S1).bind fun y S2 => (mx ρ S2).bind fun z S3 => match dictT S3 c, keyT y with
    | some l, some k => .ok ((valA l k).getD z) S3
    | _, _ => .bad
theorem em_nget2 {f : Expr} (hu : X.A.units + 64 < cLine) (ho : EM X o mo) (he : EM X e mk) (hf : EM X f mx) (m : M2 X o "get" apos e f cpos) : EM X (.Call (.Attribute o "get" apos) [e, f] [] cpos) (mNGet2 mo mk mx) :=
  PE.of (pe_nget2 hu ho he hf m) fun σ H Q ⟨g, w, o, ρ, S, d, S', s, hm, q⟩ => by
    obtain ⟨c, S1, h1, hm⟩ := R.bind_ok hm
    split at hm
    · cases hm
    rename_i l0 hl0
    obtain ⟨y, S2, h2, hm⟩ := R.bind_ok hm
    obtain ⟨z, S3, h3, hm⟩ := R.bind_ok hm
    split at hm
    · rename_i l k hl hk
      cases hm
      obtain ⟨n, rfl, hn0⟩ := dictT_of hl0
      obtain ⟨n', en, hn⟩ := dictT_of hl
      cases en
      refine ⟨g, w, o, ρ, S, _, S1, s, h1, fun vc g1 H1 x1 s1 ⟨a, ev, hg⟩ => ?_⟩
      obtain ⟨xs0, hH0, _, _⟩ := s1.cel n _ a hn0 hg
      refine ⟨a, ev, ⟨xs0, hH0⟩, ?_⟩
      have t1 := s.ext x1 s1
      refine ⟨g1, w, o, ρ, S1, y, S2, t1, h2, fun vy g2 H2 x2 s2 r2 => ?_⟩
      refine ⟨g2, w, o, ρ, S2, z, _, t1.ext x2 s2, h3, fun vz g3 H3 x3 s3 r3 => ?_⟩
      obtain ⟨xs, hH, q1, q2⟩ := s3.cel n _ a hn ((x2.trans x3).get hg)
      obtain ⟨b, eb, rk⟩ := keyT_ref (RelD.ext x3 _ _ r2) hk
      refine ⟨b, xs, k, eb, hH, kAll_of q1 rk, (keyT_of hk).2.2.1, q _ g3 H3 ((x1.trans x2).trans x3) s3 ?_⟩
      cases hv : valA l k with
      | none => rw [(q2.val (k := k)).2 hv]; exact r3
      | some d => obtain ⟨v, e, rv⟩ := (q2.val (k := k)).1 d hv; rw [e]; exact rv
    · cases hm
/-- d[k] = v -/
def putT (c y d : D) (S : Store) : Option Store := match c with
  | .loc n => match dictT S (.loc n), keyT y with
    | some l, some k => if l.length < sizeLine then some (S.set n (.dT (putA l k d))) else none
    | _, _ => none
  | _ => none
theorem putT_ok {c y d : D} {S S' : Store} (h : putT c y d S = some S') : ∃ n l k, c = .loc n ∧ S[n]? = some (.dT l) ∧ keyT y = some k ∧ l.length < sizeLine ∧ S' = S.set n (.dT (putA l k d)) := by
  cases c with
  | loc n =>
    dsimp only [putT] at h
    cases e1 : dictT S (.loc n) with
    | none => rw [e1] at h; cases h
    | some l =>
      cases e2 : keyT y with
      | none => rw [e1, e2] at h; cases h
      | some k =>
        rw [e1, e2] at h
        dsimp only at h
        split at h
        · rename_i hz
          cases h
          obtain ⟨n', en, hn⟩ := dictT_of e1
          cases en
          exact ⟨n, l, k, rfl, hn, rfl, hz, rfl⟩
        · cases h
  | _ => cases h
theorem updT {K : PySem.W.Frag} {g f : List Addr} {H : Hp} {a b : Addr} {l : List (NestedKey × D)} {xs : List NX} {k : NestedKey} {d : D} {v : V} (mD : Mut (H a)) (gD : a ∈ g) (r1 : RelKv K g f H (kdl l) (kal xs)) (r2 : RelKv K g f H l (kvl xs)) (rk : RelD K g f H (dKey k) (.ref b)) (rv : RelD K g f H d v) :
    RelC K g f (upd H a (ndO a (putX xs k b v))) a (.dT (putA l k d)) := by
  obtain ⟨q1, q2⟩ := relT_put r1 r2 rk rv
  exact ⟨_, upd_same, RelKv.upd mD (.inr gD) _ _ q1, RelKv.upd mD (.inr gD) _ _ q2⟩
def mNPut (md mk mv : ME) : MS := fun ρ S => (mv ρ S).bind fun d S1 => (md ρ S1).bind fun c S2 => (mk ρ S2).bind fun y S3 => match putT c y d S3 with
  | some S4 => .ok (.nx ρ) S4
  | none => .bad
theorem sm_nput {value : Expr} {pos' : Pos} (hu : X.A.units + 64 < cLine) (ho : EM X o mo) (hi : EM X i mk) (hv : EM X value mv) (hs : swapsWith value (some (.Subscript o i pos')) pos.line X.env = pure false := by rfl) :
    SM X (.Assign [.Subscript o i pos'] value pos) (mNPut mo mk mv) := PS.of (ps_nput hu ho hi hv hs) fun E σ H ⟨g, w, o, ρ, S, fl, S', s, hm, q⟩ => by
  obtain ⟨d, S1, h1, hm1⟩ := R.bind_ok hm
  obtain ⟨c, S2, h2, hm2⟩ := R.bind_ok hm1
  obtain ⟨y, S3, h3, hm3⟩ := R.bind_ok hm2
  split at hm3
  · rename_i S4 hp
    cases hm3
    obtain ⟨n, l, k, rfl, hn, hk, hz, rfl⟩ := putT_ok hp
    refine ⟨g, w, o, ρ, S, d, S1, s, h1, fun v g1 H1 x1 s1 r1 => ?_⟩
    have t1 := s.ext x1 s1
    refine ⟨g1, w, o, ρ, S1, _, S2, t1, h2, fun vc g2 H2 x2 s2 r2 => ?_⟩
    have t2 := t1.ext x2 s2
    refine ⟨g2, w, o, ρ, S2, y, S3, t2, h3, fun vy g3 H3 x3 s3 r3 => ?_⟩
    have t3 := t2.ext x3 s3
    obtain ⟨a, ea, hg⟩ := RelD.ext x3 _ _ r2
    obtain ⟨xs, hH, q1, q2⟩ := s3.cel n _ a hn hg
    have mD : Mut (H3 a) := by rw [hH]; trivial
    have gD : a ∈ g3 := List.mem_of_getElem? hg
    have rv := RelD.ext (x2.trans x3) d v r1
    obtain ⟨b, eb, rk⟩ := keyT_ref r3 hk
    obtain ⟨_, ck, kd, _⟩ := keyT_of hk
    refine ⟨a, b, xs, k, ea, eb, hH, kAll_of q1 rk, kd, ck, ?_, ?_⟩
    · have e1 := q2.length
      unfold kvl at e1
      rw [List.length_map] at e1
      omega
    · have x4 : Ext g3 H3 g3 (upd H3 a (ndO a (putX xs k b v))) := .updG mD gD
      have s4 := s3.updG (c := .dT (putA l k d)) (u := ndO a (putX xs k b v)) mD hg (updT mD gD q1 q2 rk rv)
      exact q g3 o _ (((x1.trans x2).trans x3).trans x4).s σ (t3.ext x4 s4)
  · cases hm3
/-- d.setdefault(k, x) -/
def setT (c y z : D) (S : Store) : R D := match c with
  | .loc n => match dictT S (.loc n), keyT y with
    | some l, some k => if l.length < sizeLine then (match valA l k with
      | some d => .ok d S
      | none => .ok z (S.set n (.dT (putA l k z)))) else .bad
    | _, _ => .bad
  | _ => .bad
theorem setT_ok {c y z d : D} {S S' : Store} (h : setT c y z S = .ok d S') : ∃ n l k, c = .loc n ∧ S[n]? = some (.dT l) ∧ keyT y = some k ∧ l.length < sizeLine ∧ ((valA l k = some d ∧ S' = S) ∨ (valA l k = none ∧ d = z ∧ S' = S.set n (.dT (putA l k z)))) := by
  cases c with
  | loc n =>
    dsimp only [setT] at h
    cases e1 : dictT S (.loc n) with
    | none => rw [e1] at h; cases h
    | some l =>
      cases e2 : keyT y with
      | none => rw [e1, e2] at h; cases h
      | some k =>
        rw [e1, e2] at h
        dsimp only at h
        split at h
        · rename_i hz
          obtain ⟨n', en, hn⟩ := dictT_of e1
          cases en
          refine ⟨n, l, k, rfl, hn, rfl, hz, ?_⟩
          cases e3 : valA l k with
          | some d' => rw [e3] at h; cases h; exact .inl ⟨rfl, rfl⟩
          | none => rw [e3] at h; cases h; exact .inr ⟨rfl, rfl, rfl⟩
        · cases h
  | _ => cases h
def mNSet (md mk mx : ME) : ME := fun ρ S => (md ρ S).bind fun c S1 => match dictT S1 c with
  | none => .bad
  | some _ => (mk ρ S1).bind fun y S2 => (mx ρ S2).bind fun z S3 => setT c y z S3
theorem em_nsetd {f : Expr} (hu : X.A.units + 64 < cLine) (ho : EM X o mo) (he : EM X e mk) (hf : EM X f mx) (m : M2 X o "setdefault" apos e f cpos) : EM X (.Call (.Attribute o "setdefault" apos) [e, f] [] cpos) (mNSet mo mk mx) :=
  PE.of (pe_nsetd hu ho he hf m) fun σ H Q ⟨g, w, o, ρ, S, d, S', s, hm, q⟩ => by
    obtain ⟨c, S1, h1, hm1⟩ := R.bind_ok hm
    split at hm1
    · cases hm1
    rename_i l0 hl0
    obtain ⟨y, S2, h2, hm2⟩ := R.bind_ok hm1
    obtain ⟨z, S3, h3, hm3⟩ := R.bind_ok hm2
    obtain ⟨n, l, k, rfl, hn, hk, hz, hor⟩ := setT_ok hm3
    obtain ⟨n0, en0, hn0⟩ := dictT_of hl0
    cases en0
    refine ⟨g, w, o, ρ, S, _, S1, s, h1, fun vc g1 H1 x1 s1 ⟨a, ev, hg⟩ => ?_⟩
    obtain ⟨xs0, hH0, _, _⟩ := s1.cel n _ a hn0 hg
    refine ⟨a, ev, ⟨xs0, hH0⟩, ?_⟩
    have t1 := s.ext x1 s1
    refine ⟨g1, w, o, ρ, S1, y, S2, t1, h2, fun vy g2 H2 x2 s2 r2 => ?_⟩
    refine ⟨g2, w, o, ρ, S2, z, S3, t1.ext x2 s2, h3, fun vz g3 H3 x3 s3 r3 => ?_⟩
    have hg3 := (x2.trans x3).get hg
    obtain ⟨xs, hH, q1, q2⟩ := s3.cel n _ a hn hg3
    have mD : Mut (H3 a) := by rw [hH]; trivial
    have gD : a ∈ g3 := List.mem_of_getElem? hg3
    obtain ⟨b, eb, rk⟩ := keyT_ref (RelD.ext x3 _ _ r2) hk
    obtain ⟨_, ck, kd, _⟩ := keyT_of hk
    have hlen : xs.length < sizeLine := by
      have e1 := q2.length
      unfold kvl at e1
      rw [List.length_map] at e1
      omega
    refine ⟨b, xs, k, eb, hH, kAll_of q1 rk, kd, ck, hlen, fun v hv => ?_, fun hv => ?_⟩
    · rcases hor with ⟨hva, rfl⟩ | ⟨hva, _, _⟩
      · obtain ⟨v', e', rv⟩ := (q2.val (k := k)).1 d hva
        rw [hv] at e'
        cases e'
        exact q v g3 H3 ((x1.trans x2).trans x3) s3 rv
      · rw [(q2.val (k := k)).2 hva] at hv; cases hv
    · rcases hor with ⟨hva, _⟩ | ⟨hva, rfl, rfl⟩
      · obtain ⟨v', e', rv⟩ := (q2.val (k := k)).1 d hva
        rw [hv] at e'; cases e'
      · have x4 : Ext g3 H3 g3 (upd H3 a (ndO a (putX xs k b vz))) := .updG mD gD
        have s4 := s3.updG (c := .dT (putA l k d)) (u := ndO a (putX xs k b vz)) mD hg3 (updT mD gD q1 q2 rk r3)
        exact q vz g3 _ (((x1.trans x2).trans x3).trans x4) s4 (RelD.ext x4 _ _ r3)
end
/-! what they give -/
@[simp] theorem mNNew_eq (ρ : MEnv) (S : Store) : mNNew ρ S = .ok (.loc S.length) (S ++ [.dT []]) := rfl
@[simp] theorem dictT_eq (S : Store) (n : Nat) : dictT S (.loc n) = (match S[n]? with | some (.dT l) => some l | _ => none) := rfl
@[simp] theorem mNGet1_eq (md mk : ME) (ρ : MEnv) (S : Store) : mNGet1 md mk ρ S = (md ρ S).bind fun c S1 => match dictT S1 c with
  | none => .bad
  | some _ => (mk ρ S1).bind fun y S2 => match dictT S2 c, keyT y with
    | some l, some k => .ok ((valA l k).getD .non) S2
    | _, _ => .bad := rfl
@[simp] theorem mNGet2_eq (md mk mx : ME) (ρ : MEnv) (S : Store) : mNGet2 md mk mx ρ S = (md ρ S).bind fun c S1 => match dictT S1 c with
  | none => .bad
  | some _ => (mk ρ S1).bind fun y S2 => (mx ρ S2).bind fun z S3 => match dictT S3 c, keyT y with
    | some l, some k => .ok ((valA l k).getD z) S3
    | _, _ => .bad := rfl
@[simp] theorem gNGet_eq (n : Nat) (y : D) (S : Store) : gNGet (.loc n) y S = (match dictT S (.loc n), keyT y with
  | some l, some k => match valA l k with
    | some d => .ok d S
    | none => .bad
  | _, _ => .bad) := rfl
@[simp] theorem gNIn_eq (neg : Bool) (n : Nat) (y : D) (S : Store) : gNIn neg y (.loc n) S = (match dictT S (.loc n), keyT y with
  | some l, some k => .ok (.bl ((valA l k).isSome != neg)) S
  | _, _ => .bad) := rfl
@[simp] theorem putT_eq (n : Nat) (y d : D) (S : Store) : putT (.loc n) y d S = (match dictT S (.loc n), keyT y with
    | some l, some k => if l.length < sizeLine then some (S.set n (.dT (putA l k d))) else none
    | _, _ => none) := rfl
@[simp] theorem setT_eq (n : Nat) (y z : D) (S : Store) : setT (.loc n) y z S = (match dictT S (.loc n), keyT y with
    | some l, some k => if l.length < sizeLine then (match valA l k with
      | some d => .ok d S
      | none => .ok z (S.set n (.dT (putA l k z)))) else .bad
    | _, _ => .bad) := rfl
@[simp] theorem mNPut_eq (md mk mv : ME) (ρ : MEnv) (S : Store) : mNPut md mk mv ρ S = (mv ρ S).bind fun d S1 => (md ρ S1).bind fun c S2 => (mk ρ S2).bind fun y S3 => match putT c y d S3 with
  | some S4 => .ok (.nx ρ) S4
  | none => .bad := rfl
@[simp] theorem mNSet_eq (md mk mx : ME) (ρ : MEnv) (S : Store) : mNSet md mk mx ρ S = (md ρ S).bind fun c S1 => match dictT S1 c with
  | none => .bad
  | some _ => (mk ρ S1).bind fun y S2 => (mx ρ S2).bind fun z S3 => setT c y z S3 := rfl
end Mo
set_option maxRecDepth 100000
set_option maxHeartbeats 1000000
/-! Mo: dict comprehensions, get of one argument, defaults of keyword-only parameters, constants of a module. -/
namespace Mo
open PySem PySem.Spec PyProof.Rows L2
def mDcL (p : Pat) (mt : MT) (mk me : ME) : List D → MEnv → Store → List (Key × D) → R (List (Key × D))
  | [], _, S, acc => .ok acc S
  | d :: ds, ρ, S, acc => match p.bind d with
    | none => .bad
    | some l => (mt (setD ρ l) S).bind fun k S1 => if k = true then (mk (setD ρ l) S1).bind fun y S2 => (me (setD ρ l) S2).bind fun z S3 => match keyD y with
        | some kk => if acc.length < sizeLine then mDcL p mt mk me ds ρ S3 (putA acc kk z) else .bad
        | none => .bad
      else mDcL p mt mk me ds ρ S1 acc
/-- {k: e for p in it if t}: a new dict of the store -/
def mDc (it : ML) (p : Pat) (vs : List Nat) (mt : MT) (mk me : ME) : ME := fun ρ S => (it ρ S).bind fun l S1 => (mDcL p mt mk me l (wipeM ρ vs) S1 []).bind fun r S2 => .ok (.loc S2.length) (S2 ++ [.dK r])
section
variable {X : Cx} {tg iter kx elt : Expr} {ifs : List Expr} {p : Pat} {pos : Pos} {ml : ML} {mt : MT} {mk me : ME}
theorem dc_of {vs : List Nat} {σ : L2.St} {H : Hp} {Q : VK} (hv : ∀ i ∈ p.ixs, i ∈ vs) (q : tE X.K (mDc ml p vs mt mk me) σ H Q) : tDc (tI X.K ml) (tG X.K p) (tM X.K mt) (tE X.K mk) (tE X.K me) vs σ H Q := by
  obtain ⟨g, w, o, ρ, S, res, S', s, hm, q⟩ := q
  obtain ⟨l, S1, h1, hm⟩ := R.bind_ok hm
  obtain ⟨r, S2, h2, hm⟩ := R.bind_ok hm
  cases hm
  refine ⟨g, w, o, ρ, S, l, S1, s, h1, fun g1 H1 J x1 s1 wk D hD => ?_⟩
  have st1 : Sta X.K g1 w o ρ S1 σ H1 := s.ext x1 s1
  have hHD : H D = none := by
    cases e : H D with
    | none => rfl
    | some u => exact absurd hD (x1.live D (by rw [e]; simp))
  have ea : w ++ (o ++ [D]) = (w ++ o) ++ [D] := (List.append_assoc w o [D]).symm
  have noOwn : ∀ (i : Nat) (c : Cell), (wipeM ρ vs)[i]? = some (some (Slot.own c)) → (wipe σ vs)[i]? ≠ some (some (V.ref D)) := fun i c h e => by
    obtain ⟨a, e1, m, _⟩ := (st1.wipe vs).own i c h
    rw [e] at e1; cases e1
    exact st1.liv D (List.mem_append_right _ m) hD
  have st2 : Sta X.K g1 w (o ++ [D]) (wipeM ρ vs) S1 (wipe σ vs) (upd H1 D (.dK [])) := by
    have a := st1.wipe vs
    refine ⟨a.len, fun i d h => ?_, fun i c h => ?_, a.inj, fun b m => ?_, fun b m => ?_, ?_⟩
    · obtain ⟨v, e1, r1⟩ := a.val i d h
      exact ⟨v, e1, by rw [ea]; exact RelD.ext (.new hD) d v (RelD.fresh hD d v r1)⟩
    · obtain ⟨b, e1, m, r1⟩ := a.own i c h
      exact ⟨b, e1, List.mem_append_left _ m, by rw [ea]; exact (r1.fresh hD).new hD⟩
    · rcases List.mem_append.mp m with m | m
      · exact a.out b m
      · rw [List.mem_singleton.mp m]
        exact ⟨s1.noG hD, fun z => st1.noF hD (List.mem_append_left _ z)⟩
    · rw [ea] at m
      by_cases e : b = D
      · subst e; rw [upd_same]; simp
      · rw [upd_ne e]
        rcases List.mem_append.mp m with m | m
        · exact a.liv b m
        · exact absurd (List.mem_singleton.mp m) e
    · rw [ea]; exact (s1.fresh hD).new hD
  refine ⟨fun i m H2 => m = l.length - i ∧ i ≤ l.length ∧ ∃ g2 S3 acc accD, Ext g1 H1 g2 H2 ∧ Sta X.K g2 w (o ++ [D]) (wipeM ρ vs) S3 (wipe σ vs) H2 ∧ H2 D = some (.dK acc) ∧ RelKv X.K g2 (w ++ (o ++ [D])) H2 accD acc ∧
      mDcL p mt mk me (l.drop i) (wipeM ρ vs) S3 accD = .ok r S2,
    ⟨l.length, by simp, Nat.zero_le _, g1, S1, [], [], .new hD, st2, upd_same, rfl, by simpa using h2⟩, ?_⟩
  rintro i m H2 ⟨rfl, hi, g2, S3, acc, accD, x2, s2, hacc, racc, hm⟩
  have xs : ExtS g1 o H1 g2 (o ++ [D]) H2 := .own x2 hD
  by_cases hlt : i < l.length
  · have hdr : l.drop i = l[i] :: l.drop (i + 1) := List.drop_eq_getElem_cons hlt
    obtain ⟨go, yl⟩ := wk.item i l[i] g2 (o ++ [D]) H2 (List.getElem?_eq_getElem hlt) xs
    rw [hdr] at hm
    unfold mDcL at hm
    split at hm
    · cases hm
    rename_i bl hbl
    obtain ⟨k, S4, h3, hm⟩ := R.bind_ok hm
    refine .inr ⟨go, fun H3 => ∃ g3 S3 acc accD, Ext g1 H1 g3 H3 ∧ Sta X.K g3 w (o ++ [D]) (wipeM ρ vs) S3 (wipe σ vs) H3 ∧ H3 D = some (.dK acc) ∧ RelKv X.K g3 (w ++ (o ++ [D])) H3 accD acc ∧
      mDcL p mt mk me (l.drop (i + 1)) (wipeM ρ vs) S3 accD = .ok r S2, fun H' n => ⟨l.length - (i + 1), by omega, rfl, hlt, n⟩, fun x H3 hy => ?_⟩
    obtain ⟨⟨x3, t3⟩, rx⟩ := yl x H3 hy
    have s3 := s2.ext x3 (t3 _ _ s2.sto)
    have racc3 := RelKv.ext x3 _ _ racc
    have nD : D ∉ g2 := (s2.out D (by simp)).1
    have hacc3 : H3 D = some (.dK acc) := x3.keep D _ hacc nD
    refine ⟨g2, w ++ (o ++ [D]), l[i], bl, rx, hbl, fun us ru => ⟨wipe_setV fun j hj => ?_, ?_⟩⟩
    · rw [ru.fst, p.bind_ixs _ _ hbl] at hj
      exact hv j hj
    refine ⟨g2, w, o ++ [D], _, S3, k, S4, s3.setA ru, h3, fun g4 H4 x4 s4 => ?_⟩
    have st4 := s3.ext x4 s4
    have racc4 := RelKv.ext x4 _ _ racc3
    have hacc4 : H4 D = some (.dK acc) := x4.keep D _ hacc3 nD
    have nD4 : D ∉ g4 := (st4.out D (by simp)).1
    have x14 := (x2.trans x3).trans x4
    cases k with
    | false =>
      rw [if_neg Bool.false_ne_true] at hm
      exact iteF ⟨g4, S4, acc, accD, x14, st4, hacc4, racc4, hm⟩
    | true =>
      rw [if_pos rfl] at hm
      obtain ⟨y, S5, h5, hm⟩ := R.bind_ok hm
      obtain ⟨z, S6, h6, hm⟩ := R.bind_ok hm
      split at hm
      · rename_i kk hkk
        split at hm
        · rename_i hz
          refine iteT ⟨g4, w, o ++ [D], _, S4, y, S5, (s3.setA ru).ext x4 s4, h5, fun v g5 H5 x5 s5 r5 => ?_⟩
          have st5 := st4.ext x5 s5
          refine ⟨g5, w, o ++ [D], _, S5, z, S6, ((s3.setA ru).ext x4 s4).ext x5 s5, h6, fun u g6 H6 x6 s6 r6 => ?_⟩
          have st6 := st5.ext x6 s6
          have x46 := x5.trans x6
          have hacc6 : H6 D = some (.dK acc) := x46.keep D _ hacc4 nD4
          have nD6 : D ∉ g6 := (st6.out D (by simp)).1
          have racc6 := RelKv.ext x46 _ _ racc4
          have mD : Mut (H6 D) := by rw [hacc6]; trivial
          have fD : D ∈ w ++ (o ++ [D]) := by simp
          refine ⟨acc, kk, keyD_rel r5 hkk, hacc6, by rw [← racc6.length]; exact hz, ?_⟩
          refine ⟨g6, S6, putK acc kk u, putA accD kk z, ?_, st6.updF mD fD nD6 noOwn, upd_same, RelKv.upd mD (.inl fD) _ _ (racc6.put r6), hm⟩
          have xx := x14.trans x46
          refine ⟨xx.more, fun a u e hn => ?_, fun a h => ?_, fun a vs h => ?_, fun a o u h => ?_⟩
          · have : a ≠ D := fun z => by subst z; rw [hD] at e; cases e
            rw [upd_ne this]; exact xx.keep a u e hn
          · by_cases z : a = D
            · subst z; rw [upd_same]; simp
            · rw [upd_ne z]; exact xx.live a h
          · have h' := xx.tups a vs h
            exact Rd.upd (Rd.mut (v := .tup vs) mD (fun z => z) h') h'
          · have h' := xx.frz a o u h
            have : a ≠ D := fun z => by subst z; rw [h'] at mD; exact mD
            rw [upd_ne this]; exact h'
        · cases hm
      · cases hm
  · have e : i = l.length := by omega
    subst e
    rw [List.drop_length] at hm
    cases hm
    refine .inl ⟨wk.stop _ g2 (o ++ [D]) H2 (Nat.le_refl _) xs, ?_⟩
    have nD : D ∉ g2 := (s2.out D (by simp)).1
    obtain ⟨ns, eg, hns⟩ := (x1.trans x2).more
    have x3 : Ext g H (g2 ++ [D]) H2 := ⟨⟨ns ++ [D], by rw [eg, List.append_assoc], fun b hb => by
      rcases List.mem_append.mp hb with z | z
      · exact hns b z
      · rw [List.mem_singleton.mp z]; exact hHD⟩, (x1.trans x2).keep, (x1.trans x2).live, (x1.trans x2).tups, (x1.trans x2).frz⟩
    have sto := s2.sto
    rw [ea] at sto racc
    exact q _ _ H2 x3 (sto.addG nD ⟨acc, hacc, racc⟩) ⟨D, rfl, by rw [← s2.sto.len]; exact List.getElem?_concat_length⟩
theorem em_dc {scope : Scope} {own : List (Str × Nat)} (hc : X.calm = true) (hN : X.N.Nodup) (hi : IM X tg iter ml) (ok : BlkOk X.N X.env.scope scope own) (hv : ∀ i ∈ p.ixs, i ∈ own.map (·.2))
    (hg : ∀ (s : Shared) (H : Hp) (C : Addr) (cl : List (Str × Addr)) (fp : List Addr), GM (X.blk s H scope (compEnvC scope cl C X.env) fp) tg p)
    (ht : ∀ (s : Shared) (H : Hp) (C : Addr) (cl : List (Str × Addr)) (fp : List Addr), TsM (X.blk s H scope (compEnvC scope cl C X.env) fp) ifs mt)
    (hk : ∀ (s : Shared) (H : Hp) (C : Addr) (cl : List (Str × Addr)) (fp : List Addr), EM (X.blk s H scope (compEnvC scope cl C X.env) fp) kx mk)
    (he : ∀ (s : Shared) (H : Hp) (C : Addr) (cl : List (Str × Addr)) (fp : List Addr), EM (X.blk s H scope (compEnvC scope cl C X.env) fp) elt me) (hs : ∀ x, foldedSetIterable iter X.env x = pure x := by intro _; rfl) :
    EM X (.DictComp kx elt [⟨tg, iter, ifs, 0⟩] scope pos) (mDc ml p (own.map (·.2)) mt mk me) :=
  PE.of (pe_dc (g := tG X.K p) (tt := tM X.K mt) (tk := tE X.K mk) (tv := tE X.K me) hc hN hi ok hg ht hk he hs) fun σ H Q q => dc_of hv q
end
end Mo
set_option maxRecDepth 100000
set_option maxHeartbeats 1000000
namespace Mo
open PySem PySem.Spec PyProof.Rows L2
section
variable {X : Cx} {e a b o i : Expr} {me ma mb mk mx mv mo : ME} {pos p apos cpos : Pos}
/-- d.get(k) -/
def mDGet1 (md mk : ME) : ME := fun ρ S => (md ρ S).bind fun c S1 => match dictR S1 c with
  | none => .bad
  | some _ => (mk ρ S1).bind fun y S2 => match dictR S2 c, keyD y with
    | some l, some k => .ok ((valA l k).getD .non) S2
    | _, _ => .bad
theorem em_dget1 (hu : X.A.units + 64 < cLine) (ho : EM X o mo) (he : EM X e mk) (m : M1 X o "get" apos e cpos) : EM X (.Call (.Attribute o "get" apos) [e] [] cpos) (mDGet1 mo mk) :=
  PE.of (pe_dget1 (by omega) ho he m) fun σ H Q ⟨g, w, o, ρ, S, d, S', s, hm, q⟩ => by
    obtain ⟨c, S1, h1, hm⟩ := R.bind_ok hm
    split at hm
    · cases hm
    rename_i l0 hl0
    obtain ⟨y, S2, h2, hm⟩ := R.bind_ok hm
    split at hm
    · rename_i l k hl hk
      cases hm
      obtain ⟨n, rfl, hn0⟩ := dictR_of hl0
      obtain ⟨n', en, hn⟩ := dictR_of hl
      cases en
      refine ⟨g, w, o, ρ, S, _, S1, s, h1, fun vc g1 H1 x1 s1 ⟨a, ev, hg⟩ => ?_⟩
      obtain ⟨kvs0, hH0, _⟩ := s1.rd hn0 hg
      refine ⟨a, ev, .inl ⟨kvs0, hH0⟩, ?_⟩
      have t1 := s.ext x1 s1
      refine ⟨g1, w, o, ρ, S1, y, _, t1, h2, fun vy g2 H2 x2 s2 r2 => ?_⟩
      obtain ⟨kvs, hH, r⟩ := s2.rd hn (x2.get hg)
      refine ⟨valV kvs k, ?_, q _ g2 H2 (x1.trans x2) s2 ?_⟩
      · rw [keyD_rel r2 hk]
        exact .inl ⟨kvs, k, hH, rfl, rfl⟩
      · cases hv : valA l k with
        | none => rw [(r.val (k := k)).2 hv]; rfl
        | some d => obtain ⟨v, e, rv⟩ := (r.val (k := k)).1 d hv; rw [e]; exact rv
    · cases hm
@[simp] theorem mDGet1_eq (md mk : ME) (ρ : MEnv) (S : Store) : mDGet1 md mk ρ S = (md ρ S).bind fun c S1 => match dictR S1 c with
  | none => .bad
  | some _ => (mk ρ S1).bind fun y S2 => match dictR S2 c, keyD y with
    | some l, some k => .ok ((valA l k).getD .non) S2
    | _, _ => .bad := rfl
end
/-! ### constants of a module -/
mutual
def KD (K : PySem.W.Frag) : D → Value → Prop
  | .non, u => u = .none
  | .bl b, u => u = .bool b
  | .int i, u => ∃ t, u = .int i t
  | .str x, u => ∃ t, u = .str x t
  | .tup l, u => ∃ (a : Addr) (ob : Obj) (its : Array Value) (n : Nat), u = .ref a ∧ K.lookup a = some ob ∧ ob.cls = .type "tuple" ∧ ob.data = .seq its n ∧ its.size ≤ sizeLine ∧ KDs K l its.toList
  | .lst _, _ | .loc _, _ | .raw _, _ | .scr _, _ | .ex _ _ _, _ => False
def KDs (K : PySem.W.Frag) : List D → List Value → Prop
  | [], us => us = []
  | d :: ds, us => ∃ u r, us = u :: r ∧ KD K d u ∧ KDs K ds r
end
mutual
theorem kd_rel {K : PySem.W.Frag} : ∀ {d : D} {u : Value}, KD K d u → ∃ v, RelV v u ∧ ∀ g f H, RelD K g f H d v
  | .non, u, h => by rw [KD] at h; subst h; exact ⟨.non, rfl, fun _ _ _ => rfl⟩
  | .bl b, u, h => by rw [KD] at h; subst h; exact ⟨.bl b, rfl, fun _ _ _ => rfl⟩
  | .int i, u, h => by rw [KD] at h; exact ⟨.int i, h, fun _ _ _ => rfl⟩
  | .str x, u, h => by rw [KD] at h; exact ⟨.str x, h, fun _ _ _ => rfl⟩
  | .tup l, u, h => by
    rw [KD] at h
    obtain ⟨a, ob, its, n, rfl, h1, h2, h3, h4, h5⟩ := h
    obtain ⟨vs, r1, r2⟩ := kds_rel h5
    exact ⟨.ref a, rfl, fun g f H => ⟨a, vs, rfl, .inr ⟨ob, its, n, h1, h2, h3, h4, r1⟩, r2 g f H⟩⟩
  | .lst _, _, h | .loc _, _, h | .raw _, _, h | .scr _, _, h | .ex _ _ _, _, h => by rw [KD] at h; exact h.elim
theorem kds_rel {K : PySem.W.Frag} : ∀ {l : List D} {us : List Value}, KDs K l us → ∃ vs, Vals vs us ∧ ∀ g f H, RelDs K g f H l vs
  | [], us, h => by rw [KDs] at h; subst h; exact ⟨[], .nil, fun _ _ _ => rfl⟩
  | d :: ds, us, h => by
    rw [KDs] at h
    obtain ⟨u, r, rfl, h1, h2⟩ := h
    obtain ⟨v, q1, q2⟩ := kd_rel h1
    obtain ⟨vs, q3, q4⟩ := kds_rel h2
    exact ⟨v :: vs, .cons q1 q3, fun g f H => ⟨v, vs, rfl, q2 g f H, q4 g f H⟩⟩
end
/-- a name of the module that stands for data -/
structure Cst (K : PySem.W.Frag) (mg : Str → Option Value) (x : Str) (d : D) : Prop where
  ex : ∃ u, mg x = some u ∧ KD K d u
theorem em_cst {X : Cx} {x : Str} {d : D} {pos : Pos} (c : Cst X.K X.mg x d) (hg : Gl X x) (hd : (x == ("__debug__" : Str)) = false := by decide) : EM X (.Name x pos) (mC d) := by
  obtain ⟨u, h1, h2⟩ := c.ex
  obtain ⟨v, r1, r2⟩ := kd_rel h2
  refine PE.of (pe_glob hg h1 r1 hd) fun σ H Q ⟨g, w, o, ρ, S, d', S', s, hm, q⟩ => ?_
  cases hm
  exact q v g H .refl s.sto (r2 _ _ _)
/-! ### keyword-only parameters with a default -/
/-- how names bind where the last parameters are not given -/
structure MixD (K : PySem.W.Frag) (fd : FuncData) (ps ks : List Str) (np : Nat) (ix : List Nat) (dv : List D) : Prop where
  ex : ∃ (dvs : List V) (dws : List Value), Vals dvs dws ∧ (∀ K g f H, RelDs K g f H dv dvs) ∧
    ∀ (s : Shared) (us ws : List Value), K.In s.heap → us.length = np → ws.length = ks.length → BindsTo s fd ⟨us, ks.zip ws⟩ (ps.zip (pickIx ix us ws ++ dws))
def mCallD (m : MF) (n np nk : Nat) (ix : List Nat) (dv : List D) (l lk : MA) : ME := fun ρ S => (l ρ S).bind fun ds S1 => (lk ρ S1).bind fun es S2 =>
  if ds.length = np ∧ es.length = nk ∧ (pickIx ix ds es ++ dv).length = n then m (pickIx ix ds es ++ dv) S2 else .bad
section
variable {X : Cx} {k n : Nat} {a : Addr} {fd : FuncData} {ps : List Str} {x : Str} {p pos : Pos} {e : Expr} {es : List Expr} {l : MA} {m : MF} {dv : List D}
variable {kws : List Keyword} {ks : List Str} {lk : MA} {np : Nat} {ix : List Nat}
theorem em_ownD (C : Own X.prog X.w X.K X.mg X.base k n x ps a fd m) (B : MixD X.K fd ps ks np ix dv) (hgd : X.A.guards = some []) (hr : Room k X.A) (hg : Gl X x) (ha : AM X (e :: es) l) (hkw : KM X kws lk) (hall : (backToKw pos (keywordEach kws X.env)).all (·.1.isSome) = true := by rfl)
    (hks : (backToKw pos (keywordEach kws X.env)).filterMap (·.1) = ks := by rfl) (hdb : (x == ("__debug__" : Str)) = false := by decide) (he : starEach (e :: es) X.env = (false, eval e X.env) :: starEach es X.env := by rfl)
    (hpl : ((backTo pos (starEach (e :: es) X.env)).any (·.1) || (backToKw pos (keywordEach kws X.env)).any (·.1.isNone)) = false := by rfl) : EM X (.Call (.Name x p) (e :: es) kws pos) (mCallD m n np ks.length ix dv l lk) := by
  obtain ⟨dvs, dws, hv, hdd, hb⟩ := B.ex
  refine ⟨fun pins s σ H Q I ⟨g, w, o, ρ, S, d, S', st, hq, q⟩ => ?_⟩
  obtain ⟨ds, S1, h1, hq⟩ := R.bind_ok hq
  obtain ⟨ds2, S2, h2, hq⟩ := R.bind_ok hq
  split at hq
  · rename_i hl
    obtain ⟨l1, l2, l3⟩ := hl
    refine wpAny_Call_Name_kw (ld_glob I hg C.at_ (PySem.W.callWith_KW (h₀ := X.base) I.ok.mod.kin C.kp hall ?_ hpl he) hdb)
    refine thn (PA.run ha pos pins s σ H _ I ⟨g, w, o, ρ, S, ds, S1, st, h1, fun vs g1 H1 x1 s1 r1 => (⟨g1, H1, rfl, x1, s1, r1⟩ : ∃ g1 H2, H1 = H2 ∧ Ext g H g1 H2 ∧ RelS X.K g1 (w ++ o) H2 S1 ∧ RelDs X.K g1 (w ++ o) H2 ds vs)⟩) fun us s1 ⟨vs, H1, I1, r, g1, H1', e1, x1, t1, r1⟩ => ?_
    subst e1
    refine thn (PK.run hkw pos pins s1 σ H1 _ I1 ⟨g1, w, o, ρ, S1, ds2, S2, st.ext x1 t1, h2, fun zs g2 H2 x2 s2 r2 => (⟨g2, H2, rfl, x2, s2, r2⟩ : ∃ g2 H3, H2 = H3 ∧ Ext g1 H1 g2 H3 ∧ RelS X.K g2 (w ++ o) H3 S2 ∧ RelDs X.K g2 (w ++ o) H3 ds2 zs)⟩) fun ws s2 ⟨zs, H2, I2, rz, g2, H2', e2, x2, t2, r2⟩ => ⟨I2.kIn, ?_⟩
    subst e2
    rw [hks]
    have u1 : us.length = np := by rw [← r.length, ← r1.length]; exact l1
    have u2 : ws.length = ks.length := by rw [← rz.length, ← r2.length]; exact l2
    have rr : RelDs X.K g2 (w ++ o) H2 (pickIx ix ds ds2 ++ dv) (pickIx ix vs zs ++ dvs) := RelDs.append (rel_pick (RelDs.append (RelDs.ext x2 ds vs r1) r2) ix) (hdd _ _ _ _)
    have rv : Vals (pickIx ix vs zs ++ dvs) (pickIx ix us ws ++ dws) := (vals_pick (r.append rz) ix).append hv
    refine C.ok.run hgd hr (fun _ => hb s2 us ws I2.kIn u1 u2) pass0 I2 rv ⟨by rw [← rr.length]; exact l3, g2, w ++ o, pickIx ix ds ds2 ++ dv, S2, d, S', fun b hbm => x2.live b (x1.live b (st.liv b hbm)), t2, rr, hq, ?_⟩
    exact fun v g3 H3 x3 s3 r3 => q v g3 H3 ((x1.trans x2).trans x3) s3 r3
  · cases hq
theorem em_ownD0 (C : Own X.prog X.w X.K X.mg X.base k n x ps a fd m) (B : MixD X.K fd ps ks 0 ix dv) (hgd : X.A.guards = some []) (hr : Room k X.A) (hg : Gl X x) (hkw : KM X kws lk) (hall : (backToKw pos (keywordEach kws X.env)).all (·.1.isSome) = true := by rfl)
    (hks : (backToKw pos (keywordEach kws X.env)).filterMap (·.1) = ks := by rfl) (hdb : (x == ("__debug__" : Str)) = false := by decide)
    (hpl : ((backTo pos (starEach [] X.env)).any (·.1) || (backToKw pos (keywordEach kws X.env)).any (·.1.isNone)) = false := by rfl) : EM X (.Call (.Name x p) [] kws pos) (mCallD m n 0 ks.length ix dv aNil lk) := by
  obtain ⟨dvs, dws, hv, hdd, hb⟩ := B.ex
  refine ⟨fun pins s σ H Q I ⟨g, w, o, ρ, S, d, S', st, hq, q⟩ => ?_⟩
  obtain ⟨ds, S1, h1, hq⟩ := R.bind_ok hq
  cases h1
  obtain ⟨ds2, S2, h2, hq⟩ := R.bind_ok hq
  split at hq
  · rename_i hl
    obtain ⟨l1, l2, l3⟩ := hl
    refine wpAny_Call_Name_kw (ld_glob I hg C.at_ (PySem.W.callWith_KW0 (h₀ := X.base) I.ok.mod.kin C.kp hall ?_ hpl) hdb)
    refine thn (PK.run hkw pos pins s σ H _ I ⟨g, w, o, ρ, _, ds2, S2, st, h2, fun zs g2 H2 x2 s2 r2 => (⟨g2, H2, rfl, x2, s2, r2⟩ : ∃ g2 H3, H2 = H3 ∧ Ext g H g2 H3 ∧ RelS X.K g2 (w ++ o) H3 S2 ∧ RelDs X.K g2 (w ++ o) H3 ds2 zs)⟩) fun ws s2 ⟨zs, H2, I2, rz, g2, H2', e2, x2, t2, r2⟩ => ⟨I2.kIn, ?_⟩
    subst e2
    rw [hks]
    have u2 : ws.length = ks.length := by rw [← rz.length, ← r2.length]; exact l2
    have rr : RelDs X.K g2 (w ++ o) H2 (pickIx ix [] ds2 ++ dv) (pickIx ix [] zs ++ dvs) := RelDs.append (rel_pick (RelDs.append (l := []) (vs := []) rfl r2) ix) (hdd _ _ _ _)
    have rv : Vals (pickIx ix [] zs ++ dvs) (pickIx ix [] ws ++ dws) := (vals_pick (Vals.append .nil rz) ix).append hv
    refine C.ok.run (us := []) hgd hr (fun _ => hb s2 [] ws I2.kIn rfl u2) pass0 I2 rv ⟨by rw [← rr.length]; exact l3, g2, w ++ o, pickIx ix [] ds2 ++ dv, S2, d, S', fun b hbm => x2.live b (st.liv b hbm), t2, rr, hq, ?_⟩
    exact fun v g3 H3 x3 s3 r3 => q v g3 H3 (x2.trans x3) s3 r3
  · cases hq
/-- the same call, its values written in their places, no keywords -/
theorem em_ownP (C : Own X.prog X.w X.K X.mg X.base k n x ps a fd m) (B : MixD X.K fd ps [] np ix dv) (hix : ∀ us : List Value, us.length = np → pickIx ix us [] = us) (hn : np + dv.length = ps.length) (hgd : X.A.guards = some []) (hr : Room k X.A) (hg : Gl X x) (ha : AM X (e :: es) l) (hdb : (x == ("__debug__" : Str)) = false := by decide)
    (he : starEach (e :: es) X.env = (false, eval e X.env) :: starEach es X.env := by rfl) (hpl : (backTo pos (starEach es X.env)).any (·.1) = false := by rfl) : EM X (.Call (.Name x p) (e :: es) [] pos) (mCall m n dv l) := by
  obtain ⟨dvs, dws, hv, hdd, hb⟩ := B.ex
  have hlen : dv.length = dws.length := by
    have := (hdd X.K [] [] (fun _ => none)).length
    rw [this, hv.length]
  refine em_call (dvs := dvs) C.ok hgd hr hg C.at_ C.kp (dws := dws) (fun s us I hl => ?_) hv hdd ha hdb he hpl
  have hu : us.length = np := by
    rw [List.length_append] at hl
    omega
  have := hb s us [] I hu rfl
  have e1 := hix us hu
  rw [e1] at this
  exact this
end
end Mo
set_option maxRecDepth 100000
set_option maxHeartbeats 1000000
/-! Mo: how a keyword-only default is found, how a constant of the module is. -/
namespace Mo
open PySem PySem.Spec PyProof.Rows L2
theorem mixD_of {K : PySem.W.Frag} {fd : FuncData} {ps ks : List Str} {np : Nat} {D : Addr} {nm : Str} {i : Int} {t : Tok} (ix : List Nat) (hq : PySem.W.nsIn K D nm = some (some (.int i t)))
    (h : ∀ us ws : List Value, us.length = np → ws.length = ks.length → KwChain D [(nm, .int i t)] (bindArgs fd ⟨us, ks.zip ws⟩) (ps.zip (pickIx ix us ws ++ [.int i t]))) : MixD K fd ps ks np ix [.int i] := by
  refine ⟨[.int i], [.int i t], .cons ⟨t, rfl⟩ .nil, fun K' g f H => ⟨_, [], rfl, rfl, rfl⟩, fun s us ws I l1 l2 => BindsTo.of_looks fun M => KwChain.looks I (fun q hq' => ?_) (h us ws l1 l2)⟩
  rw [List.mem_singleton.mp hq']; exact hq
end Mo
set_option maxRecDepth 100000
set_option maxHeartbeats 1000000
/-! Mo: starred items of a display. -/
namespace Mo
open PySem PySem.Spec PyProof.Rows L2
/-- *e, .. : what e holds, then the rest -/
def aStar (m : ME) (l : MA) : MA := fun ρ S => (m ρ S).bind fun d S1 => (anyD d S1).bind fun xs S2 => (l ρ S2).bind fun ys S3 => .ok (xs ++ ys) S3
theorem am_star {X : Cx} {e : Expr} {es : List Expr} {me : ME} {l : MA} {p : Pos} (he : EM X e me) (hr : AM X es l) (hs : starEach (.Starred e p :: es) X.env = (true, eval e X.env) :: starEach es X.env := by rfl) : AM X (.Starred e p :: es) (aStar me l) :=
  ⟨fun pos pins s σ H Q I ⟨g, w, o, ρ, S, ds, S', st, hm, q⟩ => by
    obtain ⟨d, S1, h1, hm⟩ := R.bind_ok hm
    obtain ⟨xs, S2, h2, hm⟩ := R.bind_ok hm
    obtain ⟨ys, S3, h3, hm⟩ := R.bind_ok hm
    cases hm
    refine (StX.pa_star he hr hs).run pos pins s σ H Q I (show StX.tStar X.K (tE X.K me) (tA X.K l) σ H Q from ?_)
    refine ⟨g, w, o, ρ, S, d, S1, st, h1, fun v g1 H1 x1 s1 r1 => ?_⟩
    obtain ⟨e2, a, vs, ev, hq, rr⟩ := anyD_rel s1 r1 h2
    subst e2
    refine ⟨a, vs, ev, hq.symm, ?_⟩
    refine ⟨g1, w, o, ρ, _, ys, _, st.ext x1 s1, h3, fun us g2 H2 x2 s2 r2 => ?_⟩
    exact q (vs ++ us) g2 H2 (x1.trans x2) s2 (RelDs.append (RelDs.ext x2 _ _ rr) r2)⟩
@[simp] theorem aStar_eq (m : ME) (l : MA) (ρ : MEnv) (S : Store) : aStar m l ρ S = (m ρ S).bind fun d S1 => (anyD d S1).bind fun xs S2 => (l ρ S2).bind fun ys S3 => .ok (xs ++ ys) S3 := rfl
end Mo
set_option maxRecDepth 100000
set_option maxHeartbeats 1000000
/-! Mo: a dict copied. -/
namespace Mo
open PySem PySem.Spec PyProof.Rows L2
def rDCopy : List V → Hp → VK → Prop := fun xs H Q => ∃ a kvs, xs = [.ref a] ∧ Rd H a (.dK kvs) ∧ ∀ p, H p = none → Q (.ref p) (upd H p (.dK kvs))
theorem cr_dcopy {X : Cx} : CallR X (.type "dict") rDCopy := by
  intro pins s σ H xs us Q I r h
  obtain ⟨a, kvs, rfl, e, q⟩ := h
  cases r with
  | cons r1 r2 =>
    cases r2
    cases r1
    exact d_copyOf I e fun p s' hp I' => ⟨.ref p, _, I', rfl, q p hp⟩
def mDCopy (m : ME) : ME := fun ρ S => (m ρ S).bind fun c S1 => match dictR S1 c with
  | some l => .ok (.loc S1.length) (S1 ++ [.dK l])
  | none => .bad
theorem em_dcopy {X : Cx} {e : Expr} {me : ME} {p pos : Pos} (h : EM X e me) (hg : Gl X "dict") (hm : X.mg "dict" = none) (hb : bootBuiltins "dict" = some (.type "dict") := by decide +kernel) (hs : starEach [e] X.env = (false, eval e X.env) :: starEach [] X.env := by rfl) (hpl : (backTo pos (starEach [] X.env)).any (·.1) = false := by rfl) :
    EM X (.Call (.Name "dict" p) [e] [] pos) (mDCopy me) :=
  PE.of (pe_callTy cr_dcopy hg hm hb (b1 h hs) (by decide) (by decide) hs hpl) fun σ H Q ⟨g, w, o, ρ, S, d, S', s, hm, q⟩ => by
    obtain ⟨c, S1, h1, hm⟩ := R.bind_ok hm
    split at hm
    · rename_i l hl
      cases hm
      obtain ⟨n, rfl, hn⟩ := dictR_of hl
      refine ⟨g, w, o, ρ, S, _, S1, s, h1, fun v g1 H1 x1 s1 ⟨a, ev, hg1⟩ => ?_⟩
      subst ev
      obtain ⟨kvs, hH, r⟩ := s1.rd hn hg1
      refine ⟨a, kvs, rfl, hH, fun t ht => ?_⟩
      have x2 : Ext g1 H1 (g1 ++ [t]) (upd H1 t (.dK kvs)) := ⟨⟨[t], rfl, fun b hb => by rw [List.mem_singleton.mp hb]; exact ht⟩, fun a u h _ => (Ext.new (g := []) ht).keep a u h (by simp), (Ext.new (g := []) ht).live, (Ext.new (g := []) ht).tups, (Ext.new (g := []) ht).frz⟩
      refine q _ (g1 ++ [t]) _ (x1.trans x2) (((s1.fresh ht).new ht).addG (s1.noG ht) (c := .dK l) ⟨_, upd_same, ?_⟩) ⟨t, rfl, by rw [← s1.len]; exact List.getElem?_concat_length⟩
      exact RelKv.ext (.new ht) _ _ (RelKv.fresh ht _ _ r)
    · cases hm
@[simp] theorem mDCopy_eq (m : ME) (ρ : MEnv) (S : Store) : mDCopy m ρ S = (m ρ S).bind fun c S1 => match dictR S1 c with
  | some l => .ok (.loc S1.length) (S1 ++ [.dK l])
  | none => .bad := rfl
end Mo
set_option maxRecDepth 100000
set_option maxHeartbeats 1000000
/-! Mo: k in d, k not in d, of dicts by numbers and texts. -/
namespace Mo
open PySem PySem.Spec PyProof.Rows L2
def gDIn (neg : Bool) : G2 := fun y x S => match dictR S x, keyD y with
  | some l, some k => .ok (.bl ((valA l k).isSome != neg)) S
  | _, _ => .bad
def rDIn (neg : Bool) : R2 := fun y x H Q => ∃ a o, x = V.ref a ∧ DGet H a y o ∧ Q (.bl (o.isSome != neg)) H
theorem op_din {X : Cx} (hu : X.A.units + 64 < cLine) : OpR X (compareOp .In) (rDIn false) := by
  intro pins s σ H y x iv u Q I ry rx h
  obtain ⟨a, o, ex, g, q2⟩ := h
  subst ex
  obtain rfl : u = Value.ref a := rx
  exact d_in (by omega) I g ry fun s3 I3 => ⟨.bl o.isSome, H, I3, rfl, by simpa using q2⟩
theorem op_dnotin {X : Cx} (hu : X.A.units + 64 < cLine) : OpR X (compareOp .NotIn) (rDIn true) := by
  intro pins s σ H y x iv u Q I ry rx h
  obtain ⟨a, o, ex, g, q2⟩ := h
  subst ex
  obtain rfl : u = Value.ref a := rx
  exact d_notIn (by omega) I g ry fun s3 I3 => ⟨.bl (!o.isSome), H, I3, rfl, by simpa using q2⟩
theorem od_din {X : Cx} (neg : Bool) : OpD X.K (rDIn neg) (gDIn neg) := fun g f H S dy dx d S' y x Q s ry rx hm q => by
  unfold gDIn at hm
  split at hm
  · rename_i l k hl hk
    cases hm
    obtain ⟨n, rfl, hn⟩ := dictR_of hl
    obtain ⟨a, ev, hg⟩ := rx
    obtain ⟨kvs, hH, r⟩ := s.rd hn hg
    refine ⟨a, valV kvs k, ev, ?_, ?_⟩
    · rw [keyD_rel ry hk]
      exact .inl ⟨kvs, k, hH, rfl, rfl⟩
    · have e : (valV kvs k).isSome = (valA l k).isSome := by
        cases hv : valA l k with
        | none => rw [(r.val (k := k)).2 hv]; rfl
        | some d => obtain ⟨v, e, _⟩ := (r.val (k := k)).1 d hv; rw [e]; rfl
      rw [e]
      exact q.same s rfl
  · cases hm
@[simp] theorem gDIn_eq (neg : Bool) (y x : D) (S : Store) : gDIn neg y x S = (match dictR S x, keyD y with
  | some l, some k => .ok (.bl ((valA l k).isSome != neg)) S
  | _, _ => .bad) := rfl
end Mo
set_option maxRecDepth 100000
set_option maxHeartbeats 1000000
/-! Mo: x.insert(i, e) of an own list; x[::-1] of a list. -/
namespace Mo
open PySem PySem.Spec PyProof.Rows L2
section
variable {X : Cx}
def mIns (i : Nat) (mk me : ME) : MS := fun ρ S => (mk ρ S).bind fun k S1 => (me ρ S1).bind fun d S2 => match ρ[i]?, k with
  | some (some (.own (.lst l))), .int j => if l.length < sizeLine ∧ 0 ≤ j ∧ j < 2 ^ 63 then .ok (.nx (ρ.set i (some (.own (.lst (l.take j.toNat ++ [d] ++ l.drop j.toNat)))))) S2 else .bad
  | _, _ => .bad
theorem sm_insert {o e f : Expr} {mk me : ME} {apos cpos spos : Pos} {i : Nat} (ho : PE X o (tVar i)) (hk : EM X e mk) (ha : EM X f me) (hbase : attributeBase o "insert" X.env (eval o X.env) = eval o X.env := by rfl)
    (hfew : ((backTo cpos (starEach [e, f] X.env)).all (fun x => !x.1) && (backToKw cpos (keywordEach [] X.env)).all (fun x => x.1.isSome) && decide ([e, f].length + ([] : List Keyword).length + (if ([] : List Keyword).isEmpty then 0 else 1) < 30)) = true := by rfl)
    (hline : (apos.endLine == cpos.line) = true := by rfl) (hs : starEach [e, f] X.env = (false, eval e X.env) :: starEach [f] X.env := by rfl) (hs2 : starEach [f] X.env = (false, eval f X.env) :: starEach [] X.env := by rfl) (hplain : (backTo cpos (starEach [f] X.env)).any (·.1) = false := by rfl)
    (hsw : swapsWith (.Call (.Attribute o "insert" apos) [e, f] [] cpos) none spos.line X.env = pure false := by rfl) : SM X (.Expr (.Call (.Attribute o "insert" apos) [e, f] [] cpos) spos) (mIns i mk me) :=
  PS.of (ps_expr (pe_bm PySem.F.plainAttrs_list PySem.F.slot_list_insert PySem.F.type_list_insert mt_insert ho (pa_cons hk (pa_cons ha pa_nil hs2) hs) hbase hfew hline hs hplain) hsw) fun E σ H ⟨g, w, o, ρ, S, fl, S', s, hm, q⟩ => by
    obtain ⟨k, S1, h1, hm⟩ := R.bind_ok hm
    obtain ⟨d, S2, h2, hm⟩ := R.bind_ok hm
    split at hm
    · rename_i l j hl hb
      split at hm
      · rename_i hz
        cases hm
        obtain ⟨a, e1, m, vs, hH, r⟩ := s.own i _ hl
        refine ⟨_, e1, .inl ⟨rfl, vs, .of hH⟩, ?_⟩
        refine ⟨g, w, o, ρ, S, _, S1, s, h1, fun v g1 H1 x1 s1 r1 => ?_⟩
        have st1 := s.ext x1 s1
        refine ⟨g1, w, o, ρ, S1, d, _, st1, h2, fun v2 g2 H2 x2 s2 r2 => ?_⟩
        have st2 := st1.ext x2 s2
        obtain ⟨a', e1', m', vs', hH', r'⟩ := st2.own i _ hl
        rw [e1] at e1'; cases e1'
        have mD : Mut (H2 a) := by rw [hH']; trivial
        have fD : a ∈ w ++ o := List.mem_append_right _ m
        cases r1
        refine ⟨a, vs', j, v2, rfl, rfl, hH', by rw [← r'.length]; exact hz.1, hz.2.1, hz.2.2, q g2 o _ ((x1.trans x2).s.trans (.updO mD m)) _ (st2.updO hl e1 mD ?_)⟩
        exact ⟨_, upd_same, RelDs.upd mD (.inl fD) _ _ (RelDs.append (RelDs.append (r'.take j.toNat) ⟨v2, [], rfl, r2, rfl⟩) (r'.drop j.toNat))⟩
      · cases hm
    · cases hm
@[simp] theorem mIns_eq (i : Nat) (mk me : ME) (ρ : MEnv) (S : Store) : mIns i mk me ρ S = (mk ρ S).bind fun k S1 => (me ρ S1).bind fun d S2 => (match ρ[i]?, k with
  | some (some (.own (.lst l))), .int j => if l.length < sizeLine ∧ 0 ≤ j ∧ j < 2 ^ 63 then .ok (.nx (ρ.set i (some (.own (.lst (l.take j.toNat ++ [d] ++ l.drop j.toNat)))))) S2 else .bad
  | _, _ => .bad) := rfl
/-- xs[::-1] -/
def rRevL (K : PySem.W.Frag) : V → Hp → VK → Prop := fun x H Q => ∃ a xs, x = .ref a ∧ SqL K H a xs ∧ ∀ p, H p = none → Q (.ref p) (upd H p (.lst xs.reverse))
theorem vals_reverse {xs : List V} {us : List Value} (r : Vals xs us) : Vals xs.reverse us.reverse := by
  induction r with
  | nil => exact .nil
  | cons h _ ih =>
    rw [List.reverse_cons, List.reverse_cons]
    exact ih.append (.cons h .nil)
theorem pe_rev {e ste : Expr} {te : TE} {ts : TO} {pos p2 : Pos} (he : PE X e te) (hs : PO X (some ste) ts) : PE X (.Subscript e (.Slice none none (some ste) p2) pos) (fun σ H Q => te σ H fun x H1 => ts σ H1 fun k H2 => k = some (-1) ∧ rRevL X.K x H2 Q) := by
  refine ⟨fun pins s σ H Q I h => ?_⟩
  refine Subscript_ (thn (he.run pins s σ H _ I h) fun v s1 ⟨x, H1, I1, r1, q1⟩ => ?_)
  refine wpAny_Slice ?_
  rw [evalPart_none]
  refine wpAny_pure ?_
  refine wpAny_pure ?_
  refine thn (hs.run pins s1 σ H1 _ I1 q1) fun vs s3 ⟨k, H3, I3, pk, ek, q3⟩ => ?_
  subst ek
  have I4 : Inv X pins σ H3 { s3 with heap := s3.heap.push { cls := .type "slice", data := .fields #[.none, .none, vs] } } := I3.kept (t' := s3.toks) fun b ob q => Heap.get?_push_of_some _ q
  obtain ⟨a, xs, rfl, hx, q⟩ := q3
  cases r1
  obtain ⟨its, r, ht, hz⟩ := I4.list hx
  have hlen := r.length
  have hg : wpAny (model X.prog X.w) X.A (getItem (.ref a) (.ref s3.heap.objs.size)) (EP X pins σ Q) X.xe { s3 with heap := s3.heap.push { cls := .type "slice", data := .fields #[.none, .none, vs] } } := by
    refine wpAny_getItem_list_slice ht.isList (Heap.IsSliceOf.new ..) .none .none pk (by simp) ?_ (by rw [List.size_toArray] <;> omega)
    rw [PySem.W.krv_pick]
    refine ⟨.ref _, _, I4.laid (t' := s3.toks) (o := .lst xs.reverse) (fun b ob q => Heap.get?_push_of_some _ q) (Nat.le_refl _) ?_, rfl, q _ (I4.hok.fresh (Nat.le_refl _))⟩
    exact ⟨by rw [List.length_reverse]; exact hz, _, 0, vals_reverse r, Heap.get?_push_size _ rfl⟩
  show wpAny (model X.prog X.w) X.A (subscriptTail e (.Slice none none (some ste) p2) (.ref a) (.ref s3.heap.objs.size)) (EP X pins σ Q) X.xe { s3 with heap := s3.heap.push { cls := .type "slice", data := .fields #[.none, .none, vs] } }
  exact tail_any (ops := [.ref a, .ref s3.heap.objs.size]) ht.isList.typeIs slot_list_getitem.lookup hg (by with_unfolding_all rfl)
/-- xs[::-1] of a list that rests -/
def mRevQ (ml : ML) (mo : MO) : ML := fun ρ S => (ml ρ S).bind fun l S1 => (mo ρ S1).bind fun k S2 => if k = some (-1) then .ok l.reverse S2 else .bad
theorem RelDs.rev {K : PySem.W.Frag} {g f : List Addr} {H : Hp} : ∀ {l : List D} {vs : List V}, RelDs K g f H l vs → RelDs K g f H l.reverse vs.reverse
  | [], _, h => by cases h; rfl
  | d :: l, _, ⟨v, r, e, h, t⟩ => by
    subst e
    rw [List.reverse_cons, List.reverse_cons]
    exact RelDs.append (RelDs.rev t) ⟨v, [], rfl, h, rfl⟩
theorem nm_rev {e ste : Expr} {me : ME} {mo : MO} {pos p2 : Pos} (he : EM X e me) (hs : OM X (some ste) mo) : NM X (.Subscript e (.Slice none none (some ste) p2) pos) (mRevQ (iLst me) mo) := PE.of (pe_rev he hs) fun σ H Q ⟨g, w, o, ρ, S, d, S', s, hm, q⟩ => by
  obtain ⟨l, S1, h1, hm⟩ := R.bind_ok hm
  obtain ⟨k1, S2, h2, hm⟩ := R.bind_ok hm
  split at hm
  · rename_i hk
    cases hm
    obtain ⟨d1, S0, h0, h1⟩ := R.bind_ok h1
    obtain ⟨rfl, rfl⟩ := seqD_ok h1
    refine ⟨g, w, o, ρ, S, _, _, s, h0, fun v g1 H1 x1 s1 r1 => ?_⟩
    have t1 := s.ext x1 s1
    refine ⟨g1, w, o, ρ, _, _, _, t1, h2, fun g2 H2 x2 s2 => ⟨hk, ?_⟩⟩
    obtain ⟨a, vs, ev, hq, r⟩ := RelD.ext x2 _ _ r1
    refine ⟨a, vs, ev, hq.sq, ?_⟩
    have q' : FinN X.K g2 (w ++ o) H2 l.reverse _ Q := fun p vs g4 H4 x4 hp n4 e4 s4 r4 => q p vs g4 H4 ((x1.trans x2).trans x4) (back_none x1 (back_none x2 hp)) n4 e4 s4 r4
    exact q'.put s2 (RelDs.rev r)
  · cases hm
@[simp] theorem mRevQ_eq (ml : ML) (mo : MO) (ρ : MEnv) (S : Store) : mRevQ ml mo ρ S = (ml ρ S).bind fun l S1 => (mo ρ S1).bind fun k S2 => if k = some (-1) then .ok l.reverse S2 else .bad := rfl
end
end Mo
set_option maxRecDepth 100000
set_option maxHeartbeats 1000000
/-! Mo: list(d), list(d.items()), d.pop(k), try where nothing is raised, raise that is never reached, targets with subscripts. -/
namespace Mo
open PySem PySem.Spec PyProof.Rows L2
section
variable {X : Cx}
theorem relDs_keys {K : PySem.W.Frag} {g f : List Addr} {H : Hp} : ∀ {l : List (Key × D)} {kvs : List (Key × V)}, RelKv K g f H l kvs → RelDs K g f H (l.map fun kv => keyV kv.1) (kvs.map fun kv => kV kv.1)
  | [], _, h => by cases h; rfl
  | p :: l, _, ⟨v, r, e, _, t⟩ => by
    subst e
    exact ⟨_, _, rfl, keyV_rel _, relDs_keys t⟩
/-- list(d) -/
def mKeysL (m : ME) : ML := fun ρ S => (m ρ S).bind fun c S1 => match dictR S1 c with
  | some l => .ok (l.map fun kv => keyV kv.1) S1
  | none => .bad
theorem nm_listD {e : Expr} {me : ME} {p pos : Pos} (hc : X.calm = true) (h : EM X e me) (hg : Gl X "list") (hm : X.mg "list" = none) (hb : bootBuiltins "list" = some (.type "list") := by decide +kernel) (hs : starEach [e] X.env = (false, eval e X.env) :: starEach [] X.env := by rfl) (hpl : (backTo pos (starEach [] X.env)).any (·.1) = false := by rfl) :
    NM X (.Call (.Name "list" p) [e] [] pos) (mKeysL me) :=
  PE.of (pe_callTy (call_listD hc) hg hm hb (b1 h hs) (by decide) (by decide) hs hpl) fun σ H Q ⟨g, w, o, ρ, S, d, S', s, hm, q⟩ => by
    obtain ⟨c, S1, h1, hm⟩ := R.bind_ok hm
    split at hm
    · rename_i l hl
      cases hm
      obtain ⟨n, rfl, hn⟩ := dictR_of hl
      refine ⟨g, w, o, ρ, S, .loc n, _, s, h1, fun v g1 H1 x1 s1 ⟨a, ev, hg1⟩ => ?_⟩
      subst ev
      obtain ⟨kvs, hH, r⟩ := s1.rd hn hg1
      refine ⟨a, kvs, rfl, hH, ?_⟩
      have q' : FinN X.K g1 (w ++ o) H1 (l.map fun kv => keyV kv.1) _ Q := fun p vs g4 H4 x4 hp n4 e4 s4 r4 => q p vs g4 H4 (x1.trans x4) (back_none x1 hp) n4 e4 s4 r4
      exact q'.put s1 (relDs_keys r)
    · cases hm
@[simp] theorem mKeysL_eq (m : ME) (ρ : MEnv) (S : Store) : mKeysL m ρ S = (m ρ S).bind fun c S1 => (match dictR S1 c with
  | some l => .ok (l.map fun kv => keyV kv.1) S1
  | none => .bad) := rfl
/-! ### all that was there stands -/
theorem Ext.all {g : List Addr} {H H' : Hp} (k : ∀ b o, H b = some o → H' b = some o) : Ext g H g H' :=
  ⟨⟨[], by simp, fun _ h => nomatch h⟩, fun a u h _ => k a u h, (fun a h => by
    cases e : H a with
    | none => exact absurd e h
    | some u => rw [k a u e]; exact (fun z => nomatch z)), (fun a vs h => by
    rcases h with h | ⟨o, h⟩
    · exact .inl (k _ _ h)
    · exact .inr ⟨o, k _ _ h⟩), fun a o u h => k _ _ h⟩
theorem RelS.all {K : PySem.W.Frag} {g f : List Addr} {H H' : Hp} {S : Store} (k : ∀ b o, H b = some o → H' b = some o) (s : RelS K g f H S) : RelS K g f H' S :=
  ⟨s.len, s.nod, fun n c a e1 e2 => by
    have x : Ext g H g H' := .all k
    have := s.cel n c a e1 e2
    cases c with
    | lst l => obtain ⟨vs, h, r⟩ := this; exact ⟨vs, k _ _ h, RelDs.ext x _ _ r⟩
    | dK l => obtain ⟨vs, h, r⟩ := this; exact ⟨vs, k _ _ h, RelKv.ext x _ _ r⟩
    | dT l => obtain ⟨vs, h, r, r2⟩ := this; exact ⟨vs, k _ _ h, RelKv.ext x _ _ r, RelKv.ext x _ _ r2⟩
    | dF l => obtain ⟨vs, ⟨ob, h⟩, r⟩ := this; exact ⟨vs, ⟨ob, k _ _ h⟩, RelKv.ext x _ _ r⟩
    | dG l => obtain ⟨vs, ⟨ob, h⟩, r, r2⟩ := this; exact ⟨vs, ⟨ob, k _ _ h⟩, RelKv.ext x _ _ r, RelKv.ext x _ _ r2⟩⟩
theorem relDs_items {K : PySem.W.Frag} {g f : List Addr} {H : Hp} : ∀ {l : List (Key × D)} {kvs : List (Key × V)} {ts : List Addr}, RelKv K g f H l kvs → Paired (fun (t : Addr) (q : Key × V) => H t = some (.tup [kV q.1, q.2])) ts kvs → RelDs K g f H (l.map fun kv => .tup [keyV kv.1, kv.2]) (ts.map V.ref)
  | [], _, _, h, p => by cases h; cases p; rfl
  | d :: l, _, _, ⟨v, r, e, q, t⟩, p => by
    subst e
    cases p with
    | cons h p => exact ⟨_, _, rfl, ⟨_, _, rfl, .inl (.inl h), ⟨_, _, rfl, keyV_rel _, ⟨_, _, rfl, q, rfl⟩⟩⟩, relDs_items t p⟩
/-- list(d.items()) -/
def mItemsL (m : ME) : ML := fun ρ S => (m ρ S).bind fun c S1 => match dictAt S1 c with
  | some l => .ok (l.map fun kv => .tup [keyV kv.1, kv.2]) S1
  | none => .bad
theorem nm_items {e : Expr} {me : ME} {p apos cpos pos : Pos} (hc : X.calm = true) (h : EM X e me) (hg : Gl X "list") (hm : X.mg "list" = none) (hv : bootBuiltins "list" = some (.type "list") := by decide +kernel) (hbase : attributeBase e "items" X.env (eval e X.env) = eval e X.env := by rfl) (hline : (apos.endLine == cpos.line) = true := by rfl)
    (hs : starEach [.Call (.Attribute e "items" apos) [] [] cpos] X.env = (false, eval (.Call (.Attribute e "items" apos) [] [] cpos) X.env) :: starEach [] X.env := by rfl) :
    NM X (.Call (.Name "list" p) [.Call (.Attribute e "items" apos) [] [] cpos] [] pos) (mItemsL me) :=
  PE.of (LiI.pe_listItems hc h hg hm hv hbase hline hs) fun σ H Q ⟨g, w, o, ρ, S, d, S', s, hm, q⟩ => by
    obtain ⟨c, S1, h1, hm⟩ := R.bind_ok hm
    split at hm
    · rename_i l hl
      cases hm
      obtain ⟨n, rfl, hn⟩ := dictAt_of hl
      refine ⟨g, w, o, ρ, S, .loc n, _, s, h1, fun v g1 H1 x1 s1 ⟨a, ev, hg1⟩ => ?_⟩
      subst ev
      obtain ⟨kvs, hH, r⟩ := s1.cel n _ a hn hg1
      refine ⟨a, kvs, rfl, hH, fun H' p ts k hp hts hpt hl2 pr => ?_⟩
      have x2 : Ext g1 H1 g1 H' := .all k
      refine q p (ts.map V.ref) g1 H' (x1.trans x2) (back_none x1 hp) (s1.noG hp) hl2 ((s1.fresh hp).all k) ?_
      exact relDs_items (RelKv.ext x2 _ _ (RelKv.fresh hp _ _ r)) pr
    · cases hm
@[simp] theorem mItemsL_eq (m : ME) (ρ : MEnv) (S : Store) : mItemsL m ρ S = (m ρ S).bind fun c S1 => (match dictAt S1 c with
  | some l => .ok (l.map fun kv => .tup [keyV kv.1, kv.2]) S1
  | none => .bad) := rfl
/-! ### d.pop(k) -/
def dropA (l : List (Key × D)) (k : Key) : List (Key × D) := l.filter fun kv => decide (kv.1 ≠ k)
theorem RelKv.drop {K : PySem.W.Frag} {g f : List Addr} {H : Hp} {k : Key} : ∀ {l : List (Key × D)} {kvs : List (Key × V)}, RelKv K g f H l kvs → RelKv K g f H (dropA l k) (dropK kvs k)
  | [], _, h => by cases h; rfl
  | p :: l, _, ⟨v, r, e, q, t⟩ => by
    subst e
    have ih := RelKv.drop (k := k) t
    unfold dropA dropK at *
    by_cases c : p.1 = k
    · rw [List.filter_cons_of_neg (by simp [c]), List.filter_cons_of_neg (by simp [c])]; exact ih
    · rw [List.filter_cons_of_pos (by simp [c]), List.filter_cons_of_pos (by simp [c])]; exact ⟨v, _, rfl, q, ih⟩
def mDPop (mo mk : ME) : ME := fun ρ S => (mo ρ S).bind fun c S1 => match dictAt S1 c with
  | none => .bad
  | some _ => (mk ρ S1).bind fun y S2 => match c, dictAt S2 c, keyD y with
    | .loc n, some l, some k => (match valA l k with
      | some d => .ok d (S2.set n (.dK (dropA l k)))
      | none => .bad)
    | _, _, _ => .bad
theorem em_dpop {o e : Expr} {mo mk : ME} {apos cpos : Pos} (ho : EM X o mo) (he : EM X e mk) (m : M1 X o "pop" apos e cpos) : EM X (.Call (.Attribute o "pop" apos) [e] [] cpos) (mDPop mo mk) :=
  PE.of (pe_dpop1 ho he m) fun σ H Q ⟨g, w, o, ρ, S, d, S', s, hm, q⟩ => by
    obtain ⟨c, S1, h1, hm1⟩ := R.bind_ok hm
    split at hm1
    · cases hm1
    rename_i l0 hl0
    obtain ⟨y, S2, h2, hm2⟩ := R.bind_ok hm1
    obtain ⟨n, rfl, hn0⟩ := dictAt_of hl0
    cases hk : keyD y with
    | none => rw [hk] at hm2; cases hd2 : dictAt S2 (.loc n) <;> rw [hd2] at hm2 <;> cases hm2
    | some k =>
      cases hd2 : dictAt S2 (.loc n) with
      | none => rw [hk, hd2] at hm2; cases hm2
      | some l =>
        rw [hk, hd2] at hm2
        dsimp only at hm2
        cases hv : valA l k with
        | none => rw [hv] at hm2; cases hm2
        | some d2 =>
          rw [hv] at hm2
          cases hm2
          obtain ⟨n', en, hn⟩ := dictAt_of hd2
          cases en
          refine ⟨g, w, o, ρ, S, _, S1, s, h1, fun vc g1 H1 x1 s1 ⟨a, ev, hg⟩ => ?_⟩
          obtain ⟨kvs0, hH0, _⟩ := s1.cel n _ a hn0 hg
          refine ⟨a, ev, .inl ⟨kvs0, .inl hH0⟩, ?_⟩
          have t1 := s.ext x1 s1
          refine ⟨g1, w, o, ρ, S1, y, S2, t1, h2, fun vy g2 H2 x2 s2 r2 => ?_⟩
          have hg2 := x2.get hg
          obtain ⟨kvs, hH, r⟩ := s2.cel n _ a hn hg2
          have mD : Mut (H2 a) := by rw [hH]; trivial
          have gD : a ∈ g2 := List.mem_of_getElem? hg2
          obtain ⟨v', e', rv⟩ := (r.val (k := k)).1 d hv
          have x4 : Ext g2 H2 g2 (upd H2 a (.dK (dropK kvs k))) := .updG mD gD
          have s4 := s2.updG (c := .dK (dropA l k)) (u := .dK (dropK kvs k)) mD hg2 ⟨_, upd_same, RelKv.upd mD (.inr gD) _ _ (RelKv.drop r)⟩
          exact ⟨kvs, k, v', hH, keyD_rel r2 hk, e', q v' g2 _ ((x1.trans x2).trans x4) s4 (RelD.ext x4 _ _ rv)⟩
@[simp] theorem mDPop_eq (mo mk : ME) (ρ : MEnv) (S : Store) : mDPop mo mk ρ S = (mo ρ S).bind fun c S1 => (match dictAt S1 c with
  | none => .bad
  | some _ => (mk ρ S1).bind fun y S2 => (match c, dictAt S2 c, keyD y with
    | .loc n, some l, some k => (match valA l k with
      | some d => .ok d (S2.set n (.dK (dropA l k)))
      | none => .bad)
    | _, _, _ => .bad)) := rfl
/-! ### try, raise -/
theorem sm_thru {body : List Stmt} {h₀ : ExceptHandler} {hs : List ExceptHandler} {pos : Pos} {m : MS} (hb : SsM X.nox body m) : SM X (.Try body (h₀ :: hs) [] [] pos) m := ps_try_thru0 hb
def mBad : MS := fun _ _ => .bad
theorem sm_bad {st : Stmt} : SM X st mBad := ⟨fun pins s σ H D I ⟨g, w, o, ρ, S, fl, S', s', hm, q⟩ => by cases hm⟩
@[simp] theorem mBad_eq (ρ : MEnv) (S : Store) : mBad ρ S = .bad := rfl
/-! ### o[i], x = e; o[i], o2[i2] = e -/
def mAsgS (mo mk : ME) (i : Nat) (m : ME) : MS := fun ρ S => (m ρ S).bind fun d S1 => match d with
  | .tup [d1, d2] => (mo ρ S1).bind fun c S2 => (mk ρ S2).bind fun k S3 => (match putC c k d1 S3 with
    | some S4 => .ok (.nx (ρ.set i (some (.val d2)))) S4
    | none => .bad)
  | _ => .bad
theorem sm_asgS {st : Stmt} {mo mk me : ME} {i : Nat} (h : PS X st (tAsg (tE X.K me) (gTup X.K 2 (gCons (gSub (tE X.K mo) (tE X.K mk) rSetL) (gCons (gName i) gNil))))) : SM X st (mAsgS mo mk i me) := PS.of h fun E σ H ⟨g, w, o, ρ, S, fl, S', s, hm, q⟩ => by
  obtain ⟨d, S1, h1, hm⟩ := R.bind_ok hm
  split at hm
  · rename_i d1 d2
    obtain ⟨c, S2, h2, hm⟩ := R.bind_ok hm
    obtain ⟨k, S3, h3, hm⟩ := R.bind_ok hm
    split at hm
    · rename_i S4 hp
      cases hm
      obtain ⟨n, j, l, m, rfl, rfl, hl, hmx, rfl⟩ := putC_ok hp
      refine ⟨g, w, o, ρ, S, _, S1, s, h1, fun v g1 H1 x1 s1 r1 => ?_⟩
      obtain ⟨b, vs0, ev, hq, v1, rr, ers, rv1, v2, rr2, ers2, rv2, ers3⟩ := r1
      subst ers3; subst ers2; subst ers; subst ev
      refine ⟨b, _, rfl, hq, rfl, v1, _, rfl, ?_⟩
      have t1 := s.ext x1 s1
      refine ⟨g1, w, o, ρ, S1, _, S2, t1, h2, fun vc g2 H2 x2 s2 r2 => ?_⟩
      have t2 := t1.ext x2 s2
      refine ⟨g2, w, o, ρ, S2, _, S3, t2, h3, fun vk g3 H3 x3 s3 r3 => ?_⟩
      have t3 := t2.ext x3 s3
      obtain ⟨a, ea, hg⟩ := RelD.ext x3 _ _ r2
      obtain ⟨vs, hH, r⟩ := s3.cel n _ a hl hg
      have mD : Mut (H3 a) := by rw [hH]; trivial
      have gD : a ∈ g3 := List.mem_of_getElem? hg
      have rv := RelD.ext (x2.trans x3) d1 v1 rv1
      refine ⟨a, vs, j, m, ea, r3, hH, by rw [← r.length]; exact hmx, ?_⟩
      have x4 : Ext g3 H3 g3 (upd H3 a (.lst (vs.set m v1))) := .updG mD gD
      have s4 := s3.updG (c := .lst (l.set m d1)) (u := .lst (vs.set m v1)) mD hg ⟨_, upd_same, RelDs.upd mD (.inr gD) _ _ (RelDs.set r rv)⟩
      exact ⟨v2, _, rfl, rfl, q g3 o _ (((x1.trans x2).trans x3).trans x4).s _ ((t3.ext x4 s4).set (RelD.ext ((x2.trans x3).trans x4) d2 v2 rv2))⟩
    · cases hm
  · cases hm
def mAsgSS (mo mk mo2 mk2 : ME) (m : ME) : MS := fun ρ S => (m ρ S).bind fun d S1 => match d with
  | .tup [d1, d2] => (mo ρ S1).bind fun c S2 => (mk ρ S2).bind fun k S3 => (match putC c k d1 S3 with
    | some S4 => (mo2 ρ S4).bind fun c2 S5 => (mk2 ρ S5).bind fun k2 S6 => (match putC c2 k2 d2 S6 with
      | some S7 => .ok (.nx ρ) S7
      | none => .bad)
    | none => .bad)
  | _ => .bad
theorem sm_asgSS {st : Stmt} {mo mk mo2 mk2 me : ME} (h : PS X st (tAsg (tE X.K me) (gTup X.K 2 (gCons (gSub (tE X.K mo) (tE X.K mk) rSetL) (gCons (gSub (tE X.K mo2) (tE X.K mk2) rSetL) gNil))))) : SM X st (mAsgSS mo mk mo2 mk2 me) := PS.of h fun E σ H ⟨g, w, o, ρ, S, fl, S', s, hm, q⟩ => by
  obtain ⟨d, S1, h1, hm⟩ := R.bind_ok hm
  split at hm
  · rename_i d1 d2
    obtain ⟨c, S2, h2, hm⟩ := R.bind_ok hm
    obtain ⟨k, S3, h3, hm⟩ := R.bind_ok hm
    split at hm
    · rename_i S4 hp
      obtain ⟨c2, S5, h5, hm⟩ := R.bind_ok hm
      obtain ⟨k2, S6, h6, hm⟩ := R.bind_ok hm
      split at hm
      · rename_i S7 hp2
        cases hm
        obtain ⟨n, j, l, m, rfl, rfl, hl, hmx, rfl⟩ := putC_ok hp
        obtain ⟨n2, j2, l2, m2, rfl, rfl, hl2, hmx2, rfl⟩ := putC_ok hp2
        refine ⟨g, w, o, ρ, S, _, S1, s, h1, fun v g1 H1 x1 s1 r1 => ?_⟩
        obtain ⟨b, vs0, ev, hq, v1, rr, ers, rv1, v2, rr2, ers2, rv2, ers3⟩ := r1
        subst ers3; subst ers2; subst ers; subst ev
        refine ⟨b, _, rfl, hq, rfl, v1, _, rfl, ?_⟩
        have t1 := s.ext x1 s1
        refine ⟨g1, w, o, ρ, S1, _, S2, t1, h2, fun vc g2 H2 x2 s2 r2 => ?_⟩
        have t2 := t1.ext x2 s2
        refine ⟨g2, w, o, ρ, S2, _, S3, t2, h3, fun vk g3 H3 x3 s3 r3 => ?_⟩
        have t3 := t2.ext x3 s3
        obtain ⟨a, ea, hg⟩ := RelD.ext x3 _ _ r2
        obtain ⟨vs, hH, r⟩ := s3.cel n _ a hl hg
        have mD : Mut (H3 a) := by rw [hH]; trivial
        have gD : a ∈ g3 := List.mem_of_getElem? hg
        have rv := RelD.ext (x2.trans x3) d1 v1 rv1
        refine ⟨a, vs, j, m, ea, r3, hH, by rw [← r.length]; exact hmx, ?_⟩
        have x4 : Ext g3 H3 g3 (upd H3 a (.lst (vs.set m v1))) := .updG mD gD
        have s4 := s3.updG (c := .lst (l.set m d1)) (u := .lst (vs.set m v1)) mD hg ⟨_, upd_same, RelDs.upd mD (.inr gD) _ _ (RelDs.set r rv)⟩
        refine ⟨v2, _, rfl, ?_⟩
        have t4 := t3.ext x4 s4
        refine ⟨g3, w, o, ρ, _, _, S5, t4, h5, fun vc5 g5 H5 x5 s5 r5 => ?_⟩
        have t5 := t4.ext x5 s5
        refine ⟨g5, w, o, ρ, S5, _, S6, t5, h6, fun vk6 g6 H6 x6 s6 r6 => ?_⟩
        have t6 := t5.ext x6 s6
        obtain ⟨a2, ea2, hg2⟩ := RelD.ext x6 _ _ r5
        obtain ⟨vs2, hH2, r22⟩ := s6.cel n2 _ a2 hl2 hg2
        have mD2 : Mut (H6 a2) := by rw [hH2]; trivial
        have gD2 : a2 ∈ g6 := List.mem_of_getElem? hg2
        have x26 := (((x2.trans x3).trans x4).trans x5).trans x6
        have rv2' := RelD.ext x26 d2 v2 rv2
        refine ⟨a2, vs2, j2, m2, ea2, r6, hH2, by rw [← r22.length]; exact hmx2, ?_⟩
        have x7 : Ext g6 H6 g6 (upd H6 a2 (.lst (vs2.set m2 v2))) := .updG mD2 gD2
        have s7 := s6.updG (c := .lst (l2.set m2 d2)) (u := .lst (vs2.set m2 v2)) mD2 hg2 ⟨_, upd_same, RelDs.upd mD2 (.inr gD2) _ _ (RelDs.set r22 rv2')⟩
        exact ⟨rfl, q g6 o _ ((x1.trans x26).trans x7).s _ (t6.ext x7 s7)⟩
      · cases hm
    · cases hm
  · cases hm
@[simp] theorem mAsgS_eq (mo mk : ME) (i : Nat) (m : ME) (ρ : MEnv) (S : Store) : mAsgS mo mk i m ρ S = (m ρ S).bind fun d S1 => (match d with
  | .tup [d1, d2] => (mo ρ S1).bind fun c S2 => (mk ρ S2).bind fun k S3 => (match putC c k d1 S3 with
    | some S4 => .ok (.nx (ρ.set i (some (.val d2)))) S4
    | none => .bad)
  | _ => .bad) := rfl
@[simp] theorem mAsgSS_eq (mo mk mo2 mk2 : ME) (m : ME) (ρ : MEnv) (S : Store) : mAsgSS mo mk mo2 mk2 m ρ S = (m ρ S).bind fun d S1 => (match d with
  | .tup [d1, d2] => (mo ρ S1).bind fun c S2 => (mk ρ S2).bind fun k S3 => (match putC c k d1 S3 with
    | some S4 => (mo2 ρ S4).bind fun c2 S5 => (mk2 ρ S5).bind fun k2 S6 => (match putC c2 k2 d2 S6 with
      | some S7 => .ok (.nx ρ) S7
      | none => .bad)
    | none => .bad)
  | _ => .bad) := rfl
end
end Mo
set_option maxRecDepth 100000
set_option maxHeartbeats 1000000
/-! Mo: str(int), the text of an empty dict. -/
namespace Mo
open PySem PySem.Spec PyProof.Rows L2
section
variable {X : Cx} {e : Expr} {me : ME} {l : MA} {p pos : Pos}
/-- str(a whole number) -/
def hStrI : List D → Store → R D
  | [.int i], S => if b62 i = true then .ok (.str (toString i)) S else .bad
  | _, _ => .bad
theorem log_b62 {i : Int} (h : b62 i = true) : i.natAbs.log2 < 1920 := by
  have h1 := (b62_iff i).mp h
  by_cases c : i.natAbs = 0
  · rw [c]; decide
  · have h2 : 2 ^ i.natAbs.log2 ≤ i.natAbs := Nat.log2_self_le c
    have h3 : 2 ^ i.natAbs.log2 < 2 ^ 63 := by
      have : (2 : Nat) ^ 63 = 9223372036854775808 := by decide
      omega
    have h4 := (Nat.pow_lt_pow_iff_right (by decide : 1 < 2)).mp h3
    omega
theorem em_strI (h : AM X [e] l) (hg : Gl X "str") (hm : X.mg "str" = none) (hb : bootBuiltins "str" = some (.type "str") := by decide +kernel) (hs : starEach [e] X.env = (false, eval e X.env) :: starEach [] X.env := by rfl) (hpl : (backTo pos (starEach [] X.env)).any (·.1) = false := by rfl) :
    EM X (.Call (.Name "str" p) [e] [] pos) (mA hStrI l) :=
  PE.of (pe_callTy call_str_int hg hm hb h (by decide) (by decide) hs hpl) fun σ H Q q => a_of (fun g f H S l d S' vs Q s r hm q => by
    unfold hStrI at hm
    split at hm
    · split at hm
      · rename_i i hi
        cases hm
        obtain ⟨v, t, ev, rv, rn⟩ := r
        cases rv; cases rn
        exact ⟨_, ev, log_b62 hi, q.same s rfl⟩
      · cases hm
    · cases hm) q
/-- repr of data, or of an empty dict -/
def gReprA (d : D) (S : Store) : R D := match d with
  | .loc n => match S[n]? with
    | some (.dK []) => .ok (.str "{}") S
    | _ => .bad
  | d => gReprV d S
theorem cr_repr0 (hg : X.A.guards = some []) (hu : X.A.units + 64 < cLine) : CallR X (.builtin "repr") (fun xs H Q => ∃ a, xs = [.ref a] ∧ H a = some (.dK []) ∧ Q (.str "{}") H) := by
  intro pins s σ H xs us Q I r h
  obtain ⟨a, rfl, ha, q⟩ := h
  rw [Vals.ref1 r]
  obtain ⟨_, lo, vs, kv, o, es, ep, h1, h2, h3, h4, h5, h6⟩ := dk_of I.hok ha
  cases kv
  have he : es.toList = [] := by
    cases q2 : es.toList with
    | nil => rfl
    | cons x l => rw [q2] at h5; cases h5
  have rd : Reads s.heap (.ref a) (.dict []) (a :: [] ++ []) := .dict h1 h2.1 h3 (by rw [he]; exact .nil) (by rw [he]; exact .nil)
  refine repr_of_reads' rd rfl (fun _ hz => ?_) hg (Nat.lt_of_le_of_lt (Nat.add_le_add_left (show (PyData.dict []).depth + 1 ≤ 64 by decide) _) hu) (fun _ _ e => e) (fun h' u tk hk => ?_) (by decide)
  · rw [beq_eq_false_iff_ne] at lo
    simp only [List.append_nil, List.mem_singleton] at hz
    exact lo hz.symm
  · exact ⟨.str _, H, I.kept (t' := tk) hk, ⟨u, rfl⟩, q⟩
theorem cr_reprA (hg : X.A.guards = some []) (hu : X.A.units + 64 < cLine) : CallR X (.builtin "repr") (fun xs H Q => (∃ x p, xs = [x] ∧ Dp X.K H x p ∧ p.hasDict = false ∧ shownOk p ∧ Q (.str p.shown) H) ∨ (∃ a, xs = [.ref a] ∧ H a = some (.dK []) ∧ Q (.str "{}") H)) := by
  intro pins s σ H xs us Q I r h
  rcases h with h | h
  · exact cr_reprV hg hu pins s σ H xs us Q I r h
  · exact cr_repr0 hg hu pins s σ H xs us Q I r h
theorem em_reprA (hgd : X.A.guards = some []) (hu : X.A.units + 64 < cLine) (h : EM X e me) (hg : Gl X "repr") (hm : X.mg "repr" = none) (hb : bootBuiltins "repr" = some (.builtin "repr") := by decide +kernel) (hs : starEach [e] X.env = (false, eval e X.env) :: starEach [] X.env := by rfl) (hpl : (backTo pos (starEach [] X.env)).any (·.1) = false := by rfl) :
    EM X (.Call (.Name "repr" p) [e] [] pos) (mB1 gReprA me) :=
  PE.of (pe_callB (cr_reprA hgd hu) hg hm hb (b1 h hs) (by decide) (by decide) hs hpl) fun σ H Q ⟨g, w, o, ρ, S, d, S', s, hm, q⟩ => by
    obtain ⟨d1, S1, h1, h2⟩ := R.bind_ok hm
    refine ⟨g, w, o, ρ, S, d1, S1, s, h1, fun v g1 H1 x1 s1 r1 => ?_⟩
    unfold gReprA at h2
    split at h2
    · rename_i n
      split at h2
      · rename_i hn
        cases h2
        obtain ⟨a, rfl, hg1⟩ := r1
        obtain ⟨kvs, hH, rk⟩ := s1.cel n _ a hn hg1
        cases rk
        exact .inr ⟨a, rfl, hH, q _ g1 H1 x1 s1 rfl⟩
      · cases h2
    · unfold gReprV at h2
      split at h2
      · rename_i pd hp
        split at h2
        · rename_i hok
          cases h2
          exact .inl ⟨v, pd, rfl, RelD.dp _ _ _ r1 hp, toP_noDict _ _ hp, hok, q _ g1 H1 x1 s1 rfl⟩
        · cases h2
      · cases h2
end
@[simp] theorem hStrI_eq (i : Int) (S : Store) : hStrI [.int i] S = if b62 i = true then .ok (.str (toString i)) S else .bad := rfl
@[simp] theorem gReprA_loc (n : Nat) (S : Store) : gReprA (.loc n) S = (match S[n]? with
  | some (.dK []) => .ok (.str "{}") S
  | _ => .bad) := rfl
@[simp] theorem gReprA_tup (l : List D) (S : Store) : gReprA (.tup l) S = gReprV (.tup l) S := rfl
@[simp] theorem gReprA_lst (l : List D) (S : Store) : gReprA (.lst l) S = gReprV (.lst l) S := rfl
@[simp] theorem gReprA_non (S : Store) : gReprA .non S = gReprV .non S := rfl
@[simp] theorem gReprA_bl (k : Bool) (S : Store) : gReprA (.bl k) S = gReprV (.bl k) S := rfl
@[simp] theorem gReprA_int (i : Int) (S : Store) : gReprA (.int i) S = gReprV (.int i) S := rfl
@[simp] theorem gReprA_str (i : Str) (S : Store) : gReprA (.str i) S = gReprV (.str i) S := rfl
end Mo
set_option maxRecDepth 100000
set_option maxHeartbeats 1000000
/-! Mo: t[::-1] of a tuple. -/
namespace Mo
open PySem PySem.Spec PyProof.Rows L2 HT
section
variable {prog : Program} {w : World} {A : Around} {E : Value → Shared → Prop} {s : Shared}
theorem adjust_back (n : Nat) : Builtin.Slice.sliceAdjust none none (-1) (n : Int) = ((n : Int) - 1, -1) := rfl
theorem places_back (n : Nat) : Builtin.Slice.slicePlaces ((n : Int) - 1) (-1) (-1) = n := by
  have h1 : ¬ ((-1 : Int) > 0) := by decide
  unfold Builtin.Slice.slicePlaces
  rw [if_neg h1]
  by_cases c : n = 0
  · subst c; rfl
  · rw [if_pos (by omega), Int.neg_neg, Int.ediv_one]; omega
theorem applied_back {sl : Addr} {vs : Value} {n : Nat} {Q : Int × Int × Nat → Shared → Prop} (hs : s.heap.IsSliceOf sl .none .none vs) (pk : IsPart vs (some (-1))) (h : Q ((n : Int) - 1, -1, n) s) : wpAny (model prog w) A (Builtin.Slice.sliceApplied (.ref sl) (pure (n : Int))) Q E s := by
  obtain ⟨os, hos, _, hds⟩ := hs
  unfold Builtin.Slice.sliceApplied Builtin.Slice.sliceFields
  refine wpAny_bind (wpAny_bind (wpAny_field hos hds (x := .none) rfl (wpAny_bind (wpAny_field hos hds (x := .none) rfl (wpAny_bind (wpAny_field hos hds (x := vs) rfl (wpAny_pure ?_)))))))
  refine wpAny_bind (slicePart_ pk ?_)
  show wpAny _ _ (if ((-1 : Int) == 0) = true then _ else _) _ _ s
  rw [if_neg (by decide)]; refine wpAny_bind (slicePart_none (wpAny_bind (slicePart_none (wpAny_bind (wpAny_pure ?_)))))
  show wpAny _ _ (match Builtin.Slice.sliceAdjust none none (-1) (n : Int) with | (lo, hi) => pure (lo, (-1 : Int), Builtin.Slice.slicePlaces lo hi (-1))) _ _ s
  rw [adjust_back]
  show wpAny _ _ (pure ((n : Int) - 1, (-1 : Int), Builtin.Slice.slicePlaces ((n : Int) - 1) (-1) (-1))) _ _ s
  rw [places_back]; exact wpAny_pure h
theorem fm_congr {α β : Type} {f g : α → Option β} : ∀ {l : List α}, (∀ x ∈ l, f x = g x) → l.filterMap f = l.filterMap g
  | [], _ => rfl
  | x :: l, h => by rw [List.filterMap_cons, List.filterMap_cons, h x List.mem_cons_self, fm_congr fun y hy => h y (List.mem_cons_of_mem _ hy)]
theorem pick_back (xs : Array Value) : ((List.range xs.size).filterMap fun (k : Nat) => xs[((xs.size : Int) - 1 + (k : Int) * (-1)).toNat]?) = xs.toList.reverse := by
  have e : ((List.range xs.size).filterMap fun (k : Nat) => xs[((xs.size : Int) - 1 + (k : Int) * (-1)).toNat]?) = (((List.range xs.size).map fun k => xs.size - 1 - k).filterMap (xs[·]?)) := by
    rw [List.filterMap_map]
    refine fm_congr fun k hk => ?_
    have : ((xs.size : Int) - 1 + (k : Int) * (-1)).toNat = xs.size - 1 - k := by have := List.mem_range.mp hk; omega
    show xs[((xs.size : Int) - 1 + (k : Int) * (-1)).toNat]? = xs[xs.size - 1 - k]?
    rw [this]
  rw [e, PySem.W.krv_range, List.filterMap_reverse, PySem.W.krv_all]
theorem item_back {t sl : Addr} {items : Array Value} {vs : Value} {Q : Value → Shared → Prop} (ht : IsTup s.heap t items) (hs : s.heap.IsSliceOf sl .none .none vs) (pk : IsPart vs (some (-1)))
    (h : Q (.ref s.heap.objs.size) { s with heap := s.heap.push { cls := .type "tuple", data := .seq items.toList.reverse.toArray } }) (hsz : items.size ≤ sizeLine) : wpAny (model prog w) A (getItem (.ref t) (.ref sl)) Q E s := by
  have hz : sizeOk (.seq items.toList.reverse.toArray) := (by rw [List.size_toArray, List.length_reverse, Array.length_toList]; exact hsz : items.toList.reverse.toArray.size ≤ sizeLine)
  obtain ⟨os, hos, hcs, _⟩ := id hs
  have hT : s.TypeIs (.ref sl) "slice" := ⟨os, hos, hcs⟩
  unfold getItem; (try with_reducible refine wpAny_holding ?_); (first | refine wpAny_bind (wpAny_pure ?_) | skip)
  refine wpAny_bind (wpAny_sequenceKey ht.typeIs (by decide) (wpAny_bind (wpAny_callSpecial?_slot (name := Str.ofString "__getitem__") ht.typeIs PyProof.Rows.slot_tuple_getitem (wpAny_call_entry PyProof.Rows.slot_tuple_getitem ht.typeIs entry_tuple_getitem ?_ (args_tuple_getitem _ _)))))
  show wpAny _ _ (Builtin.Tuple.tupleItemsOf (.ref t) >>= _) _ _ s; refine wpAny_bind (tupleItemsOf_ ht (wpAny_bind (wpAny_typeOf hT ?_)))
  rw [if_pos (by decide)]; refine wpAny_bind (applied_back hs pk ?_)
  have no : ¬ ((((items.size : Int) - 1) == 0 && (-1 : Int) == 1 && items.size == items.size) = true) := by simp
  show wpAny _ _ (if (((items.size : Int) - 1) == 0 && (-1 : Int) == 1 && items.size == items.size) = true then _ else _) _ _ s
  rw [if_neg no, pick_back]
  first
    | exact wpAny_bind (m := Builtin.Tuple.tupleExact _) (wpAny_newObj_type (wpAny_pure ⟨_, rfl, wpAny_pure h⟩) hz)
    | exact wpAny_bind (m := Builtin.Tuple.tupleExact _) (wpAny_newObj_type (wpAny_bind (wpAny_pure (wpAny_pure ⟨_, rfl, wpAny_pure h⟩))) hz)
    | exact wpAny_bind (wpAny_bind (m := Builtin.Tuple.tupleExact _) (wpAny_newObj_type (wpAny_pure (wpAny_pure ⟨_, rfl, wpAny_pure h⟩)) hz))
    | exact wpAny_bind (wpAny_bind (m := Builtin.Tuple.tupleExact _) (wpAny_newObj_type (wpAny_pure ⟨_, rfl, wpAny_pure h⟩) hz))
end
section
variable {X : Cx}
def rRevT (K : PySem.W.Frag) : V → Hp → VK → Prop := fun x H Q => ∃ a xs, x = .ref a ∧ SqT K H a xs ∧ ∀ p, H p = none → Q (.ref p) (upd H p (.tup xs.reverse))
theorem pe_revT {e ste : Expr} {te : TE} {ts : TO} {pos p2 : Pos} (he : PE X e te) (hs : PO X (some ste) ts) : PE X (.Subscript e (.Slice none none (some ste) p2) pos) (fun σ H Q => te σ H fun x H1 => ts σ H1 fun k H2 => k = some (-1) ∧ rRevT X.K x H2 Q) := by
  refine ⟨fun pins s σ H Q I h => Subscript_ (thn (he.run pins s σ H _ I h) fun v s1 ⟨x, H1, I1, r1, q1⟩ => wpAny_Slice ?_)⟩
  rw [evalPart_none]
  refine wpAny_pure (wpAny_pure (thn (hs.run pins s1 σ H1 _ I1 q1) fun vs s3 ⟨k, H3, I3, pk, ek, a, xs, ex, hx, q⟩ => ?_))
  subst ek; subst ex
  have I4 : Inv X pins σ H3 { s3 with heap := s3.heap.push { cls := .type "slice", data := .fields #[.none, .none, vs] } } := I3.kept (t' := s3.toks) fun b ob q => Heap.get?_push_of_some _ q
  cases r1
  obtain ⟨its, r, ht, hz⟩ := I4.tuple hx
  have hlen := r.length
  have hg : wpAny (model X.prog X.w) X.A (getItem (.ref a) (.ref s3.heap.objs.size)) (EP X pins σ Q) X.xe { s3 with heap := s3.heap.push { cls := .type "slice", data := .fields #[.none, .none, vs] } } := by
    refine item_back ht (Heap.IsSliceOf.new ..) pk ?_ (by rw [List.size_toArray]; omega)
    refine ⟨.ref _, _, I4.laid (t' := s3.toks) (o := .tup xs.reverse) (fun b ob q => Heap.get?_push_of_some _ q) (Nat.le_refl _) ?_, rfl, q _ (I4.hok.fresh (Nat.le_refl _))⟩
    exact ⟨by rw [List.length_reverse]; exact hz, _, vals_reverse r, _, Heap.get?_push_size _ rfl, rfl, 0, rfl⟩
  show wpAny (model X.prog X.w) X.A (subscriptTail e (.Slice none none (some ste) p2) (.ref a) (.ref s3.heap.objs.size)) (EP X pins σ Q) X.xe { s3 with heap := s3.heap.push { cls := .type "slice", data := .fields #[.none, .none, vs] } }
  exact tail_any (ops := [.ref a, .ref s3.heap.objs.size]) ht.typeIs slot_tuple_getitem.lookup hg (by with_unfolding_all rfl)
/-- t[::-1] of a tuple -/
def mRevT (me : ME) (mo : MO) : ME := fun ρ S => (me ρ S).bind fun d S1 => (mo ρ S1).bind fun k S2 => match d with
  | .tup l => if k = some (-1) then .ok (.tup l.reverse) S2 else .bad
  | _ => .bad
theorem em_revT {e ste : Expr} {me : ME} {mo : MO} {pos p2 : Pos} (he : EM X e me) (hs : OM X (some ste) mo) : EM X (.Subscript e (.Slice none none (some ste) p2) pos) (mRevT me mo) := PE.of (pe_revT he hs) fun σ H Q ⟨g, w, o, ρ, S, d, S', s, hm, q⟩ => by
  obtain ⟨d1, S1, h1, hm⟩ := R.bind_ok hm
  obtain ⟨k1, S2, h2, hm⟩ := R.bind_ok hm
  split at hm
  · rename_i l
    split at hm
    · rename_i hk
      cases hm
      refine ⟨g, w, o, ρ, S, _, S1, s, h1, fun v g1 H1 x1 s1 r1 => ?_⟩
      have t1 := s.ext x1 s1
      refine ⟨g1, w, o, ρ, S1, _, _, t1, h2, fun g2 H2 x2 s2 => ⟨hk, ?_⟩⟩
      obtain ⟨a, vs, ev, hq, r⟩ := RelD.ext x2 _ _ r1
      exact ⟨a, vs, ev, hq, fun t ht => q _ g2 _ ((x1.trans x2).trans (.new ht)) (s2.new ht) ⟨t, _, rfl, .inl (.inl upd_same), RelDs.ext (.new ht) _ _ (RelDs.rev r)⟩⟩
    · cases hm
  · cases hm
@[simp] theorem mRevT_eq (me : ME) (mo : MO) (ρ : MEnv) (S : Store) : mRevT me mo ρ S = (me ρ S).bind fun d S1 => (mo ρ S1).bind fun k S2 => (match d with
  | .tup l => if k = some (-1) then .ok (.tup l.reverse) S2 else .bad
  | _ => .bad) := rfl
end
end Mo
set_option maxRecDepth 100000
set_option maxHeartbeats 1000000
/-! Mo: statements that may end in an exception of an own class with fields. -/
namespace Mo
open PySem PySem.Spec PyProof.Rows L2
/-- an end of a statement, or an exception: its class by name, its fields, the frame's slots -/
inductive FX where
  | fl (f : Fl)
  | ex (c : Str) (fs : List (Str × D)) (ρ : MEnv)
abbrev MX := MEnv → Store → R FX
def RelFs (K : PySem.W.Frag) (g f : List Addr) (H : Hp) (fs : List (Str × D)) (vs : List (Str × V)) : Prop := fs.map (·.1) = vs.map (·.1) ∧ RelDs K g f H (fs.map (·.2)) (vs.map (·.2))
def FinX (K : PySem.W.Frag) (mg : Str → Option Value) (g w o : List Addr) (H : Hp) (r : FX) (S' : Store) (E : Ends) (W : WX) : Prop := match r with
  | .fl fl => FinS K g w o H fl S' E
  | .ex c fs ρ' => ∀ g' o' H', ExtS g o H g' o' H' → ∀ (σ' : L2.St) (C dd : Addr) (vs : List (Str × V)), mg c = some (.ref C) → Sta K g' w o' ρ' S' σ' H' → H' dd = some (.xd vs) → RelFs K g' (w ++ o') H' fs vs → W (.ref C) (some dd) σ' H'
def tX (K : PySem.W.Frag) (mg : Str → Option Value) (W : WX) (m : MX) : TS := fun E σ H => ∃ g w o ρ S r S', Sta K g w o ρ S σ H ∧ m ρ S = .ok r S' ∧ FinX K mg g w o H r S' E W
def XM (X : Cx) (W : WX) (st : Stmt) (m : MX) : Prop := PS X st (tX X.K X.mg W m)
def XsM (X : Cx) (W : WX) (st : List Stmt) (m : MX) : Prop := PSs X st (tX X.K X.mg W m)
theorem FinX.after {K : PySem.W.Frag} {mg : Str → Option Value} {g w o g1 o1 : List Addr} {H H1 : Hp} {r : FX} {S' : Store} {E : Ends} {W : WX} (q : FinX K mg g w o H r S' E W) (x : ExtS g o H g1 o1 H1) : FinX K mg g1 w o1 H1 r S' E W := by
  cases r with
  | fl f => exact FinS.after q x
  | ex c fs ρ => exact fun g' o' H' y => q g' o' H' (x.trans y)
section
variable {X : Cx} {W : WX} {st : Stmt} {rest : List Stmt} {c : Expr} {pos : Pos} {m : MS} {m1 m2 ma mb : MX} {mt : MT}
/-- what raises nothing -/
def mUp (m : MS) : MX := fun ρ S => (m ρ S).bind fun fl S1 => .ok (.fl fl) S1
theorem xm_up (h : SM X st m) : XM X W st (mUp m) := PS.of h fun E σ H ⟨g, w, o, ρ, S, r, S', s, hm, q⟩ => by
  obtain ⟨fl, S1, e1, hm⟩ := R.bind_ok hm
  cases hm
  exact ⟨g, w, o, ρ, S, fl, _, s, e1, q⟩
theorem xsm_up {st : List Stmt} (h : SsM X st m) : XsM X W st (mUp m) := PSs.of h fun E σ H ⟨g, w, o, ρ, S, r, S', s, hm, q⟩ => by
  obtain ⟨fl, S1, e1, hm⟩ := R.bind_ok hm
  cases hm
  exact ⟨g, w, o, ρ, S, fl, _, s, e1, q⟩
def mSeqX (m1 m2 : MX) : MX := fun ρ S => (m1 ρ S).bind fun r S1 => match r with
  | .fl (.nx ρ1) => m2 ρ1 S1
  | r => .ok r S1
theorem xsm_cons (h1 : XM X W st m1) (h2 : XsM X W rest m2) : XsM X W (st :: rest) (mSeqX m1 m2) := PSs.of (pss_cons h1 h2) fun E σ H ⟨g, w, o, ρ, S, r, S', s, hm, q⟩ => by
  obtain ⟨f1, S1, e1, hm⟩ := R.bind_ok hm
  refine ⟨g, w, o, ρ, S, f1, S1, s, e1, ?_⟩
  cases f1 with
  | ex c fs ρ1 => cases hm; exact q
  | fl f1 =>
    refine fun g1 o1 H1 x1 => ?_
    cases f1 with
    | nx ρ1 => exact fun σ1 s1 => ⟨g1, w, o1, ρ1, S1, r, S', s1, hm, q.after x1⟩
    | rt d => cases hm; exact q g1 o1 H1 x1
    | bk d => cases hm; exact q g1 o1 H1 x1
    | ct d => cases hm; exact q g1 o1 H1 x1
theorem xsm_one (h1 : XM X W st m1) : XsM X W [st] m1 := pss_one h1
def mIfX (mt : MT) (a b : MX) : MX := fun ρ S => (mt ρ S).bind fun k S1 => if k = true then a ρ S1 else b ρ S1
theorem xm_if {a b : List Stmt} (hc : TM X c mt) (ha : XsM X W a ma) (hb : XsM X W b mb) : XM X W (.If c a b pos) (mIfX mt ma mb) := PS.of (ps_if hc ha hb) fun E σ H ⟨g, w, o, ρ, S, r, S', s, hm, q⟩ => by
  obtain ⟨k, S1, e1, hm⟩ := R.bind_ok hm
  refine ⟨g, w, o, ρ, S, k, S1, s, e1, fun g1 H1 x1 s1 => ?_⟩
  have st1 := s.ext x1 s1
  cases k with
  | true => exact ⟨g1, w, o, ρ, S1, r, S', st1, by rw [if_pos rfl] at hm; exact hm, q.after x1.s⟩
  | false => exact ⟨g1, w, o, ρ, S1, r, S', st1, by rw [if_neg Bool.false_ne_true] at hm; exact hm, q.after x1.s⟩
end
end Mo
namespace Mo
open PySem PySem.Spec PyProof.Rows L2
/-- what an __init__ of one part keeps: self.f = the part -/
def spInit1 (C : Addr) (f : Str) : Sp := fun vs H Q _ => ∃ (a : Addr) (y : V), vs = [.ref a, y] ∧ H a = some (exo a C none) ∧ ∀ dx, H dx = none → dx ≠ a → Q .non (upd (upd H dx (exd dx [(f, y)])) a (exo a C (some dx)))
/-- raise C(e) -/
def mRaise1 (c f : Str) (me : ME) : MX := fun ρ S => (me ρ S).bind fun d S1 => .ok (.ex c [(f, d)] ρ) S1
theorem upd_del {H : Hp} {a dx : Addr} {u v o z : HO} (ha : H a = none) (hne : dx ≠ a) : upd (del (upd (upd (upd H a u) dx v) a o) a) dx z = upd H dx z := by
  funext b
  by_cases h1 : b = dx
  · subst h1; rw [upd_same, upd_same]
  · rw [upd_ne h1, upd_ne h1]
    by_cases h2 : b = a
    · subst h2; rw [del_same, ha]
    · rw [del_ne h2, upd_ne h2, upd_ne h1, upd_ne h2]
section
variable {X : Cx} {W : WX} {e : Expr} {me : ME} {p pos pos2 : Pos} {CX : CXT} {x f : Str} {C fI : Addr} {k : Nat} {fd : FuncData} {ps : List Str}
theorem xm_raise1 (hc : X.calm = true) (tk : Takes X W) (T : OexC X.K C) (iC : PySem.W.findIn X.K (.ref C) "__init__" = some (some (.ref fI))) (tI : PySem.W.typeIn X.K (.ref fI) = some (.type "function"))
    (F1 : FnOk X.prog X.w X.K X.mg X.base CX k fI fd ps (spInit1 C f)) (hr : Room (k + 1) X.A) (hb : Binds X.K fd ps []) (hx : Passes CX X (fun _ _ _ => False)) (hg : Gl X x) (hm : X.mg x = some (.ref C)) (he : EM X e me)
    (hdb : (x == ("__debug__" : Str)) = false := by decide) (hs : starEach [e] X.env = (false, eval e X.env) :: starEach [] X.env := by rfl) (hpl : (backTo pos (starEach [] X.env)).any (·.1) = false := by rfl) :
    XM X W (.Raise (some (.Call (.Name x p) [e] [] pos)) none pos2) (mRaise1 x f me) :=
  PS.of (ps_raise hc tk (pmk_oex (dvs := []) T iC tI F1 hr hb .nil hx hg hm (am_cons he am_nil hs) hdb hs hpl)) fun E σ H ⟨g, w, o, ρ, S, r, S', s, hm', q⟩ => by
    obtain ⟨d, S1, h1, hm'⟩ := R.bind_ok hm'
    cases hm'
    refine ⟨g, w, o, ρ, S, [d], _, s, by rw [aCons_eq, h1]; rfl, fun vs g1 H1 x1 s1 r1 => ?_⟩
    obtain ⟨y, ws, ev, ry, rn⟩ := r1
    cases rn; subst ev
    refine ⟨by simp, fun a ha => ⟨a, y, rfl, upd_same, fun dx hdx hne => ⟨rfl, dx, [(f, y)], upd_same, ?_, ?_, ?_⟩⟩⟩
    · rw [upd_ne hne, upd_same]
    · rw [upd_ne hne] at hdx; exact hdx
    · rw [upd_ne hne] at hdx
      rw [upd_del ha hne]
      have x2 : Ext g1 H1 g1 (upd H1 dx (.xd [(f, y)])) := .new hdx
      exact q g1 o _ (x1.trans x2).s σ C dx [(f, y)] hm (s.ext (x1.trans x2) (s1.new hdx)) upd_same ⟨rfl, ⟨y, [], rfl, RelD.ext x2 _ _ ry, rfl⟩⟩
end
end Mo
set_option maxRecDepth 100000
set_option maxHeartbeats 1000000
/-! Mo: an __init__ of one part. -/
namespace Mo
open PySem PySem.Spec PyProof.Rows L2
theorem init1_ok {CX : CXT} {P : Program} {w : World} {K : PySem.W.Frag} {mg : Str → Option Value} {base : Heap} {k : Nat} {fI C : Addr} {name qual : Str} {params : Arguments} {scope : Scope} {dV kV doc pm cdv ct oc : Value} {an od : Option Addr}
    {osl : Array (Option Value)} {x y f : Str} {p1 p2 p3 pos : Pos} (lk : K.lookup fI = some ⟨oc, od, .func (PySem.W.fnOf name qual params [.Assign [.Attribute (.Name x p1) f p2] (.Name y p3) pos] scope dV kV doc pm an cdv ct), osl⟩) (hcd : PySem.W.codeIn K cdv qual = true) (S : FnScope [x, y] [x, y] scope)
    (T : OexC K C) (hno : PySem.W.findIn K (.ref C) f = some none) (hx : scope.names.lookup x = some .local) (hy : scope.names.lookup y = some .local)
    (dx : (x == ("__debug__" : Str)) = false := by decide) (cx : (x == ("__classdict__" : Str)) = false := by decide) (dy : (y == ("__debug__" : Str)) = false := by decide) (cy : (y == ("__classdict__" : Str)) = false := by decide) :
    FnOk P w K mg base CX (k + 1) fI (PySem.W.fnOf name qual params [.Assign [.Attribute (.Name x p1) f p2] (.Name y p3) pos] scope dV kV doc pm an cdv ct) [x, y] (spInit1 C f) := by
  refine fn_of lk hcd S (fun vs H Q E ⟨a, v, e, _⟩ => by rw [e]; rfl) ?_
  rintro A outer s H vs Q E hr ⟨a, v, rfl, h1, h2⟩
  refine ⟨_, pss_cons (ps_ost (pe_var (i := 0) rfl (.inl hx) dx cx) (pe_var (i := 1) rfl (.inl hy) dy cy)) pss_nil, ?_⟩
  exact ⟨v, rfl, .ref a, rfl, a, C, rfl, T, hno, .inl ⟨h1, fun d hd hne => h2 d hd hne⟩⟩
end Mo
set_option maxRecDepth 100000
set_option maxHeartbeats 1000000
/-! Mo: functions that may raise. -/
namespace Mo
open PySem PySem.Spec PyProof.Rows L2
/-- what a function ends in -/
inductive RX where
  | rt (d : D)
  | ex (c : Str) (fs : List (Str × D))
abbrev MFX := List D → Store → R RX
def mDefX (n : Nat) (b : MX) : MFX := fun ds S => (b (ds.map (fun d => some (.val d)) ++ List.replicate (n - ds.length) none) S).bind fun r S1 => match r with
  | .fl (.rt d) => .ok (.rt d) S1
  | .fl (.nx _) => .ok (.rt .non) S1
  | .ex c fs _ => .ok (.ex c fs) S1
  | _ => .bad
def spX (K : PySem.W.Frag) (mg : Str → Option Value) (n : Nat) (m : MFX) : Sp := fun vs H Q E => vs.length = n ∧ ∃ g f ds S r S', (∀ a ∈ f, H a ≠ none) ∧ RelS K g f H S ∧ RelDs K g f H ds vs ∧ m ds S = .ok r S' ∧ (match r with
  | .rt d => FinE K g f H d S' Q
  | .ex c fs => ∀ g' H', Ext g H g' H' → RelS K g' f H' S' → ∀ (C dd : Addr) (vs' : List (Str × V)), mg c = some (.ref C) → H' dd = some (.xd vs') → RelFs K g' f H' fs vs' → E (.ref C) (some dd) H')
section
variable {P : Program} {w : World} {K : PySem.W.Frag} {mg : Str → Option Value} {base : Heap}
theorem def_startX {N ps : List Str} {b : MX} {X : Cx} {body : List Stmt} {Q : VK} {E : XK} {vs : List V} {H : Hp} (hX : X.K = K) (hg : X.mg = mg) (hb : XsM X (fun cls d _ H => E cls d H) body b) (h : spX K mg ps.length (mDefX N.length b) vs H Q E) :
    ∃ t, PSs X body t ∧ t { nx := fun _ H' => Q .non H', rt := Q } (start N vs) H := by
  subst hX; subst hg
  obtain ⟨hl, g, f, ds, S, d, S', hf, s, r, hm, q⟩ := h
  obtain ⟨fl, S1, h1, hm⟩ := R.bind_ok hm
  refine ⟨_, hb, g, f, [], _, S, fl, S1, Sta.start hf s r, h1, ?_⟩
  cases fl with
  | ex c fs ρ =>
    cases hm
    exact fun g1 o1 H1 x1 σ' C dd vs' hc st hd rf => q g1 H1 x1.ext (st.sto.less fun b hb => List.mem_append_left _ hb) C dd vs' hc hd ⟨rf.1, rf.2.less fun b hb => List.mem_append_left _ hb⟩
  | fl fl =>
    refine fun g1 o1 H1 x1 => ?_
    cases fl with
    | rt v => cases hm; exact fun v t rr => q v g1 H1 x1.ext t rr
    | nx ρ => cases hm; exact fun σ st => q .non g1 H1 x1.ext (st.sto.less fun b hb => List.mem_append_left _ hb) rfl
    | bk ρ => cases hm
    | ct ρ => cases hm
/-- the rule for a def that may raise -/
theorem def_okX {x qual : Str} {st : Stmt} {a : Addr} {fd : FuncData} {N ps : List Str} {k : Nat} {b : MX} (F : Fun K x qual st a fd) (S : FnScope N ps (defScope st))
    (hb : ∀ (cdv : Value) (A : Around) (out : List Env) (s : Shared) (H : Hp) (E : XK), (A.deeper (envOfC qual (defScope st) s.heap.objs.size a cdv)).guards = some [] → Room k (A.deeper (envOfC qual (defScope st) s.heap.objs.size a cdv)) →
      Takes (cxOf (L2.CX P w) P w K mg base N qual (defScope st) a cdv A out s H E) (fun cls d _ H => E cls d H) → XsM (cxOf (L2.CX P w) P w K mg base N qual (defScope st) a cdv A out s H E) (fun cls d _ H => E cls d H) (defBody st) b) : FnG P w K mg base (L2.CX P w) (k + 1) a fd ps (spX K mg ps.length (mDefX N.length b)) := by
  refine ⟨fun vs H Q E h => h.1, ?_⟩
  intro A out s H ar us vs Q E hgd hr e0 hbi rv hsp
  obtain ⟨oc, od, kV, doc, pm, an, cdv, ct, osl, rfl, lk, hcd⟩ := F.ex
  have hl : vs.length = ps.length := hsp.1
  have hK : K.In s.heap := e0.mod.kin.keeps fun b o e => (e0.bs b o e).1
  have hlim : s.heap.NoLimit := e0.mod.nolimit.keeps fun b o e => (e0.bs b o e).1
  refine codeAny_call_function hr.depth (hK _ _ lk) rfl S.co S.gen rfl (PySem.W.codeRec_of hK hcd) (hbi _ _ _ _ ?_)
  have kinds : ∀ y ∈ ps.zip us, (defScope st).names.lookup y.1 = some .local ∨ ((defScope st).names.lookup y.1 = some .cell ∧ ((cellsFrom (s.heap.objs.size + 1) (defScope st).names []).lookup y.1).isSome = true) := by
    rintro ⟨nm, v⟩ hy
    exact (S.par nm (List.of_mem_zip hy).1).imp id fun q => ⟨q, PySem.W.cellsFrom_some _ _ _ (.inl q)⟩
  refine wpAny_newFunctionEnv_cells S.kind kinds fun en hen s1 ic => ?_
  subst hen
  refine ⟨hlim.keeps ic.toInCall.keep, codeAny_func ?_⟩
  have tk : Takes (cxOf (L2.CX P w) P w K mg base N qual (defScope st) a cdv A out s H E) (fun cls d _ H => E cls d H) := takes_of rfl rfl rfl rfl
  obtain ⟨t, ht, hq⟩ := def_startX (N := N) (ps := ps) (K := K) (mg := mg) rfl rfl (hb cdv A out s H E hgd (hr.deeper _) tk) hsp
  have I := inv_start (CX := L2.CX P w) (mg := mg) (E := E) S hr.hd e0 hl rv ic
  refine wpAny_mono (ht.run [] s1 (start N vs) H _ I hq) (fun fl s' hs => ?_) fun _ _ q => q
  match fl, hs with
  | .ret u, ⟨v, σ', H', J, rr, q⟩ => exact ⟨v, H', J.os, J.bare, J.base, J.hok, rr, q⟩
  | .next, ⟨σ', H', J, q⟩ => exact ⟨V.non, H', J.os, J.bare, J.base, J.hok, rfl, q⟩
  | .brk, ⟨_, _, _, q⟩ => exact q.elim
  | .cont, ⟨_, _, _, q⟩ => exact q.elim
/-- where it raises nothing -/
def mNo (m : MFX) : MF := fun ds S => (m ds S).bind fun r S1 => match r with
  | .rt d => .ok d S1
  | .ex _ _ => .bad
theorem FnG.no {k n : Nat} {a : Addr} {fd : FuncData} {ps : List Str} {m : MFX} (F : FnG P w K mg base (L2.CX P w) k a fd ps (spX K mg n m)) (hn : n = ps.length) : FnG P w K mg base CX0 k a fd ps (spM K n (mNo m)) := by
  refine ⟨fun vs H Q E h => h.1.trans hn, fun A out s H ar us vs Q E hgd hr e0 hb rv h => ?_⟩
  obtain ⟨hl, g, f, ds, S, d, S', hf, hs, hr2, hm, q⟩ := h
  obtain ⟨r, S1, h1, hm⟩ := R.bind_ok hm
  cases r with
  | ex c fs => cases hm
  | rt d =>
    cases hm
    refine codeAny_mono (F.go A out s H ar us vs Q (fun _ _ _ => False) hgd hr e0 hb rv ⟨hl, g, f, ds, S, .rt d, _, hf, hs, hr2, h1, q⟩) fun r s' hq => ?_
    match r, hq with
    | .error e, hq =>
      obtain ⟨_, _, _, _, _, _, _, _, _, _, _, _, z⟩ := hq
      exact z.elim
    | .ok (.ret u), hq => exact hq
    | .ok .next, hq => exact hq
    | .ok .brk, hq => exact hq
    | .ok .cont, hq => exact hq
end
end Mo
set_option maxRecDepth 100000
set_option maxHeartbeats 1000000
/-! Mo: calls of functions that may raise. -/
namespace Mo
open PySem PySem.Spec PyProof.Rows L2
abbrev MEX := MEnv → Store → R RX
def tEX (K : PySem.W.Frag) (mg : Str → Option Value) (W : WX) (m : MEX) : TE := fun σ H Q => ∃ g w o ρ S r S', Sta K g w o ρ S σ H ∧ m ρ S = .ok r S' ∧ (match r with
  | .rt d => ∀ v g' H', Ext g H g' H' → RelS K g' (w ++ o) H' S' → RelD K g' (w ++ o) H' d v → Q v H'
  | .ex c fs => ∀ g' H', Ext g H g' H' → RelS K g' (w ++ o) H' S' → ∀ (C dd : Addr) (vs : List (Str × V)), mg c = some (.ref C) → H' dd = some (.xd vs) → RelFs K g' (w ++ o) H' fs vs → W (.ref C) (some dd) σ H')
def EX (X : Cx) (W : WX) (e : Expr) (m : MEX) : Prop := PE X e (tEX X.K X.mg W m)
def mCallX (m : MFX) (n : Nat) (dv : List D) (l : MA) : MEX := fun ρ S => (l ρ S).bind fun ds S1 => if (ds ++ dv).length = n then m (ds ++ dv) S1 else .bad
section
variable {X : Cx} {W : WX} {k n : Nat} {a : Addr} {fd : FuncData} {ps : List Str} {x : Str} {p pos : Pos} {e : Expr} {es : List Expr} {l : MA} {m : MFX} {dv : List D} {dvs : List V} {dws : List Value} {mx : MEX}
theorem FnG.runS {CX : CXT} {sp : Sp} {E : XK} {pins : List (Addr × Obj)} {σ : L2.St} {H : Hp} {s : Shared} {Q : VK} {us : List Value} {vs : List V} {all : List Value} (F : FnG X.prog X.w X.K X.mg X.base CX k a fd ps sp)
    (hg : X.A.guards = some []) (hr : Room k X.A) (hb : all.length = ps.length → BindsTo s fd ⟨us, []⟩ (ps.zip all)) (hx : PassesAt CX X σ E) (I : Inv X pins σ H s) (r : Vals vs all) (h : sp vs H Q E) :
    wpAny (model X.prog X.w) X.A (call (.ref a) us []) (EP X pins σ Q) X.xe s := by
  have hl : all.length = ps.length := r.length ▸ F.many _ _ _ _ h
  refine wpAny_call (codeAny_mono (F.go X.A X.stack s H _ all vs Q E hg hr I.env0 (hb hl) r h) ?_)
  intro q s' hq
  match q, hq with
  | .error e, hq => exact hx pins H s e s' I hq
  | .ok (.ret u), hq => exact I.after hq
  | .ok .next, hq => exact hq.elim
  | .ok .brk, hq => exact hq.elim
  | .ok .cont, hq => exact hq.elim
theorem ex_call (tk : Takes X W) (F : FnG X.prog X.w X.K X.mg X.base (L2.CX X.prog X.w) k a fd ps (spX X.K X.mg n m)) (hgd : X.A.guards = some []) (hr : Room k X.A) (hg : Gl X x) (hm : X.mg x = some (.ref a)) (hk : PySem.W.keepIn X.K (.ref a) = true) (hb : Binds X.K fd ps dws) (hd : Vals dvs dws)
    (hdd : ∀ K g f H, RelDs K g f H dv dvs) (ha : AM X (e :: es) l) (hdb : (x == ("__debug__" : Str)) = false := by decide) (he : starEach (e :: es) X.env = (false, eval e X.env) :: starEach es X.env := by rfl)
    (hpl : (backTo pos (starEach es X.env)).any (·.1) = false := by rfl) : EX X W (.Call (.Name x p) (e :: es) [] pos) (mCallX m n dv l) := by
  refine ⟨fun pins s σ H Q I h => ?_⟩
  obtain ⟨g, w, o, ρ, S, r, S', st, hq, q⟩ := h
  obtain ⟨ds, S1, h1, hq⟩ := R.bind_ok hq
  split at hq
  · rename_i hl
    refine wpAny_Call_Name_kw (ld_glob I hg hm (PySem.W.callWith_K (h₀ := X.base) I.ok.mod.kin hk ?_ he hpl) hdb)
    refine thn (PA.run ha pos pins s σ H _ I ⟨g, w, o, ρ, S, ds, S1, st, h1, fun vs g1 H1 x1 s1 r1 => (⟨g1, H1, rfl, x1, s1, r1⟩ : ∃ g1 H2, H1 = H2 ∧ Ext g H g1 H2 ∧ RelS X.K g1 (w ++ o) H2 S1 ∧ RelDs X.K g1 (w ++ o) H2 ds vs)⟩) fun us s1 ⟨vs, H1, I1, rv, g1, H1', e1, x1, t1, r1⟩ => ⟨I1.kIn, ?_⟩
    subst e1
    have r2 := RelDs.append r1 (hdd X.K g1 (w ++ o) H1)
    refine FnG.runS (E := WE W σ) F hgd hr (hb s1 us I1.kIn) (passAt tk σ) I1 (rv.append hd) ⟨by rw [← r2.length]; exact hl, g1, w ++ o, ds ++ dv, S1, r, S', fun b hb => x1.live b (st.liv b hb), t1, r2, hq, ?_⟩
    cases r with
    | rt d => exact fun v g2 H2 x2 s2 r3 => q v g2 H2 (x1.trans x2) s2 r3
    | ex c fs => exact fun g2 H2 x2 s2 C dd vs' hc hdx rf => q g2 H2 (x1.trans x2) s2 C dd vs' hc hdx rf
  · cases hq
/-- e, a statement -/
def mDropX (m : MEX) : MX := fun ρ S => (m ρ S).bind fun r S1 => match r with
  | .rt _ => .ok (.fl (.nx ρ)) S1
  | .ex c fs => .ok (.ex c fs ρ) S1
theorem xm_drop (he : EX X W e mx) (hs : swapsWith e none pos.line X.env = pure false := by rfl) : XM X W (.Expr e pos) (mDropX mx) := PS.of (ps_expr he hs) fun E σ H ⟨g, w, o, ρ, S, r, S', s, hm, q⟩ => by
  obtain ⟨r1, S1, e1, hm⟩ := R.bind_ok hm
  cases r1 with
  | rt d =>
    cases hm
    exact ⟨g, w, o, ρ, S, .rt d, _, s, e1, fun v g1 H1 x1 s1 r1 => q g1 o H1 x1.s _ (s.ext x1 s1)⟩
  | ex c fs =>
    cases hm
    exact ⟨g, w, o, ρ, S, .ex c fs, _, s, e1, fun g1 H1 x1 s1 C dd vs hc hd rf => q g1 o H1 x1.s σ C dd vs hc (s.ext x1 s1) hd rf⟩
/-- name = e -/
def mSetX (j : Nat) (m : MEX) : MX := fun ρ S => (m ρ S).bind fun r S1 => match r with
  | .rt d => .ok (.fl (.nx (ρ.set j (some (.val d))))) S1
  | .ex c fs => .ok (.ex c fs ρ) S1
theorem xm_set {st : Stmt} {j : Nat} (h : PS X st (tAsg (tEX X.K X.mg W mx) (gName j))) : XM X W st (mSetX j mx) := PS.of h fun E σ H ⟨g, w, o, ρ, S, r, S', s, hm, q⟩ => by
  obtain ⟨r1, S1, e1, hm⟩ := R.bind_ok hm
  cases r1 with
  | rt d =>
    cases hm
    exact ⟨g, w, o, ρ, S, .rt d, _, s, e1, fun v g1 H1 x1 s1 r1 => q g1 o H1 x1.s _ ((s.ext x1 s1).set r1)⟩
  | ex c fs =>
    cases hm
    exact ⟨g, w, o, ρ, S, .ex c fs, _, s, e1, fun g1 H1 x1 s1 C dd vs hc hd rf => q g1 o H1 x1.s σ C dd vs hc (s.ext x1 s1) hd rf⟩
/-- return e -/
def mRetX (m : MEX) : MX := fun ρ S => (m ρ S).bind fun r S1 => match r with
  | .rt d => .ok (.fl (.rt d)) S1
  | .ex c fs => .ok (.ex c fs ρ) S1
theorem xm_ret (he : EX X W e mx) : XM X W (.Return (some e) pos) (mRetX mx) := PS.of (ps_ret he) fun E σ H ⟨g, w, o, ρ, S, r, S', s, hm, q⟩ => by
  obtain ⟨r1, S1, e1, hm⟩ := R.bind_ok hm
  cases r1 with
  | rt d =>
    cases hm
    exact ⟨g, w, o, ρ, S, .rt d, _, s, e1, fun v g1 H1 x1 s1 r1 => q g1 o H1 x1.s v (s1.less fun b hb => List.mem_append_left _ hb) (RelD.less (fun b hb => List.mem_append_left _ hb) _ _ r1)⟩
  | ex c fs =>
    cases hm
    exact ⟨g, w, o, ρ, S, .ex c fs, _, s, e1, fun g1 H1 x1 s1 C dd vs hc hd rf => q g1 o H1 x1.s σ C dd vs hc (s.ext x1 s1) hd rf⟩
end
end Mo
set_option maxRecDepth 100000
set_option maxHeartbeats 1000000
/-! Mo: try: .. except C as e: name = e.field. -/
namespace Mo
open PySem PySem.Spec PyProof.Rows L2
theorem relfs_at {K : PySem.W.Frag} {g f : List Addr} {H : Hp} {k : Str} {d : D} : ∀ {fs : List (Str × D)} {vs : List (Str × V)}, RelFs K g f H fs vs → fs.lookup k = some d → ∃ v, vs.lookup k = some v ∧ RelD K g f H d v
  | [], _, _, h => by cases h
  | (a, b) :: fs, [], ⟨h1, _⟩, _ => by cases h1
  | (a, b) :: fs, (a', b') :: vs, ⟨h1, h2⟩, h => by
    rw [List.map_cons, List.map_cons] at h1
    injection h1 with h1 h3
    obtain ⟨v, r, e, rv, rr⟩ := h2
    injection e with e1 e2
    dsimp only at h1 e1
    subst h1; subst e1
    rw [List.lookup_cons] at h ⊢
    cases q : k == a with
    | true =>
      rw [q] at h
      cases h
      exact ⟨_, rfl, rv⟩
    | false =>
      rw [q] at h
      subst e2
      exact relfs_at ⟨h3, rr⟩ h
def mTryF (mb : MX) (c : Str) (i j : Nat) (f : Str) : MS := fun ρ S => (mb ρ S).bind fun r S1 => match r with
  | .fl fl => .ok fl S1
  | .ex c' fs ρ1 => if c' = c ∧ i < ρ1.length then match fs.lookup f with
    | some d => .ok (.nx ((ρ1.set j (some (.val d))).set i none)) S1
    | none => .bad
    else .bad
section
variable {X : Cx} {C : Addr} {body : List Stmt} {mb : MX} {x n y f : Str} {i j : Nat} {np p1 p2 p3 p4 pos pos' : Pos}
theorem sm_try_field (hs : X.stack = X.env :: X.outer) (hf : X.env.frame = some X.env.locals) (hN : X.N.Nodup) (hi : X.N[i]? = some n) (hln : X.env.kindOf n = some .local) (hij : i ≠ j) (hj : X.N[j]? = some y) (hy : Loc X.env.scope y) (hyl : X.env.scope.names.lookup y = some .local) (hv : Vis X.env.scope n)
    (cm : X.mg x = some (.ref C)) (hc : Names X x (.ref C)) (T : XfC X.K C) (tyC : PySem.W.typeIn X.K (.ref C) = some (.type "type")) (self : PySem.W.subIn X.K (.ref C) (.ref C) = some true) (hno : PySem.W.findIn X.K (.ref C) f = some none)
    (hb : ∀ (W : WX) (pn : List (Addr × Obj)) (xe : Value → Shared → Prop), Takes (X.tr pn xe) W → XsM (X.tr pn xe) W body mb)
    (hd : (n == ("__debug__" : Str)) = false := by decide) (hcd : (n == ("__classdict__" : Str)) = false := by decide) :
    SM X (.Try body [.ExceptHandler (some (.Name x np)) (some n) [.Assign [.Name y p1] (.Attribute (.Name n p2) f p3) p4] pos'] [] [] pos) (mTryF mb x i j f) :=
  PS.of (ps_try_as (Wout := fun _ _ _ _ => False) (tb := fun W => tX X.K X.mg W mb) (ts := fun a cls d => tAsg (tXf a cls d C f (tVar i)) (gName j)) hs hf hN hi hln hc (fun u s' h => by
      obtain ⟨_, _, _, _, _, _, _, _, _, _, _, _, _, _, _, _, z⟩ := h
      exact z.elim)
    (fun W pn xe tk _ => hb W pn xe tk) (fun a oe cls d pn hz hf' => pss_one (ps_set (i := j) hN hj hy (pe_xf T hno hz hf' (pe_var (i := i) hi hv hd hcd)) (hf := .inr hyl)))) fun E σ H ⟨g, w, o, ρ, S, fl, S', s, hm, q⟩ => by
    obtain ⟨r1, S1, e1, hm⟩ := R.bind_ok hm
    cases r1 with
    | fl f1 =>
      cases hm
      exact ⟨g, w, o, ρ, S, _, _, s, e1, q⟩
    | ex c' fs ρ1 =>
      dsimp only at hm
      split at hm
      · rename_i hcc
        obtain ⟨hcx, hlen⟩ := hcc
        cases hl : fs.lookup f with
        | none => rw [hl] at hm; cases hm
        | some d =>
          rw [hl] at hm
          cases hm
          refine ⟨g, w, o, ρ, S, _, _, s, e1, fun g1 o1 H1 x1 σ1 C' dd vs hc' st hdd rf => ?_⟩
          rw [hcx, cm] at hc'
          cases hc'
          refine ⟨true, PySem.W.exm_ref T.exC T.hdC tyC self, fun _ a ha => ?_, fun z => nomatch z⟩
          obtain ⟨v, hv1, rv⟩ := relfs_at rf hl
          have hli : i < σ1.length := by rw [← st.len]; exact hlen
          refine ⟨.ref a, List.getElem?_set_self hli, rfl, rfl, dd, vs, v, rfl, hdd, hv1, ?_⟩
          have e2 : ((σ1.set i (some (.ref a))).set j (some v)).set i none = (σ1.set j (some v)).set i none := by
            rw [List.set_comm _ _ hij, List.set_set]
          show E.nx (((σ1.set i (some (.ref a))).set j (some v)).set i none) H1
          rw [e2]
          exact q g1 o1 H1 x1 _ (Sta.unset (st.set rv))
      · cases hm
end
end Mo
set_option maxRecDepth 100000
set_option maxHeartbeats 1000000
/-! Mo: the meanings of what may raise, as equations. -/
namespace Mo
open PySem PySem.Spec PyProof.Rows L2
@[simp] theorem mUp_eq (m : MS) (ρ : MEnv) (S : Store) : mUp m ρ S = (m ρ S).bind fun fl S1 => .ok (.fl fl) S1 := rfl
@[simp] theorem mSeqX_eq (m1 m2 : MX) (ρ : MEnv) (S : Store) : mSeqX m1 m2 ρ S = (m1 ρ S).bind fun r S1 => (match r with
  | .fl (.nx ρ1) => m2 ρ1 S1
  | r => .ok r S1) := rfl
@[simp] theorem mIfX_eq (mt : MT) (a b : MX) (ρ : MEnv) (S : Store) : mIfX mt a b ρ S = (mt ρ S).bind fun k S1 => if k = true then a ρ S1 else b ρ S1 := rfl
@[simp] theorem mRaise1_eq (c f : Str) (me : ME) (ρ : MEnv) (S : Store) : mRaise1 c f me ρ S = (me ρ S).bind fun d S1 => .ok (.ex c [(f, d)] ρ) S1 := rfl
theorem mDefX_eq (n : Nat) (b : MX) (ds : List D) (S : Store) : mDefX n b ds S = (b (ds.map (fun d => some (.val d)) ++ List.replicate (n - ds.length) none) S).bind fun r S1 => (match r with
  | .fl (.rt d) => .ok (.rt d) S1
  | .fl (.nx _) => .ok (.rt .non) S1
  | .ex c fs _ => .ok (.ex c fs) S1
  | _ => .bad) := rfl
theorem mNo_eq (m : MFX) (ds : List D) (S : Store) : mNo m ds S = (m ds S).bind fun r S1 => (match r with
  | .rt d => .ok d S1
  | .ex _ _ => .bad) := rfl
@[simp] theorem mCallX_eq (m : MFX) (n : Nat) (dv : List D) (l : MA) (ρ : MEnv) (S : Store) : mCallX m n dv l ρ S = (l ρ S).bind fun ds S1 => if (ds ++ dv).length = n then m (ds ++ dv) S1 else .bad := rfl
@[simp] theorem mDropX_eq (m : MEX) (ρ : MEnv) (S : Store) : mDropX m ρ S = (m ρ S).bind fun r S1 => (match r with
  | .rt _ => .ok (.fl (.nx ρ)) S1
  | .ex c fs => .ok (.ex c fs ρ) S1) := rfl
@[simp] theorem mSetX_eq (j : Nat) (m : MEX) (ρ : MEnv) (S : Store) : mSetX j m ρ S = (m ρ S).bind fun r S1 => (match r with
  | .rt d => .ok (.fl (.nx (ρ.set j (some (.val d))))) S1
  | .ex c fs => .ok (.ex c fs ρ) S1) := rfl
@[simp] theorem mRetX_eq (m : MEX) (ρ : MEnv) (S : Store) : mRetX m ρ S = (m ρ S).bind fun r S1 => (match r with
  | .rt d => .ok (.fl (.rt d)) S1
  | .ex c fs => .ok (.ex c fs ρ) S1) := rfl
@[simp] theorem mTryF_eq (mb : MX) (c : Str) (i j : Nat) (f : Str) (ρ : MEnv) (S : Store) : mTryF mb c i j f ρ S = (mb ρ S).bind fun r S1 => (match r with
  | .fl fl => .ok fl S1
  | .ex c' fs ρ1 => if c' = c ∧ i < ρ1.length then match fs.lookup f with
    | some d => .ok (.nx ((ρ1.set j (some (.val d))).set i none)) S1
    | none => .bad
    else .bad) := rfl
end Mo
set_option maxRecDepth 100000
set_option maxHeartbeats 1000000
/-! Mo: comprehensions of two fors. -/
namespace Mo
open PySem PySem.Spec PyProof.Rows L2
def mLcL2 (p : Pat) (mt : MT) (ml1 : ML) (p1 : Pat) (vs1 : List Nat) (mt1 : MT) (me : ME) : List D → MEnv → Store → R (List D)
  | [], _, S => .ok [] S
  | d :: ds, ρ, S => match p.bind d with
    | none => .bad
    | some l => (mt (setD ρ l) S).bind fun k S1 => if k = true then (ml1 (setD ρ l) S1).bind fun l1 S2 => (mLcL p1 mt1 me l1 (wipeM (setD ρ l) vs1) S2).bind fun r1 S3 => (mLcL2 p mt ml1 p1 vs1 mt1 me ds ρ S3).bind fun r S4 => .ok (r1 ++ r) S4
      else mLcL2 p mt ml1 p1 vs1 mt1 me ds ρ S1
/-- [e for p in it if t for p1 in it1 if t1] -/
def mLc2 (it : ML) (p : Pat) (vs : List Nat) (mt : MT) (it1 : ML) (p1 : Pat) (vs1 : List Nat) (mt1 : MT) (me : ME) : ML := fun ρ S => (it ρ S).bind fun l S1 => (mLcL2 p mt it1 p1 vs1 mt1 me l (wipeM ρ vs) S1).bind fun r S2 => if r.length ≤ sizeLine then .ok r S2 else .bad
theorem ext_appD {g1 g5 : List Addr} {H1 H5 : Hp} {D : Addr} {u : HO} (hD : H1 D = none) (xx : Ext g1 H1 g5 H5) (mD : Mut (H5 D)) : Ext g1 H1 g5 (upd H5 D u) := by
  refine ⟨xx.more, fun a u e hn => ?_, fun a h => ?_, fun a vs h => ?_, fun a o u h => ?_⟩
  · have : a ≠ D := fun z => by subst z; rw [hD] at e; cases e
    rw [upd_ne this]; exact xx.keep a u e hn
  · by_cases z : a = D
    · subst z; rw [upd_same]; simp
    · rw [upd_ne z]; exact xx.live a h
  · have h' := xx.tups a vs h
    exact Rd.upd (Rd.mut (v := .tup vs) mD (fun z => z) h') h'
  · have h' := xx.frz a o u h
    have : a ≠ D := fun z => by subst z; rw [h'] at mD; exact mD
    rw [upd_ne this]; exact h'
theorem wipeM_own {ρ : MEnv} {i : Nat} {c : Cell} : ∀ {vs : List Nat}, (wipeM ρ vs)[i]? = some (some (Slot.own c)) → ρ[i]? = some (some (Slot.own c)) ∧ i ∉ vs
  | [], h => ⟨h, by simp⟩
  | v :: vs, h => by
    unfold wipeM at h
    by_cases hv : v = i
    · subst hv
      have hl : v < (wipeM ρ vs).length := by have := lt_of_get h; simpa using this
      rw [List.getElem?_set_self hl] at h; cases h
    · rw [List.getElem?_set_ne hv] at h
      obtain ⟨h1, h2⟩ := wipeM_own h
      exact ⟨h1, by simp only [List.mem_cons, not_or]; exact ⟨fun e => hv e.symm, h2⟩⟩
theorem setD_own {i : Nat} {c : Cell} : ∀ {l : List (Nat × D)} {ρ : MEnv}, (setD ρ l)[i]? = some (some (Slot.own c)) → ρ[i]? = some (some (Slot.own c)) ∧ i ∉ l.map (·.1)
  | [], ρ, h => ⟨h, by simp⟩
  | (j, x) :: l, ρ, h => by
    obtain ⟨h1, h2⟩ := setD_own (l := l) (ρ := ρ.set j (some (.val x))) h
    by_cases hv : j = i
    · subst hv
      have hl : j < ρ.length := by have := lt_of_get h1; simpa using this
      rw [List.getElem?_set_self hl] at h1; cases h1
    · rw [List.getElem?_set_ne hv] at h1
      exact ⟨h1, by simp only [List.map_cons, List.mem_cons, not_or]; exact ⟨fun e => hv e.symm, h2⟩⟩
section
variable {X : Cx} {tg iter tg1 iter1 elt : Expr} {ifs ifs1 : List Expr} {p p1 : Pat} {pos : Pos} {ml ml1 : ML} {mt mt1 : MT} {me : ME}
theorem lc2_of {vs vs1 : List Nat} {σ : L2.St} {H : Hp} {Q : VK} (hv : ∀ i ∈ p.ixs, i ∈ vs) (hv1 : ∀ i ∈ p1.ixs, i ∈ vs1) (q : tN X.K (mLc2 ml p vs mt ml1 p1 vs1 mt1 me) σ H Q) :
    tLc2 (tI X.K ml) (tG X.K p) (tM X.K mt) (tI X.K ml1) (tG X.K p1) (tM X.K mt1) (tE X.K me) vs vs1 σ H Q := by
  obtain ⟨g, w, o, ρ, S, res, S', s, hm, q⟩ := q
  obtain ⟨l, S1, h1, hm⟩ := R.bind_ok hm
  obtain ⟨r, S2, h2, hm⟩ := R.bind_ok hm
  have hz : r.length ≤ sizeLine := by
    split at hm
    · assumption
    · cases hm
  rw [if_pos hz] at hm
  cases hm
  refine ⟨g, w, o, ρ, S, l, S1, s, h1, fun g1 H1 J x1 s1 wk D hD => ?_⟩
  have st1 : Sta X.K g1 w o ρ S1 σ H1 := s.ext x1 s1
  have hHD : H D = none := by
    cases e : H D with
    | none => rfl
    | some u => exact absurd hD (x1.live D (by rw [e]; simp))
  have ea : w ++ (o ++ [D]) = (w ++ o) ++ [D] := (List.append_assoc w o [D]).symm
  have fD : D ∈ w ++ (o ++ [D]) := by simp
  have noOwn : ∀ (i : Nat) (c : Cell), (wipeM ρ vs)[i]? = some (some (Slot.own c)) → (wipe σ vs)[i]? ≠ some (some (V.ref D)) := fun i c h e => by
    obtain ⟨a, e1, m, _⟩ := (st1.wipe vs).own i c h
    rw [e] at e1; cases e1
    exact st1.liv D (List.mem_append_right _ m) hD
  have st2 : Sta X.K g1 w (o ++ [D]) (wipeM ρ vs) S1 (wipe σ vs) (upd H1 D (.lst [])) := by
    have a := st1.wipe vs
    refine ⟨a.len, fun i d h => ?_, fun i c h => ?_, a.inj, fun b m => ?_, fun b m => ?_, ?_⟩
    · obtain ⟨v, e1, r1⟩ := a.val i d h
      exact ⟨v, e1, by rw [ea]; exact RelD.ext (.new hD) d v (RelD.fresh hD d v r1)⟩
    · obtain ⟨b, e1, m, r1⟩ := a.own i c h
      exact ⟨b, e1, List.mem_append_left _ m, by rw [ea]; exact (r1.fresh hD).new hD⟩
    · rcases List.mem_append.mp m with m | m
      · exact a.out b m
      · rw [List.mem_singleton.mp m]
        exact ⟨s1.noG hD, fun z => st1.noF hD (List.mem_append_left _ z)⟩
    · rw [ea] at m
      by_cases e : b = D
      · subst e; rw [upd_same]; simp
      · rw [upd_ne e]
        rcases List.mem_append.mp m with m | m
        · exact a.liv b m
        · exact absurd (List.mem_singleton.mp m) e
    · rw [ea]; exact (s1.fresh hD).new hD
  refine ⟨fun i m H2 => m = l.length - i ∧ i ≤ l.length ∧ ∃ g2 S2 acc accD rest, Ext g1 H1 g2 H2 ∧ Sta X.K g2 w (o ++ [D]) (wipeM ρ vs) S2 (wipe σ vs) H2 ∧ H2 D = some (.lst acc) ∧ RelDs X.K g2 (w ++ (o ++ [D])) H2 accD acc ∧
      mLcL2 p mt ml1 p1 vs1 mt1 me (l.drop i) (wipeM ρ vs) S2 = .ok rest S' ∧ res = accD ++ rest,
    ⟨l.length, by simp, Nat.zero_le _, g1, S1, [], [], res, .new hD, st2, upd_same, rfl, by simpa using h2, rfl⟩, ?_⟩
  rintro i m H2 ⟨rfl, hi, g2, S2, acc, accD, rest, x2, s2, hacc, racc, hm, he⟩
  have xs : ExtS g1 o H1 g2 (o ++ [D]) H2 := .own x2 hD
  by_cases hlt : i < l.length
  · have hdr : l.drop i = l[i] :: l.drop (i + 1) := List.drop_eq_getElem_cons hlt
    obtain ⟨go, yl⟩ := wk.item i l[i] g2 (o ++ [D]) H2 (List.getElem?_eq_getElem hlt) xs
    rw [hdr] at hm
    unfold mLcL2 at hm
    split at hm
    · cases hm
    rename_i bl hbl
    obtain ⟨k, S3, h3, hm⟩ := R.bind_ok hm
    refine .inr ⟨go, fun H3 => ∃ g3 S3 acc accD rest, Ext g1 H1 g3 H3 ∧ Sta X.K g3 w (o ++ [D]) (wipeM ρ vs) S3 (wipe σ vs) H3 ∧ H3 D = some (.lst acc) ∧ RelDs X.K g3 (w ++ (o ++ [D])) H3 accD acc ∧
      mLcL2 p mt ml1 p1 vs1 mt1 me (l.drop (i + 1)) (wipeM ρ vs) S3 = .ok rest S' ∧ res = accD ++ rest, fun H' n => ⟨l.length - (i + 1), by omega, rfl, hlt, n⟩, fun x H3 hy => ?_⟩
    obtain ⟨⟨x3, t3⟩, rx⟩ := yl x H3 hy
    have s3 := s2.ext x3 (t3 _ _ s2.sto)
    have racc3 := RelDs.ext x3 _ _ racc
    have nD : D ∉ g2 := (s2.out D (by simp)).1
    have hacc3 : H3 D = some (.lst acc) := x3.keep D _ hacc nD
    refine ⟨g2, w ++ (o ++ [D]), l[i], bl, rx, hbl, fun us ru => ⟨wipe_setV fun j hj => ?_, ?_⟩⟩
    · rw [ru.fst, p.bind_ixs _ _ hbl] at hj
      exact hv j hj
    have sA := s3.setA ru
    refine ⟨g2, w, o ++ [D], _, S2, k, S3, sA, h3, fun g4 H4 x4 s4 => ?_⟩
    have st4 := s3.ext x4 s4
    have racc4 := RelDs.ext x4 _ _ racc3
    have hacc4 : H4 D = some (.lst acc) := x4.keep D _ hacc3 nD
    have nD4 : D ∉ g4 := (st4.out D (by simp)).1
    have x14 := (x2.trans x3).trans x4
    cases k with
    | false =>
      rw [if_neg Bool.false_ne_true] at hm
      exact iteF ⟨g4, S3, acc, accD, rest, x14, st4, hacc4, racc4, hm, he⟩
    | true =>
      rw [if_pos rfl] at hm
      obtain ⟨l1, S4, h4, hm⟩ := R.bind_ok hm
      obtain ⟨r1, S5, h5, hm⟩ := R.bind_ok hm
      obtain ⟨rest6, S6, h6, hm⟩ := R.bind_ok hm
      cases hm
      have sA4 := sA.ext x4 s4
      refine iteT ⟨g4, w, o ++ [D], _, S3, l1, S4, sA4, h4, fun g5 H5 J1 x5 s5 wk1 => ?_⟩
      have st5 := st4.ext x5 s5
      have sA5 := sA4.ext x5 s5
      have nD5 : D ∉ g5 := (st5.out D (by simp)).1
      have hacc5 : H5 D = some (.lst acc) := x5.keep D _ hacc4 nD4
      have racc5 := RelDs.ext x5 _ _ racc4
      have x15 := x14.trans x5
      have sW5 := sA5.wipe vs1
      have noOwn1 : ∀ (i : Nat) (c : Cell), (wipeM (setD (wipeM ρ vs) bl) vs1)[i]? = some (some (Slot.own c)) → (wipe (setV (wipe σ vs) us) vs1)[i]? ≠ some (some (V.ref D)) := fun i c h => by
        obtain ⟨q1, q2⟩ := wipeM_own h
        obtain ⟨q3, q4⟩ := setD_own q1
        rw [wipe_get, if_neg q2, setV_get _ _ _ (by rw [ru.fst]; exact q4)]
        exact noOwn i c q3
      refine ⟨fun j k H6 => k = l1.length - j ∧ j ≤ l1.length ∧ ∃ g6 S6 acc accD rest1, Ext g1 H1 g6 H6 ∧ ExtS g5 (o ++ [D]) H5 g6 (o ++ [D]) H6 ∧ Sta X.K g6 w (o ++ [D]) (wipeM ρ vs) S6 (wipe σ vs) H6 ∧ Sta X.K g6 w (o ++ [D]) (wipeM (setD (wipeM ρ vs) bl) vs1) S6 (wipe (setV (wipe σ vs) us) vs1) H6 ∧
        H6 D = some (.lst acc) ∧ RelDs X.K g6 (w ++ (o ++ [D])) H6 accD acc ∧ mLcL p1 mt1 me (l1.drop j) (wipeM (setD (wipeM ρ vs) bl) vs1) S6 = .ok rest1 S5 ∧ res = accD ++ (rest1 ++ rest6),
        ⟨l1.length, by simp, Nat.zero_le _, g5, S4, acc, accD, r1, x15, .refl, st5, sW5, hacc5, racc5, by simpa using h5, he⟩, ?_⟩
      rintro j k1 H6 ⟨rfl, hj, g6, S6', acc6, accD6, rest1, x6, y6, s6, t6, hacc6, racc6, hm6, he6⟩
      by_cases hl1 : j < l1.length
      · have hdr1 : l1.drop j = l1[j] :: l1.drop (j + 1) := List.drop_eq_getElem_cons hl1
        obtain ⟨go1, yl1⟩ := wk1.item j l1[j] g6 (o ++ [D]) H6 (List.getElem?_eq_getElem hl1) y6
        rw [hdr1] at hm6
        unfold mLcL at hm6
        split at hm6
        · cases hm6
        rename_i bl1 hbl1
        obtain ⟨k7, S7, h7, hm6⟩ := R.bind_ok hm6
        refine .inr ⟨go1, fun H7 => ∃ g7 S7 acc accD rest1, Ext g1 H1 g7 H7 ∧ ExtS g5 (o ++ [D]) H5 g7 (o ++ [D]) H7 ∧ Sta X.K g7 w (o ++ [D]) (wipeM ρ vs) S7 (wipe σ vs) H7 ∧ Sta X.K g7 w (o ++ [D]) (wipeM (setD (wipeM ρ vs) bl) vs1) S7 (wipe (setV (wipe σ vs) us) vs1) H7 ∧
          H7 D = some (.lst acc) ∧ RelDs X.K g7 (w ++ (o ++ [D])) H7 accD acc ∧ mLcL p1 mt1 me (l1.drop (j + 1)) (wipeM (setD (wipeM ρ vs) bl) vs1) S7 = .ok rest1 S5 ∧ res = accD ++ (rest1 ++ rest6), fun H' n => ⟨l1.length - (j + 1), by omega, rfl, hl1, n⟩, fun x H7 hy7 => ?_⟩
        obtain ⟨⟨x7, t7⟩, rx7⟩ := yl1 x H7 hy7
        have s7 := s6.ext x7 (t7 _ _ s6.sto)
        have u7 := t6.ext x7 (t7 _ _ s6.sto)
        have racc7 := RelDs.ext x7 _ _ racc6
        have nD6 : D ∉ g6 := (s6.out D (by simp)).1
        have hacc7 : H7 D = some (.lst acc6) := x7.keep D _ hacc6 nD6
        refine ⟨g6, w ++ (o ++ [D]), l1[j], bl1, rx7, hbl1, fun us1 ru1 => ⟨wipe_setV fun j hj => ?_, ?_⟩⟩
        · rw [ru1.fst, p1.bind_ixs _ _ hbl1] at hj
          exact hv1 j hj
        refine ⟨g6, w, o ++ [D], _, S6', k7, S7, u7.setA ru1, h7, fun g8 H8 x8 s8 => ?_⟩
        have st8 := s7.ext x8 s8
        have ut8 := u7.ext x8 s8
        have racc8 := RelDs.ext x8 _ _ racc7
        have hacc8 : H8 D = some (.lst acc6) := x8.keep D _ hacc7 nD6
        have nD8 : D ∉ g8 := (st8.out D (by simp)).1
        have x18 := (x6.trans x7).trans x8
        have y18 := (y6.trans x7.s).trans x8.s
        cases k7 with
        | false =>
          rw [if_neg Bool.false_ne_true] at hm6
          exact iteF ⟨g8, S7, acc6, accD6, rest1, x18, y18, st8, ut8, hacc8, racc8, hm6, he6⟩
        | true =>
          rw [if_pos rfl] at hm6
          obtain ⟨y, S9, h9, hm6⟩ := R.bind_ok hm6
          obtain ⟨rest9, S10, h10, hm6⟩ := R.bind_ok hm6
          cases hm6
          refine iteT ⟨g8, w, o ++ [D], _, S7, y, S9, (u7.setA ru1).ext x8 s8, h9, fun v g9 H9 x9 s9 r9 => ?_⟩
          have st9 := st8.ext x9 s9
          have ut9 := ut8.ext x9 s9
          have hacc9 : H9 D = some (.lst acc6) := x9.keep D _ hacc8 nD8
          have nD9 : D ∉ g9 := (st9.out D (by simp)).1
          have racc9 := RelDs.ext x9 _ _ racc8
          have mD : Mut (H9 D) := by rw [hacc9]; trivial
          refine ⟨acc6, hacc9, ?_, g9, S9, acc6 ++ [v], accD6 ++ [y], rest9, ext_appD hD (x18.trans x9) mD, (y18.trans x9.s).trans (.updO mD (by simp)), st9.updF mD fD nD9 noOwn, ut9.updF mD fD nD9 noOwn1, upd_same,
            RelDs.upd mD (.inl fD) _ _ (RelDs.append racc9 ⟨v, [], rfl, r9, rfl⟩), h10, by rw [he6, List.append_assoc]; rfl⟩
          have : accD6.length = acc6.length := racc6.length
          rw [he6, List.length_append, List.length_append, List.length_cons] at hz
          omega
      · have e : j = l1.length := by omega
        subst e
        rw [List.drop_length] at hm6
        cases hm6
        exact .inl ⟨wk1.stop _ g6 (o ++ [D]) H6 (Nat.le_refl _) y6, g6, S5, acc6, accD6, rest6, x6, s6, hacc6, racc6, h6, by rw [he6, List.nil_append]⟩
  · have e : i = l.length := by omega
    subst e
    rw [List.drop_length] at hm
    cases hm
    rw [List.append_nil] at he
    subst he
    refine .inl ⟨wk.stop _ g2 (o ++ [D]) H2 (Nat.le_refl _) xs, ?_⟩
    refine q D acc g2 H2 (x1.trans x2) hHD (s2.out D (by simp)).1 hacc ?_ ?_
    · rw [← ea]; exact s2.sto
    · rw [← ea]; exact racc
theorem nm_lc2 {scope : Scope} {own : List (Str × Nat)} {vs1 : List Nat} (hc : X.calm = true) (hN : X.N.Nodup) (hi : IM X tg iter ml) (ok : BlkOk X.N X.env.scope scope own) (hv : ∀ i ∈ p.ixs, i ∈ own.map (·.2)) (hv1 : ∀ i ∈ p1.ixs, i ∈ vs1) (hvv : ∀ i ∈ vs1, i ∈ own.map (·.2))
    (hg : ∀ (s : Shared) (H : Hp) (C : Addr) (cl : List (Str × Addr)) (fp : List Addr), GM (X.blk s H scope (compEnvC scope cl C X.env) fp) tg p)
    (ht : ∀ (s : Shared) (H : Hp) (C : Addr) (cl : List (Str × Addr)) (fp : List Addr), TsM (X.blk s H scope (compEnvC scope cl C X.env) fp) ifs mt)
    (hi1 : ∀ (s : Shared) (H : Hp) (C : Addr) (cl : List (Str × Addr)) (fp : List Addr), IM (X.blk s H scope (compEnvC scope cl C X.env) fp) tg1 iter1 ml1)
    (hg1 : ∀ (s : Shared) (H : Hp) (C : Addr) (cl : List (Str × Addr)) (fp : List Addr), GM (X.blk s H scope (compEnvC scope cl C X.env) fp) tg1 p1)
    (ht1 : ∀ (s : Shared) (H : Hp) (C : Addr) (cl : List (Str × Addr)) (fp : List Addr), TsM (X.blk s H scope (compEnvC scope cl C X.env) fp) ifs1 mt1)
    (he : ∀ (s : Shared) (H : Hp) (C : Addr) (cl : List (Str × Addr)) (fp : List Addr), EM (X.blk s H scope (compEnvC scope cl C X.env) fp) elt me) (hs : ∀ x, foldedSetIterable iter X.env x = pure x := by intro _; rfl) (hs1 : ∀ env x, foldedSetIterable iter1 env x = pure x := by intro _ _; rfl) :
    NM X (.ListComp elt [⟨tg, iter, ifs, 0⟩, ⟨tg1, iter1, ifs1, 0⟩] scope pos) (mLc2 ml p (own.map (·.2)) mt ml1 p1 vs1 mt1 me) :=
  PE.of (pe_lc2 (wi1 := tI X.K ml1) (g := tG X.K p) (tt := tM X.K mt) (g1 := tG X.K p1) (tt1 := tM X.K mt1) (te := tE X.K me) hc hN hi ok hvv hg ht hi1 hg1 ht1 he hs hs1) fun σ H Q q => lc2_of hv hv1 q
end
@[simp] theorem mLc2_eq (it : ML) (p : Pat) (vs : List Nat) (mt : MT) (it1 : ML) (p1 : Pat) (vs1 : List Nat) (mt1 : MT) (me : ME) (ρ : MEnv) (S : Store) : mLc2 it p vs mt it1 p1 vs1 mt1 me ρ S = (it ρ S).bind fun l S1 => (mLcL2 p mt it1 p1 vs1 mt1 me l (wipeM ρ vs) S1).bind fun r S2 => if r.length ≤ sizeLine then .ok r S2 else .bad := rfl
end Mo
set_option maxRecDepth 100000
set_option maxHeartbeats 1000000
/-! Mo: an own class of exceptions with one field, as one fact; calls with a default lacking of what may raise. -/
namespace Mo
open PySem PySem.Spec PyProof.Rows L2
/-- class x, an exception whose __init__ keeps its one part as field f -/
structure ExC1 (P : Program) (w : World) (K : PySem.W.Frag) (mg : Str → Option Value) (base : Heap) (k : Nat) (x f : Str) (C : Addr) : Prop where
  at_ : mg x = some (.ref C)
  ox : OexC K C
  xf : XfC K C
  ini : ∃ fI fd ps, PySem.W.findIn K (.ref C) "__init__" = some (some (.ref fI)) ∧ PySem.W.typeIn K (.ref fI) = some (.type "function") ∧ FnOk P w K mg base CX0 k fI fd ps (spInit1 C f) ∧ Binds K fd ps []
  self : PySem.W.subIn K (.ref C) (.ref C) = some true
  no : PySem.W.findIn K (.ref C) f = some none
section
variable {X : Cx} {W : WX} {e : Expr} {es : List Expr} {me : ME} {p pos pos2 : Pos} {x f : Str} {C : Addr} {k n : Nat}
theorem xm_raiseC (R : ExC1 X.prog X.w X.K X.mg X.base k x f C) (tk : Takes X W) (hc : X.calm = true) (hr : Room (k + 1) X.A) (hg : Gl X x) (he : EM X e me)
    (hdb : (x == ("__debug__" : Str)) = false := by decide) (hs : starEach [e] X.env = (false, eval e X.env) :: starEach [] X.env := by rfl) (hpl : (backTo pos (starEach [] X.env)).any (·.1) = false := by rfl) :
    XM X W (.Raise (some (.Call (.Name x p) [e] [] pos)) none pos2) (mRaise1 x f me) := by
  obtain ⟨fI, fd, ps, h1, h2, h3, h4⟩ := R.ini
  exact xm_raise1 hc tk R.ox h1 h2 h3 hr h4 pass0 hg R.at_ he hdb hs hpl
/-- x(e, ..), the last parameter by its default -/
theorem ex_callP {m : MFX} {a : Addr} {fd : FuncData} {ps : List Str} {np : Nat} {ix : List Nat} {dv : List D} {l : MA} (at_ : X.mg x = some (.ref a)) (kp : PySem.W.keepIn X.K (.ref a) = true) (F : FnG X.prog X.w X.K X.mg X.base (L2.CX X.prog X.w) k a fd ps (spX X.K X.mg n m)) (B : MixD X.K fd ps [] np ix dv)
    (hix : ∀ us : List Value, us.length = np → pickIx ix us [] = us) (hn : np + dv.length = ps.length) (tk : Takes X W) (hgd : X.A.guards = some []) (hr : Room k X.A) (hg : Gl X x) (ha : AM X (e :: es) l) (hdb : (x == ("__debug__" : Str)) = false := by decide)
    (he : starEach (e :: es) X.env = (false, eval e X.env) :: starEach es X.env := by rfl) (hpl : (backTo pos (starEach es X.env)).any (·.1) = false := by rfl) : EX X W (.Call (.Name x p) (e :: es) [] pos) (mCallX m n dv l) := by
  obtain ⟨dvs, dws, hv, hdd, hb⟩ := B.ex
  have hlen : dv.length = dws.length := by
    have := (hdd X.K [] [] (fun _ => none)).length
    rw [this, hv.length]
  refine ex_call tk F hgd hr hg at_ kp (dvs := dvs) (dws := dws) (fun s us I hl => ?_) hv hdd ha hdb he hpl
  have hu : us.length = np := by
    rw [List.length_append] at hl
    omega
  have := hb s us [] I hu rfl
  have e1 := hix us hu
  rw [e1] at this
  exact this
end
section
variable {X : Cx} {C : Addr} {k : Nat} {body : List Stmt} {mb : MX} {x n y f : Str} {i j : Nat} {np p1 p2 p3 p4 pos pos' : Pos}
theorem sm_tryC (R : ExC1 X.prog X.w X.K X.mg X.base k x f C) (hN : X.N.Nodup) (hs : X.stack = X.env :: X.outer) (hf : X.env.frame = some X.env.locals) (hi : X.N[i]? = some n) (hln : X.env.kindOf n = some .local) (hij : i ≠ j) (hj : X.N[j]? = some y) (hy : Loc X.env.scope y) (hyl : X.env.scope.names.lookup y = some .local) (hv : Vis X.env.scope n)
    (hg : Gl X x) (hdx : (x == ("__debug__" : Str)) = false)
    (hb : ∀ (W : WX) (pn : List (Addr × Obj)) (xe : Value → Shared → Prop), Takes (X.tr pn xe) W → XsM (X.tr pn xe) W body mb)
    (hd : (n == ("__debug__" : Str)) = false := by decide) (hcd : (n == ("__classdict__" : Str)) = false := by decide) :
    SM X (.Try body [.ExceptHandler (some (.Name x np)) (some n) [.Assign [.Name y p1] (.Attribute (.Name n p2) f p3) p4] pos'] [] [] pos) (mTryF mb x i j f) :=
  sm_try_field hs hf hN hi hln hij hj hy hyl hv R.at_ ⟨hg, hdx, .inl R.at_⟩ R.xf R.ox.tyC R.self R.no hb hd hcd
end
end Mo
namespace Mo
open PySem PySem.Spec PyProof.Rows L2
/-- a def of the module that may raise -/
structure OwnX (P : Program) (w : World) (K : PySem.W.Frag) (mg : Str → Option Value) (base : Heap) (k n : Nat) (x : Str) (ps : List Str) (a : Addr) (fd : FuncData) (m : MFX) : Prop where
  at_ : mg x = some (.ref a)
  kp : PySem.W.keepIn K (.ref a) = true
  ok : FnG P w K mg base (L2.CX P w) k a fd ps (spX K mg n m)
theorem OwnX.no {P : Program} {w : World} {K : PySem.W.Frag} {mg : Str → Option Value} {base : Heap} {k n : Nat} {x : Str} {ps : List Str} {a : Addr} {fd : FuncData} {m : MFX} (C : OwnX P w K mg base k n x ps a fd m) (hn : n = ps.length) : Own P w K mg base k n x ps a fd (mNo m) := ⟨C.at_, C.kp, C.ok.no hn⟩
end Mo
namespace Mo
open PySem PySem.Spec PyProof.Rows L2
def clsBody : Stmt → List Stmt
  | .ClassDef _ _ _ b _ _ _ _ _ _ _ => b
  | _ => []
end Mo
set_option maxRecDepth 100000
set_option maxHeartbeats 1000000
/-! Mo: sorted(set(tuple of numbers)); sorted(dict of numbers), of any size. -/
namespace PySem.W
open PySem PySem.Spec PySem.Calls PyProof.Rows PyProof.V
section
variable {prog : Program} {w : World} {A : Around} {E : Value → Shared → Prop} {s : Shared}
theorem mo_each_ints : ∀ {vs : List Value} {ns : List Int}, IntsAre vs ns → EachIs (fun v (k : Int) => ∃ t, v = .int k t) vs ns
  | _, _, .nil => .nil
  | _, _, .cons n t hr => .cons ⟨t, rfl⟩ (mo_each_ints hr)
theorem mo_ints_each : ∀ {vs : List Value} {ns : List Int}, EachIs (fun v (k : Int) => ∃ t, v = .int k t) vs ns → IntsAre vs ns
  | _, _, .nil => .nil
  | _, _, .cons ⟨t, e⟩ hr => by subst e; exact .cons _ t (mo_ints_each hr)
theorem mo_sorted_ints {l : Value} {Q : Value → Shared → Prop} (C : List Int → Shared → Prop) (hu : A.units + 8 < cLine)
    (hcol : ∀ (E' : Value → Shared → Prop) (Q' : List Value → Shared → Prop), (∀ vs ns s1, IntsAre vs ns → vs.length ≤ sizeLine → C ns s1 → Q' vs s1) → wpAny (model prog w) A.in1 (collect l) Q' E' s)
    (hQ : ∀ ns s1 vs out, C ns s1 → IntsAre vs ns → IntsAre out (ns.mergeSort (dataLe false PyData.int)) → Q (.ref s1.heap.objs.size) { s1 with heap := sortedHeap (s1.heap.push (seqObj "list" vs.toArray 0)) s1.heap.objs.size vs (List.toArray out) }) :
    wpAny (model prog w) A (call (.builtin "sorted") [l]) Q E s := by
  refine call_function_entry kind_sorted plain_sorted entry_sorted (args_sorted1 _) ?_
  unfold Builtin.«sorted»
  refine wpAny_bind (m := checkCount "sorted" 1 1 _) (wpAny_pure ?_)
  refine wpAny_bind (hcol _ _ fun vs ns s1 hi hL c => ?_)
  refine wpAny_bind (wpAny_newList ?_ hL)
  have at0 : (s1.heap.push (seqObj "list" vs.toArray 0)).get? s1.heap.objs.size = some (seqObj "list" vs.toArray 0) := Heap.get?_push_size _ rfl
  have er : ∀ h : Heap, EachIs (fun v (b : Int) => ∃ as, Reads h v (PyData.int b) as) vs ns := fun h => (mo_each_ints hi).mono fun v b ⟨t, e⟩ => by subst e; exact ⟨_, .int b t⟩
  have hal : AllAlike (ns.map PyData.int) := fun d hd d' hd' => by
    obtain ⟨a, _, rfl⟩ := List.mem_map.mp hd
    obtain ⟨b, _, rfl⟩ := List.mem_map.mp hd'
    rfl
  have hk : Sortable (ns.map PyData.int) := .inr fun d hd => by
    obtain ⟨a, _, rfl⟩ := List.mem_map.mp hd
    exact ⟨fun e => (nomatch e), fun xs e => (nomatch e)⟩
  have S : SortsAt prog w A.in1.in1 { s1 with heap := sortingHeap (s1.heap.push (seqObj "list" vs.toArray 0)) s1.heap.objs.size vs } (dataKind (sortingHeap (s1.heap.push (seqObj "list" vs.toArray 0)) s1.heap.objs.size vs) (ns.map PyData.int)) vs :=
    SortsAt.data (s := { s1 with heap := sortingHeap (s1.heap.push (seqObj "list" vs.toArray 0)) s1.heap.objs.size vs }) (each_map PyData.int (R := fun v d => ∃ as, Reads _ v d as) (er _)) hal hk fun d hd => by
      obtain ⟨a, _, rfl⟩ := List.mem_map.mp hd
      have : (PyData.int a).depth = 0 := by simp [PyData.depth]
      have h1 : A.in1.in1.units ≤ A.units + 2 := by simp [Around.in1]
      omega
  have out := mo_ints_each (sortVals_data (R := fun v (k : Int) => ∃ t, v = .int k t) (enc := PyData.int) false (mo_each_ints hi) (er (sortingHeap (s1.heap.push (seqObj "list" vs.toArray 0)) s1.heap.objs.size vs)) hal)
  exact wpAny_bind (wpAny_holding (wpAny_call_entry slot_list_sort ⟨_, at0, rfl⟩ entry_list_sort (list_sort_vals (s := { s1 with heap := s1.heap.push (seqObj "list" vs.toArray 0) }) at0 S hL ⟨_, rfl, wpAny_pure ⟨_, rfl, hQ ns s1 vs _ c hi out⟩⟩) (args_list_sort _)))
end
end PySem.W
namespace Mo
open PySem PySem.Spec PyProof.Rows L2
section
variable {X : Cx} {e : Expr} {me : ME} {p p2 pos pos2 : Pos}
theorem le_int : PySem.W.dataLe false PyData.int = fun a b : Int => decide (a ≤ b) := by
  funext i j
  show (!PySem.W.dataLt (.int j) (.int i)) = _
  rw [PySem.W.dataLt_int]
  simp [← decide_not]
/-- each number once -/
def nubI : List Int → List Int
  | [] => []
  | x :: r => if x ∈ r then nubI r else x :: nubI r
theorem nub_mem {x : Int} : ∀ {l : List Int}, x ∈ nubI l ↔ x ∈ l
  | [] => Iff.rfl
  | y :: r => by
    unfold nubI
    split
    · rename_i h
      rw [nub_mem, List.mem_cons]
      exact ⟨.inr, fun z => z.elim (fun e => e ▸ h) id⟩
    · rw [List.mem_cons, List.mem_cons, nub_mem]
theorem nub_nodup : ∀ l : List Int, (nubI l).Nodup
  | [] => List.nodup_nil
  | y :: r => by
    unfold nubI
    split
    · exact nub_nodup r
    · rename_i h
      exact List.nodup_cons.mpr ⟨fun z => h (nub_mem.mp z), nub_nodup r⟩
theorem nub_self : ∀ {l : List Int}, l.Nodup → nubI l = l
  | [], _ => rfl
  | y :: r, h => by
    obtain ⟨h1, h2⟩ := List.nodup_cons.mp h
    unfold nubI
    rw [if_neg h1, nub_self h2]
theorem sortI_sorted (l : List Int) : (sortI l).Pairwise (· ≤ ·) :=
  (List.pairwise_mergeSort (le := fun a b : Int => decide (a ≤ b)) (fun a b c h1 h2 => by simp at *; omega) (fun a b => by simp; omega) l).imp fun h => by simpa using h
theorem sortI_perm (l : List Int) : (sortI l).Perm l := List.mergeSort_perm _ _
/-- sorted, whose items ns come in any order -/
theorem sort_inv {pins : List (Addr × Obj)} {σ : L2.St} {H : Hp} {s s1 : Shared} {Q : VK} {ns : List Int} {vs out : List Value} (I : Inv X pins σ H s) (ho : s1.os = s.os) (hg : s1.gens = s.gens) (k : ∀ b o, s.heap.get? b = some o → s1.heap.get? b = some o) (hz : s.heap.objs.size ≤ s1.heap.objs.size) (hi : IntsAre vs ns)
    (io : IntsAre out (ns.mergeSort (PySem.W.dataLe false PyData.int))) (hl : ns.length ≤ 100000) (q : ∀ p, H p = none → Q (.ref p) (upd H p (.lst ((sortI ns).map V.int)))) :
    EP X pins σ Q (.ref s1.heap.objs.size) { s1 with heap := sortedHeap (s1.heap.push (seqObj "list" vs.toArray 0)) s1.heap.objs.size vs (List.toArray out) } := by
  have hoL : (s1.heap.push (seqObj "list" vs.toArray 0)).get? s1.heap.objs.size = some (seqObj "list" vs.toArray 0) := Heap.get?_push_size _ rfl
  obtain ⟨c, hc⟩ := sortedHeap_at (vs := vs) (out := List.toArray out) hoL
  rw [le_int] at io
  have hlen : ((sortI ns).map V.int).length ≤ sizeLine := by
    rw [List.length_map, (sortI_perm ns).length_eq]
    exact small_le (by omega)
  have keep : ∀ b u, s.heap.get? b = some u → (sortedHeap (s1.heap.push (seqObj "list" vs.toArray 0)) s1.heap.objs.size vs (List.toArray out)).get? b = some u := fun b u e => by
    have q := k b u e
    have hlt := Heap.lt_size q
    rw [sortedHeap_old (Nat.ne_of_lt hlt) (by rw [size_push']; exact Nat.lt_succ_of_lt hlt)]
    exact Heap.get?_push_of_some _ q
  have hn : H s1.heap.objs.size = none := I.hok.fresh hz
  have J : Inv X pins σ (upd H s1.heap.objs.size (.lst ((sortI ns).map V.int))) { s with heap := sortedHeap (s1.heap.push (seqObj "list" vs.toArray 0)) s1.heap.objs.size vs (List.toArray out), gens := s1.gens, drawn := s1.drawn, toks := s1.toks } :=
    I.call (ch := []) (Un.laid keep hz hn) (I.hok.laid keep hz ⟨hlen, out, c, vals_of_ints io, hc⟩) (by rw [hg]; exact I.bare) (fun _ z => nomatch z)
  have e : ({ s1 with heap := sortedHeap (s1.heap.push (seqObj "list" vs.toArray 0)) s1.heap.objs.size vs (List.toArray out) } : Shared) = { s with heap := sortedHeap (s1.heap.push (seqObj "list" vs.toArray 0)) s1.heap.objs.size vs (List.toArray out), gens := s1.gens, drawn := s1.drawn, toks := s1.toks } := by
    cases s1
    cases s
    cases ho
    rfl
  rw [e]
  exact ⟨.ref _, _, J, rfl, q _ hn⟩
/-- sorted(d) of a dict whose keys are numbers -/
theorem call_sortedDB (hc : X.calm = true) (hu : X.A.units + 64 < cLine) : CallR X (.builtin "sorted") (fun xs H Q => ∃ (a : Addr) (kvs : List (Key × V)) (ks : List Int), xs = [.ref a] ∧ Rd H a (.dK kvs) ∧ kvs.map (·.1) = ks.map Sum.inl ∧ ks.length ≤ 100000 ∧
    ∀ p : Addr, H p = none → Q (.ref p) (upd H p (.lst ((sortI ks).map V.int)))) := by
  intro pins s σ H xs us Q I r q
  obtain ⟨a, kvs, ks, rfl, hd, hks, hl, q⟩ := q
  rw [Vals.ref1 r]
  obtain ⟨z, lo, vs, rel, dd⟩ := dk_rd I.hok hd
  obtain ⟨ep, hat⟩ := dd.dictAt
  have hkeys : vs.map (·.1) = ks.map Sum.inl := rel.keys.symm.trans hks
  have hlen : vs.length = ks.length := by
    have e := congrArg List.length hkeys
    rwa [List.length_map, List.length_map] at e
  have hz : vs.length ≤ sizeLine := small_le (by omega)
  refine PySem.W.mo_sorted_ints (l := .ref a) (fun ns s1 => ns = ks ∧ Inv X pins σ H s1) (by omega) (fun E' Q' f => ?_) fun ns s1 us out c hi io => ?_
  · refine PySem.W.kdu_collect (A := X.A.in1) (PySem.W.kdl_dict (knd := mixKind X.prog X.w) (kvs := vs) (ep := ep) lo) (I.ok.hd hc) hat hz fun h' tk acc hk hacc => ?_
    have hal : acc.toList.length = ks.length := by rw [Array.length_toList, hacc.1, hlen]
    have hS : IntsAre acc.toList ks := ints_each hal fun j v e => by
      obtain ⟨k, x, e1, e2⟩ := hacc.2 j v (by rw [← Array.getElem?_toList]; exact e)
      have e3 : (vs.map (·.1))[j]? = some k := by rw [List.getElem?_map, e1]; rfl
      rw [hkeys, List.getElem?_map] at e3
      cases e4 : ks[j]? with
      | none => rw [e4] at e3; cases e3
      | some y =>
        rw [e4] at e3
        cases Option.some.inj e3
        rcases keyIs_shape (show keyIs (Sum.inl y) v = true from e2) with ⟨i, t, ek, ev⟩ | ⟨z, t, ek, ev⟩
        · cases ek
          exact ⟨y, t, rfl, ev⟩
        · cases ek
    exact f _ ks _ hS (by rw [hal, ← hlen]; exact hz) ⟨rfl, I.kept hk⟩
  · obtain ⟨rfl, I1⟩ := c
    exact sort_inv I1 rfl rfl (fun _ _ e => e) (Nat.le_refl _) hi io hl q
/-- sorted(d), numbers, of any size -/
def hSortedDB (d : D) (S : Store) : R (List D) := match dictR S d with
  | some l => match intKeys l with
    | some ks => if ks.length ≤ 100000 then .ok ((sortI ks).map .int) S else .bad
    | none => .bad
  | none => .bad
theorem nm_sortedDB (hc : X.calm = true) (hu : X.A.units + 64 < cLine) (h : EM X e me) (hg : Gl X "sorted") (hm : X.mg "sorted" = none) (hb : bootBuiltins "sorted" = some (.builtin "sorted") := by decide +kernel) (hs : starEach [e] X.env = (false, eval e X.env) :: starEach [] X.env := by rfl) (hpl : (backTo pos (starEach [] X.env)).any (·.1) = false := by rfl) :
    NM X (.Call (.Name "sorted" p) [e] [] pos) (fun ρ S => (me ρ S).bind hSortedDB) :=
  PE.of (pe_callB (call_sortedDB hc hu) hg hm hb (b1 h hs) (by decide) (by decide) hs hpl) fun σ H Q ⟨g, w, o, ρ, S, d, S', s, hm, q⟩ => by
    obtain ⟨c, S1, h1, h2⟩ := R.bind_ok hm
    refine ⟨g, w, o, ρ, S, c, S1, s, h1, fun v g1 H1 x1 s1 r1 => ?_⟩
    unfold hSortedDB at h2
    split at h2
    · rename_i l hl
      split at h2
      · rename_i ks hk
        split at h2
        · rename_i hz
          cases h2
          obtain ⟨n, rfl, hn⟩ := dictR_of hl
          obtain ⟨a, ev, hgn⟩ := r1
          obtain ⟨kvs, hH, r⟩ := s1.rd hn hgn
          subst ev
          refine ⟨a, kvs, ks, rfl, hH, by rw [r.keys, intKeys_of hk], hz, fun t ht => ?_⟩
          have q' : FinN X.K g1 (w ++ o) H1 ((sortI ks).map .int) _ Q := fun p vs g2 H2 x2 hp n2 e2 s2 r2 => q p vs g2 H2 (x1.trans x2) (back_none x1 hp) n2 e2 s2 r2
          exact q'.put s1 (rel_ints _) t ht
        · cases h2
      · cases h2
    · cases h2
@[simp] theorem hSortedDB_eq (d : D) (S : Store) : hSortedDB d S = (match dictR S d with
  | some l => match intKeys l with
    | some ks => if ks.length ≤ 100000 then .ok ((sortI ks).map .int) S else .bad
    | none => .bad
  | none => .bad) := rfl
/-- set(t) of a tuple of numbers -/
theorem cr_setT (hc : X.calm = true) : CallR X (.type "set") (fun xs H Q => ∃ (p : Addr) (ns : List Int), xs = [.ref p] ∧ SqT X.K H p (ns.map V.int) ∧ ns.length ≤ 1000 ∧ ∀ (q : Addr) (n : Nat), n ≤ ns.length → H q = none → Q (.ref q) (upd H q (SetO X.w q (fun j => decide (j ∈ ns)) n))) := by
  intro pins s σ H xs us Q I r q
  obtain ⟨p, ns, rfl, ht, hl, q⟩ := q
  rw [Vals.ref1 r]
  obtain ⟨its, rv, pl, hz⟩ := I.tuple ht
  have hi : IntsAre its.toArray.toList ns := ints_of_vals rv
  refine call_set_tupI ns (I.ok.hd hc) (show s.heap.IsTuple p its.toArray from pl) hi (by unfold scanBound; omega) fun h' tk c R1 hcn k => ?_
  have hn := I.hok.fresh (Nat.le_refl s.heap.objs.size)
  exact ⟨.ref _, upd H s.heap.objs.size (SetO X.w s.heap.objs.size (fun j => decide (j ∈ ns)) c), I.laid (t' := tk) k (Nat.le_refl _) (setO_new R1), rfl, q _ c hcn hn⟩
/-- sorted(set), of any size -/
theorem cr_sortedSetB (hc : X.calm = true) (hu : X.A.units + 64 < cLine) : CallR X (.builtin "sorted") (fun xs H Q => ∃ (a : Addr) (S : Int → Bool) (n : Nat), xs = [.ref a] ∧ H a = some (SetO X.w a S n) ∧ n ≤ 1000 ∧
    ∀ (ns : List Int) (p : Addr), ns.Nodup → (∀ k, k ∈ ns ↔ S k = true) → H p = none → Q (.ref p) (upd H p (.lst ((sortI ns).map V.int)))) := by
  intro pins s σ H xs us Q I r q
  obtain ⟨a, S, n, rfl, ha, hn, q⟩ := q
  rw [Vals.ref1 r]
  obtain ⟨o, es, ep, t, ho, hex, hd, g, nd, hm, hb, hf, hn2, hr, hl⟩ := setO_get I ha
  refine PySem.W.mo_sorted_ints (l := .ref a) (fun ns s1 => (ns.Nodup ∧ (∀ k, k ∈ ns ↔ S k = true) ∧ ns.length = n) ∧ s1.os = s.os ∧ s1.gens = s.gens ∧ (∀ b o, s.heap.get? b = some o → s1.heap.get? b = some o) ∧ s.heap.objs.size ≤ s1.heap.objs.size) (by omega) (fun E' Q' f => ?_) fun ns s1 vs out c hi io => ?_
  · refine collect_set (A := X.A.in1) (I.ok.hd hc) ⟨o, ho, hex.1, hd⟩ hf hb hr hl fun s1 vs k1 hz g1 o1 pm => ?_
    have hv : vs.length = n := by rw [pm.length_eq, List.length_map, Array.length_toList]; exact hn2
    have hI : IntsAre vs (vs.map Builtin.Re.reRawOf) := ints_of vs fun v hv => by
      obtain ⟨e, he, q⟩ := List.mem_map.mp (pm.mem_iff.mp hv)
      obtain ⟨k, tk, h1, _⟩ := g e he
      exact ⟨k, tk, by rw [← q]; exact h1⟩
    have pk : (vs.map Builtin.Re.reRawOf).Perm (es.toList.map keyOf) := by
      have z := pm.map Builtin.Re.reRawOf
      rw [List.map_map] at z
      exact z
    exact f vs _ s1 hI (small_le (by omega)) ⟨⟨pk.nodup_iff.mpr nd, fun k => by rw [pk.mem_iff, ← hm k], by rw [List.length_map]; exact hv⟩, o1, g1, k1, hz⟩
  · obtain ⟨⟨c1, c2, c3⟩, c4, c5, c6, c7⟩ := c
    exact sort_inv I c4 c5 c6 c7 hi io (by omega) fun p hp => q ns p c1 c2 hp
/-- sorted(set(t)) -/
def mSortSet (me : ME) : ML := fun ρ S => (me ρ S).bind fun d S1 => match d with
  | .tup l => match intsD l with
    | some ns => if ns.length ≤ 1000 then .ok ((sortI (nubI ns)).map .int) S1 else .bad
    | none => .bad
  | _ => .bad
theorem nm_sortedSet (hc : X.calm = true) (hu : X.A.units + 64 < cLine) (h : EM X e me) (hg : Gl X "sorted") (hm : X.mg "sorted" = none) (hg2 : Gl X "set") (hm2 : X.mg "set" = none) (hb : bootBuiltins "sorted" = some (.builtin "sorted") := by decide +kernel) (hb2 : bootBuiltins "set" = some (.type "set") := by decide +kernel)
    (hs2 : starEach [e] X.env = (false, eval e X.env) :: starEach [] X.env := by rfl) (hpl2 : (backTo pos2 (starEach [] X.env)).any (·.1) = false := by rfl)
    (hs : starEach [.Call (.Name "set" p2) [e] [] pos2] X.env = (false, eval (.Call (.Name "set" p2) [e] [] pos2) X.env) :: starEach [] X.env := by rfl) (hpl : (backTo pos (starEach [] X.env)).any (·.1) = false := by rfl) :
    NM X (.Call (.Name "sorted" p) [.Call (.Name "set" p2) [e] [] pos2] [] pos) (mSortSet me) :=
  PE.of (pe_callB (cr_sortedSetB hc hu) hg hm hb (b1 (pe_callTy (cr_setT hc) hg2 hm2 hb2 (b1 h hs2) (by decide) (by decide) hs2 hpl2) hs) (by decide) (by decide) hs hpl) fun σ H Q ⟨g, w, o, ρ, S, d, S', s, hm, q⟩ => by
    obtain ⟨c, S1, h1, h2⟩ := R.bind_ok hm
    refine ⟨g, w, o, ρ, S, c, S1, s, h1, fun v g1 H1 x1 s1 r1 => ?_⟩
    cases c with
    | tup l =>
      dsimp only at h2
      split at h2
      · rename_i ns hns
        split at h2
        · rename_i hz
          cases h2
          obtain ⟨a, vs, rfl, ht, rr⟩ := r1
          have hv := intsD_rel rr hns
          subst hv
          refine ⟨a, ns, rfl, ht, hz, fun y n hn hy => ?_⟩
          refine ⟨y, _, n, rfl, upd_same, by omega, fun ms p n1 n2 hp => ?_⟩
          have pm : ms.Perm (nubI ns) := (List.perm_ext_iff_of_nodup n1 (nub_nodup ns)).mpr fun k => by rw [n2, nub_mem, decide_eq_true_eq]
          have e1 : sortI ms = sortI (nubI ns) := sorted_one (((sortI_perm ms).trans pm).trans (sortI_perm _).symm) (sortI_sorted _) (sortI_sorted _)
          rw [e1]
          have x2 : Ext g1 H1 g1 (upd H1 y (SetO X.w y (fun j => decide (j ∈ ns)) n)) := .new hy
          have s2 := s1.new hy (u := SetO X.w y (fun j => decide (j ∈ ns)) n)
          have q' : FinN X.K g1 (w ++ o) (upd H1 y (SetO X.w y (fun j => decide (j ∈ ns)) n)) ((sortI (nubI ns)).map .int) S' Q := fun p vs g2 H2 x3 hp n2 e2 s3 r3 => q p vs g2 H2 ((x1.trans x2).trans x3) (back_none (x1.trans x2) hp) n2 e2 s3 r3
          exact q'.put s2 (rel_ints _) p hp
        · cases h2
      · cases h2
    | _ => cases h2
@[simp] theorem mSortSet_eq (me : ME) (ρ : MEnv) (S : Store) : mSortSet me ρ S = (me ρ S).bind fun d S1 => (match d with
  | .tup l => match intsD l with
    | some ns => if ns.length ≤ 1000 then .ok ((sortI (nubI ns)).map .int) S1 else .bad
    | none => .bad
  | _ => .bad) := rfl
end
end Mo
set_option maxRecDepth 100000
set_option maxHeartbeats 1000000
/-! Mo: a caught exception that is kept behind its clause. -/
namespace Mo
open PySem PySem.Spec PyProof.Rows L2
/-- the exception of class C, its dict at dd, at a -/
def exK (C dd a : Addr) : HO := .ext fun h => ∃ (oe : Obj) (vs : Array Value), h.get? a = some oe ∧ Zc (.ref C) (some dd) oe ∧ oe.data = .fields vs
section
variable {X : Cx} {pins : List (Addr × Obj)} {σ : L2.St} {H : Hp} {s : Shared}
theorem exK_at (I : Inv X pins σ H s) {a C dd : Addr} (h : H a = some (exK C dd a)) : ∃ (oe : Obj) (vs : Array Value), s.heap.get? a = some oe ∧ Zc (.ref C) (some dd) oe ∧ oe.data = .fields vs := (I.hok a _ h).1
theorem unsuiteK {a : Addr} {q : Addr × Obj} (I : Inv (X.suite a (q :: (X.pn ++ pins))) [] σ H s) (ok : X.Ok) : Inv X (q :: pins) σ H s :=
  ⟨ok, I.os, I.bare, I.base, I.loc, I.cell, I.free, I.freeC, fun p hp => I.pin p (by
    rw [List.append_nil]
    show p ∈ q :: (X.pn ++ pins)
    rcases List.mem_append.mp hp with m | m
    · exact List.mem_cons_of_mem _ (List.mem_append_left _ m)
    · rcases List.mem_cons.mp m with e | m
      · rw [e]; exact List.mem_cons_self
      · exact List.mem_cons_of_mem _ (List.mem_append_right _ m)), I.hok, I.len⟩
/-- what is pinned, new since the entry, is tracked -/
theorem trackK {a C dd : Addr} {oe : Obj} {vs : Array Value} (I : Inv X ((a, oe) :: pins) σ H s) (hz : Zc (.ref C) (some dd) oe) (hv : oe.data = .fields vs) (nb : X.s_0.heap.get? a = none) (np : ∀ p ∈ X.pn ++ pins, p.1 ≠ a) : Inv X pins σ (upd H a (exK C dd a)) s := by
  obtain ⟨ha, na, nL, nF, nc⟩ := I.pin (a, oe) (by simp)
  dsimp only at ha na nL
  refine ⟨I.ok, I.os, I.bare, ⟨I.base.keep, I.base.slot, fun b o e n hx => ?_, I.base.there, fun b xs e => ?_, fun b o u e => ?_, fun b ps e => ?_⟩, I.loc, I.cell, ?_, fun x c e => ?_, fun p hp => ?_, ?_, I.len⟩
  · have ne : b ≠ a := fun z => by rw [z, nb] at e; cases e
    rw [upd_ne ne]; exact I.base.free b o e n hx
  · have h1 := I.base.tups b xs e
    have ne : b ≠ a := fun z => by rw [z, na] at h1; cases h1
    rw [upd_ne ne]; exact h1
  · have h1 := I.base.frzs b o u e
    have ne : b ≠ a := fun z => by rw [z, na] at h1; cases h1
    rw [upd_ne ne]; exact h1
  · obtain ⟨more, h1⟩ := I.base.tbls b ps e
    have ne : b ≠ a := fun z => by rw [z, na] at h1; cases h1
    exact ⟨more, by rw [upd_ne ne]; exact h1⟩
  · rw [upd_ne (Ne.symm nL)]; exact I.free
  · have ne : c ≠ a := fun z => by
      obtain ⟨v, hc⟩ := I.cell x c e
      obtain ⟨o, ho, hd⟩ := hc
      rw [z, ha] at ho
      cases ho
      first
        | (rw [hv] at hd; cases hd; done)
        | (obtain ⟨hd1, hd2⟩ := hd; rw [hv] at hd2; cases hd2)
    rw [upd_ne ne]; exact I.freeC x c e
  · obtain ⟨h1, h2, h3⟩ := I.pin p (by
      rcases List.mem_append.mp hp with m | m
      · exact List.mem_append_left _ m
      · exact List.mem_append_right _ (List.mem_cons_of_mem _ m))
    exact ⟨h1, by rw [upd_ne (np p hp)]; exact h2, h3⟩
  · exact I.hok.laidN (fun _ _ e => e) na ⟨⟨oe, vs, ha, hz, hv⟩, ⟨oe, ha⟩, fun h1 h2 ⟨o', vs', e1, e2, e3⟩ k => ⟨o', vs', k _ e1, e2, e3⟩⟩
end
/-- the clause's class expression names the class C -/
def TestC (X : Cx) (te : Expr) (C : Addr) : Prop := ∀ (a : Addr) (o3 : Obj) (pn : List (Addr × Obj)) (σ : L2.St) (H : Hp) (s3 : Shared), Inv (X.suite a ((a, o3) :: pn)) [] σ H s3 → PySem.W.Looks (model X.prog X.w) s3.heap (typeOf (.ref a)) (.ref C) → ∀ (A' : Around) (Q : Bool → Shared → Prop) (E E' : Value → Shared → Prop),
  (∀ h', (∀ b o, s3.heap.get? b = some o → h'.get? b = some o) → Q true { s3 with heap := h' }) → wpAny (model X.prog X.w) (X.A.mark (some (.ref a))) (eval te X.env) (fun c s1 => wpAny (model X.prog X.w) A' (excMatches (.ref a) c) Q E' s1) E s3
theorem flying_keeps {B h h' : Heap} {l : List Env} {e : Addr} {Z : Obj → Prop} (f : HandSPX.FlyingZ B l e Z h) (k : ∀ b o, h.get? b = some o → h'.get? b = some o) : HandSPX.FlyingZ B l e Z h' := by
  obtain ⟨f1, f2, f3, oe, vs, T, oT, ts, g1, g2, g3, g4, g5, g6, g7, g8, g9⟩ := f
  exact ⟨fun b o e => k b o (f1 b o e), f2, Heap.FunFrames.of_keeps (fun b o e _ => ⟨o, k b o e, rfl⟩) f3, oe, vs, T, oT, ts, k _ _ g1, g2, g3, g4, g5, g6, k _ _ g7, g8, g9⟩
/-- what 'except .. as n: y = n' wishes of an exception of the body -/
def wKeep (C : Addr) (i j : Nat) (D : Ends) : WX := fun cls d σ H => cls = .ref C ∧ ∃ dd, d = some dd ∧ ∀ a, H a = none → D.nx (((σ.set i (some (.ref a))).set j (some (.ref a))).set i none) (upd H a (exK C dd a))
section
variable {X : Cx} {n y : Str} {C : Addr} {te : Expr} {i j : Nat} {body : List Stmt} {p1 p2 p4 pos pos' : Pos} {tb : WX → TS}
theorem ps_try_keep (hs : X.stack = X.env :: X.outer) (hf : X.env.frame = some X.env.locals) (hN : X.N.Nodup) (hi : X.N[i]? = some n) (hln : X.env.kindOf n = some .local) (hT : TestC X te C) (hex : X.ex = []) (hj : X.N[j]? = some y) (hy : Loc X.env.scope y) (hyl : X.env.scope.names.lookup y = some .local) (hv : Vis X.env.scope n)
    (hb : ∀ (W : WX) (pn : List (Addr × Obj)) (xe : Value → Shared → Prop), Takes (X.tr pn xe) W → PSs (X.tr pn xe) body (tb W))
    (hd : (n == ("__debug__" : Str)) = false := by decide) (hcd : (n == ("__classdict__" : Str)) = false := by decide) :
    PS X (.Try body [.ExceptHandler (some te) (some n) [.Assign [.Name y p1] (.Name n p2) p4] pos'] [] [] pos) (fun D σ H => tb (wKeep C i j D) D σ H) := by
  refine ⟨fun pins s σ H D I h => wpAny_Try_except ?_⟩
  have ok := I.ok
  have frs2 : X.A.frames = some (X.env :: X.outer) := ok.frames.trans (by rw [hs])
  refine wpAny_mono ((hb (wKeep C i j D) (X.pn ++ pins) (fun e t1 => wpAny (model X.prog X.w) X.A (noteFrame e X.env) (fun _ t2 => wpAny (model X.prog X.w) X.A (setFlight e none) (fun _ t3 => wpAny (model X.prog X.w) X.A (handleBy e X.env [.ExceptHandler (some te) (some n) [.Assign [.Name y p1] (.Name n p2) p4] pos']) (SP X pins D) X.xe t3) X.xe t2) X.xe t1)
    fun u s' xx => ?caught).run [] s σ H D (I.toTry _) h) (fun f s1 hsp => ?over) (fun e s1 he => he)
  case over =>
    cases f with
    | next => obtain ⟨σ1, H1, I1, q⟩ := hsp; exact wpAny_execs_nil ⟨σ1, H1, I1.ofTry ok, q⟩
    | brk => obtain ⟨σ1, H1, I1, q⟩ := hsp; exact ⟨σ1, H1, I1.ofTry ok, q⟩
    | cont => obtain ⟨σ1, H1, I1, q⟩ := hsp; exact ⟨σ1, H1, I1.ofTry ok, q⟩
    | ret v => obtain ⟨v1, σ1, H1, I1, r, q⟩ := hsp; exact ⟨v1, σ1, H1, I1.ofTry ok, r, q⟩
  case caught =>
    obtain ⟨a, B, sI, pins1, σ1, H1, cls, d, rfl, I1, nb, up, sky, na, os, ag, rfl, dd, rfl, hq⟩ := xx
    have J : Inv X pins σ1 H1 sI := I1.ofTry ok
    have sk : Sky B (X.env :: X.outer) a (Zc (.ref C) (some dd)) X.env.locals s'.heap := by rw [← hs]; exact sky
    have gone : B.get? a = none := by
      rcases sk with z | z | z
      · exact z.2.1
      · exact z.2.1
      · exact z.2.1
    show wpAny (model X.prog X.w) X.A (noteFrame (.ref a) X.env) _ _ _
    refine Sky.land Zc.steady frs2 hf sk fun h3 f3 up3 => ?_
    have J3 : Inv X pins σ1 H1 { s' with heap := h3 } := J.landed nb f3.1 (up.trans up3) os ag
    obtain ⟨o3, v3, g3, z3, d3⟩ := f3.there
    have out : ∀ {h : Heap} {o : Obj} {vs : Array Value}, h.FunFrames B (X.env :: X.outer) → h.get? a = some o → o.data = .fields vs → a ∉ frs (X.env :: X.outer) := fun {h o vs} ff e dd m => by
      obtain ⟨_, o2, e2, nf⟩ := ff.mem m
      rw [e] at e2
      cases e2
      exact nf _ dd
    have nfr := out f3.2.2.1 g3 d3
    have nL : a ≠ X.env.locals := fun z => nfr (List.mem_filterMap.mpr ⟨X.env, List.mem_cons_self, hf.trans (congrArg some z.symm)⟩)
    have nF : a ∉ X.fs := fun m => by
      obtain ⟨e, he, q⟩ := List.mem_filterMap.mp m
      exact nfr (List.mem_filterMap.mpr ⟨e, List.mem_cons_of_mem _ he, q⟩)
    -- it is new
    have hI : sI.heap.get? a = none := by
      cases e : sI.heap.get? a with
      | none => rfl
      | some o =>
        have := nb a o e (by
          show a ∉ frs X.stack
          rw [hs]; exact nfr)
        rw [gone] at this; cases this
    have h0 : X.s_0.heap.get? a = none := by
      cases e : X.s_0.heap.get? a with
      | none => rfl
      | some o =>
        obtain ⟨o', e'⟩ := J.base.there a o e (by rw [hex]; simp)
        rw [hI] at e'; cases e'
    have np' : ∀ p ∈ X.pn ++ pins, p.1 ≠ a := fun p hp z => by
      have := (J.pin p hp).1
      rw [z, hI] at this; cases this
    have S3 := J3.suite g3 d3 na nL nF
    refine wpAny_handleBy_cons (codeAny_handlers_test ?_) (by intro q; cases q)
    have LT : PySem.W.Looks (model X.prog X.w) h3 (typeOf (.ref a)) (.ref C) := fun A Q E s k q => wpAny_typeOf_ref (k _ _ g3) (by rw [z3.1]; exact q)
    refine hT a o3 _ σ1 H1 _ S3 LT _ _ _ _ fun h5 k5 => codeAny_handlers_suite_as (HandSPX.lands_againZ (flying_keeps f3 k5) fun h4 f4 up4 => ?_)
    have J4 : Inv X pins σ1 H1 { s' with heap := h4 } := J.landed nb f4.1 (((up.trans up3).trans (Heap.UpToSlots.of_keeps k5)).trans up4) os ag
    obtain ⟨o4, v4, g4, z4, d4⟩ := f4.there
    refine store_ok (X := X.suite a ((a, o4) :: (X.pn ++ pins))) (v := .ref a) (J4.suite g4 d4 na nL nF) hN hi (.inl hln) rfl (fun s5 S5 => ?_) (.inr hln)
    have asg : PSs (X.suite a ((a, o4) :: (X.pn ++ pins))) [.Assign [.Name y p1] (.Name n p2) p4] (tAsg (tVar i) (gName j)) := pss_one (ps_set (i := j) hN hj hy (pe_var (i := i) hi hv hd hcd) (hf := .inr hyl))
    have hli : i < σ1.length := by
      have := J.len
      rw [this]
      exact lt_of_get hi
    refine wpAny_mono (asg.run [] s5 _ H1 { nx := fun σ6 H6 => σ6 = (σ1.set i (some (.ref a))).set j (some (.ref a)) ∧ H6 = H1, rt := fun _ _ => False } S5 ⟨.ref a, List.getElem?_set_self hli, rfl, rfl⟩) (fun f s6 hsp => ?_) (fun _ _ z => False.elim z)
    cases f with
    | next =>
      obtain ⟨σ6, H6, S6, e1, e2⟩ := hsp
      subst e1; subst e2
      exact gone_ok (unsuiteK S6 ok) hN hi hln fun s7 J7 => ⟨_, _, trackK J7 z4 d4 h0 np', hq a na⟩
    | brk => obtain ⟨_, _, _, z⟩ := hsp; exact z.elim
    | cont => obtain ⟨_, _, _, z⟩ := hsp; exact z.elim
    | ret u => obtain ⟨_, _, _, _, _, z⟩ := hsp; exact z.elim
end
end Mo
namespace Mo
open PySem PySem.Spec PyProof.Rows L2
section
variable {X : Cx} {C : Addr} {x z : Str} {c d : Value} {p q pos : Pos} {kk : Nat}
theorem test_one (hc : Names X x c) (hm : PySem.W.exmOne X.K (.ref C) c = some true) : TestC X (.Name x p) C := fun a o3 pn σ H s3 S LT A' Q E E' k => by
  have LM := PySem.W.exm_one (M := model X.prog X.w) S.kIn LT hm
  have fin := LM.here (A := A') (Q := Q) (E := E') (k s3.heap fun _ _ e => e)
  obtain ⟨hg, hd, h | ⟨h, hv, hn⟩⟩ := hc
  · exact ld_glob (X := X.suite a ((a, o3) :: pn)) S hg h fin hd
  · exact ld_blt (X := X.suite a ((a, o3) :: pn)) S hg h hv fin hn hd
theorem test_two (hc : Names X x c) (hd : Names X z d) (hm : PySem.W.exmAny X.K (.ref C) [c, d] = some true) : TestC X (.Tuple [.Name x p, .Name z q] kk pos) C := fun a o3 pn σ H s3 S LT A' Q E E' k => by
  have look : ∀ {x : Str} {c : Value} {p : Pos} {Q : Value → Shared → Prop} {E : Value → Shared → Prop}, Names X x c → Q c s3 → wpAny (model X.prog X.w) (X.A.mark (some (.ref a))) (eval (.Name x p) X.env) Q E s3 := fun {x c p Q E} hc q => by
    obtain ⟨hg, hd, h | ⟨h, hv, hn⟩⟩ := hc
    · exact ld_glob (X := X.suite a ((a, o3) :: pn)) S hg h q hd
    · exact ld_blt (X := X.suite a ((a, o3) :: pn)) S hg h hv q hn hd
  refine wpAny_Tuple (wpAny_items_cons (look hc (wpAny_items_cons (look hd (wpAny_items_nil ⟨by size_fits, ?_⟩)))))
  have kp : ∀ b o, s3.heap.get? b = some o → (s3.heap.push { cls := .type "tuple", data := .seq [c, d].toArray }).get? b = some o := fun _ _ e => Heap.get?_push_of_some _ e
  exact (PySem.W.exm_tup2 (S.kIn.keeps kp) (LT.keeps kp) (Heap.get?_push_size s3.heap rfl) hm).here (k _ kp)
end
end Mo
namespace Mo
open PySem PySem.Spec PyProof.Rows L2
/-! ### isinstance of what is kept, its field -/
def rIsK (K : PySem.W.Frag) : List V → Hp → VK → Prop := fun xs H Q => ∃ (a C dd : Addr) (fs : List (Str × V)) (c : V) (cv : Value) (b : Bool), xs = [.ref a, c] ∧ H a = some (exK C dd a) ∧ H dd = some (.xd fs) ∧ ExcC K C ∧ (∀ u, RelV c u → u = cv) ∧ PySem.W.kitOne K (.ref C) cv = some b ∧ Q (.bl b) H
section
variable {X : Cx}
theorem call_isK : CallR X (.builtin "isinstance") (rIsK X.K) := by
  intro pins s σ H xs us Q I r h
  obtain ⟨a, C, dd, fs, c, cv, b, rfl, ha, hd, EC, hcv, e, q⟩ := h
  cases r with
  | cons rx rr =>
    cases rr with
    | cons rt rr =>
      cases rr
      cases rx
      cases hcv _ rt
      obtain ⟨oe, vs, g, z, d⟩ := exK_at I ha
      obtain ⟨mA, hns, hr⟩ := I.hok dd _ hd
      obtain ⟨od, ho, hl⟩ := lookIn_ns hns
      have J : PySem.W.InstAt s.heap a oe C (some od) := ⟨g, z.1, by unfold PySem.W.notCls; rw [d] <;> rfl, by rw [z.2]; exact ho⟩
      obtain ⟨cd, hc, _⟩ := PySem.W.any_some EC.hd
      exact PySem.W.kia_one (PySem.W.kitx_exc (by rw [hc]; rfl) EC.hg EC.hk EC.hs EC.ha EC.hn EC.ht EC.hm) I.kIn J e (fun z => nomatch z) fun tk => ⟨.bl b, H, I.kept (t' := tk) fun _ _ z => z, rfl, q⟩
/-- x.f of what is kept -/
def tXk (C : Addr) (f : Str) (te : TE) : TE := fun σ H Q => te σ H fun x H1 => ∃ (a dd : Addr) (fs : List (Str × V)) (v : V), x = .ref a ∧ H1 a = some (exK C dd a) ∧ H1 dd = some (.xd fs) ∧ fs.lookup f = some v ∧ Q v H1
theorem pe_xk {C : Addr} {e : Expr} {te : TE} {pos : Pos} {f : Str} (T : XfC X.K C) (hno : PySem.W.findIn X.K (.ref C) f = some none) (he : PE X e te) (hb : attributeBase e f X.env (eval e X.env) = eval e X.env := by rfl) : PE X (.Attribute e f pos) (tXk C f te) := by
  refine ⟨fun pins s σ H Q I h => attr_of hb (thn (he.run pins s σ H _ I h) fun u s1 hh => ?_)⟩
  obtain ⟨x, H1, I1, rx, a, dd, fs, v, rfl, ha, hd, l, q⟩ := hh
  obtain rfl : u = Value.ref a := rx
  obtain ⟨oe, vs, g, z, d⟩ := exK_at I1 ha
  obtain ⟨mA, hns, hr⟩ := I1.hok dd _ hd
  obtain ⟨od, ho, hl⟩ := lookIn_ns hns
  obtain ⟨u, hu, ru⟩ := RelO.some_of (v := v) (o := mA f) (by rw [← l]; exact hr f)
  have J : PySem.W.InstAt s1.heap a oe C (some od) := ⟨g, z.1, by unfold PySem.W.notCls; rw [d] <;> rfl, by rw [z.2]; exact ho⟩
  exact HandSPX.exc_get I1.kIn J T.ga T.gg T.exC (PySem.W.findObj_own T.hdC hno rfl (by rw [hl, hu])) (handed_of ru) ⟨v, H1, I1.tok _, ru, q⟩
end
end Mo
set_option maxRecDepth 100000
set_option maxHeartbeats 1000000
/-! Mo: try: .. except V as e: y = e; if not isinstance(y, T) or isinstance(y, U): return None; return y.f. -/
namespace Mo
open PySem PySem.Spec PyProof.Rows L2
/-- class x is one of the kinds that the law asks for -/
structure KindC (K : PySem.W.Frag) (mg : Str → Option Value) (C : Addr) (t : Str) (b : Bool) : Prop where
  ex : ∃ T, mg t = some (.ref T) ∧ PySem.W.kitOne K (.ref C) (.ref T) = some b
/-- the one class that a clause names -/
structure OneX (K : PySem.W.Frag) (mg : Str → Option Value) (C : Addr) (v : Str) : Prop where
  ex : ∃ VA, mg v = some (.ref VA) ∧ PySem.W.exmOne K (.ref C) (.ref VA) = some true
def mKeepB (mb : MX) (c : Str) (i j : Nat) (f : Str) : MS := fun ρ S => (mb ρ S).bind fun r S1 => match r with
  | .fl _ => .bad
  | .ex c' fs ρ1 => if c' = c ∧ i < ρ1.length ∧ j < ρ1.length then match fs.lookup f with
    | some d => .ok (.rt d) S1
    | none => .bad
    else .bad
section
variable {X : Cx} {C : Addr} {k : Nat} {body : List Stmt} {mb : MX} {x v n y f t u : Str} {i j : Nat} {np p1 p2 p4 pos pos' : Pos}
variable {q1 q2 q3 q4 q5 q6 q7 q8 q9 q10 q11 q12 q13 q14 q15 : Pos} {rest : List Stmt} {kk : Nat} {q16 : Pos}
theorem pt_isK {w1 w2 w3 w4 : Pos} (hg : Gl X "isinstance") (hm : X.mg "isinstance" = none) (hj : X.N[j]? = some y) (hv : Vis X.env.scope y) {T : Addr} (hgt : Gl X t) (hmt : X.mg t = some (.ref T))
    (hdt : (t == ("__debug__" : Str)) = false) (hd : (y == ("__debug__" : Str)) = false := by decide) (hcd : (y == ("__classdict__" : Str)) = false := by decide) (hb : bootBuiltins "isinstance" = some (.builtin "isinstance") := by decide +kernel) :
    PE X (.Call (.Name "isinstance" w1) [.Name y w2, .Name t w3] [] w4) (tCB (rIsK X.K) (tCons (tVar j) (tCons (tC (.ref T)) tNil))) :=
  pe_callB call_isK hg hm hb (pa_cons (pe_var (i := j) hj hv hd hcd) (pa_cons (pe_glob hgt hmt rfl hdt) pa_nil)) (by decide) (by decide)
theorem ssm_keepB (R : ExC1 X.prog X.w X.K X.mg X.base k x f C) (EC : ExcC X.K C) (hN : X.N.Nodup) (hs : X.stack = X.env :: X.outer) (hf : X.env.frame = some X.env.locals) (hex : X.ex = []) (hi : X.N[i]? = some n) (hln : X.env.kindOf n = some .local) (hij : i ≠ j) (hj : X.N[j]? = some y) (hy : Loc X.env.scope y) (hyl : X.env.scope.names.lookup y = some .local) (hyv : Vis X.env.scope y) (hv : Vis X.env.scope n)
    (OX : OneX X.K X.mg C v) (hgv : Gl X v) (hdv : (v == ("__debug__" : Str)) = false) (hgi : Gl X "isinstance") (hmi : X.mg "isinstance" = none)
    (K1 : KindC X.K X.mg C t true) (K2 : KindC X.K X.mg C u false) (hgt : Gl X t) (hdt : (t == ("__debug__" : Str)) = false) (hgu : Gl X u) (hdu : (u == ("__debug__" : Str)) = false)
    (hb : ∀ (W : WX) (pn : List (Addr × Obj)) (xe : Value → Shared → Prop), Takes (X.tr pn xe) W → XsM (X.tr pn xe) W body mb)
    (hd : (n == ("__debug__" : Str)) = false := by decide) (hcd : (n == ("__classdict__" : Str)) = false := by decide) (hd2 : (y == ("__debug__" : Str)) = false := by decide) (hcd2 : (y == ("__classdict__" : Str)) = false := by decide) :
    SsM X (.Try body [.ExceptHandler (some (.Name v np)) (some n) [.Assign [.Name y p1] (.Name n p2) p4] pos'] [] [] pos :: .If (.BoolOp .Or [.UnaryOp .Not (.Call (.Name "isinstance" q1) [.Name y q2, .Name t q3] [] q4) q5, .Call (.Name "isinstance" q6) [.Name y q7, .Name u q8] [] q9] q10) [.Return (some (.Constant .none kk q11)) q12] [] q13 :: [.Return (some (.Attribute (.Name y q14) f q15)) q16]) (mKeepB mb x i j f) := by
  obtain ⟨VA, mv, hm⟩ := OX.ex
  obtain ⟨T, mt, kt⟩ := K1.ex
  obtain ⟨U, mu, ku⟩ := K2.ex
  have P1 := ps_try_keep (tb := fun W => tX X.K X.mg W mb) (p1 := p1) (p2 := p2) (p4 := p4) (pos := pos) (pos' := pos') hs hf hN hi hln (test_one (p := np) ⟨hgv, hdv, .inl mv⟩ hm) hex hj hy hyl hv (fun W pn xe tk => hb W pn xe tk) hd hcd
  have P2 := ps_if (pos := q13) (PW.pt (pw_or (pos := q10) (pt_not (pos := q5) (pt_val (pt_isK (w1 := q1) (w2 := q2) (w3 := q3) (w4 := q4) hgi hmi hj hyv hgt mt hdt hd2 hcd2))) (pw_or1 (pt_val (pt_isK (w1 := q6) (w2 := q7) (w3 := q8) (w4 := q9) hgi hmi hj hyv hgu mu hdu hd2 hcd2))))) (pss_one (ps_ret (pos := q12) (pe_non (j := kk) (pos := q11)))) pss_nil
  have P3 := pss_one (ps_ret (pos := q16) (pe_xk (pos := q15) R.xf R.no (pe_var (pos := q14) (i := j) hj hyv hd2 hcd2)))
  refine PSs.of (pss_cons P1 (pss_cons P2 P3)) fun E σ H ⟨g, w, o, ρ, S, fl, S', s, hm', q⟩ => ?_
  obtain ⟨r1, S1, e1, hm'⟩ := Mo.R.bind_ok hm'
  cases r1 with
  | fl f1 => cases hm'
  | ex c' fs ρ1 =>
    dsimp only at hm'
    split at hm'
    · rename_i hcc
      obtain ⟨hcx, hlen, hlen2⟩ := hcc
      cases hl : fs.lookup f with
      | none => rw [hl] at hm'; cases hm'
      | some d =>
        rw [hl] at hm'
        cases hm'
        refine ⟨g, w, o, ρ, S, _, _, s, e1, fun g1 o1 H1 x1 σ1 C' dd vs hc' st hdd rf => ?_⟩
        rw [hcx, R.at_] at hc'
        cases hc'
        refine ⟨rfl, dd, rfl, fun a ha => ?_⟩
        obtain ⟨v1, hv1, rv⟩ := relfs_at rf hl
        have hjl : j < σ1.length := by rw [← st.len]; exact hlen2
        have hσ : (((σ1.set i (some (V.ref a))).set j (some (V.ref a))).set i none)[j]? = some (some (V.ref a)) := by
          rw [List.getElem?_set_ne hij, List.getElem?_set_self (by rw [List.length_set]; exact hjl)]
        have hne : dd ≠ a := fun z => by rw [z, ha] at hdd; cases hdd
        have hd' : (upd H1 a (exK C dd a)) dd = some (.xd vs) := by rw [upd_ne hne]; exact hdd
        refine ⟨_, hσ, ⟨a, C, dd, vs, _, _, true, rfl, upd_same, hd', EC, fun u hu => hu, kt, ?_⟩⟩
        refine ⟨true, rfl, ?_⟩
        dsimp only
        rw [if_neg (show ¬ (!true) = true by simp)]
        refine ⟨_, hσ, ⟨a, C, dd, vs, _, _, false, rfl, upd_same, hd', EC, fun u hu => hu, ku, ⟨false, rfl, ?_⟩⟩⟩
        dsimp only
        rw [if_neg Bool.false_ne_true]
        refine ⟨_, hσ, a, dd, vs, v1, rfl, upd_same, hd', hv1, ?_⟩
        have x2 : Ext g1 H1 g1 (upd H1 a (exK C dd a)) := .new ha
        exact q g1 o1 _ (x1.trans x2.s) v1 ((st.sto.new ha).less fun b hb => List.mem_append_left _ hb) (RelD.less (fun b hb => List.mem_append_left _ hb) _ _ (RelD.ext x2 _ _ rv))
    · cases hm'
end
end Mo
set_option maxRecDepth 100000
set_option maxHeartbeats 1000000
/-! Mo: calls by keyword of what may raise; a caught exception of two kinds, asked for one of two. -/
namespace Mo
open PySem PySem.Spec PyProof.Rows L2
def mCallXK (m : MFX) (n np nk : Nat) (pick : List D → List D → List D) (l lk : MA) : MEX := fun ρ S => (l ρ S).bind fun ds S1 => (lk ρ S1).bind fun es S2 =>
  if ds.length = np ∧ es.length = nk ∧ (pick ds es).length = n then m (pick ds es) S2 else .bad
section
variable {X : Cx} {W : WX} {k n : Nat} {a : Addr} {fd : FuncData} {ps : List Str} {x : Str} {p pos : Pos} {e : Expr} {es : List Expr} {l : MA} {m : MFX} {kws : List Keyword} {ks : List Str} {lk : MA} {np : Nat} {ix : List Nat}
theorem runSK {CX : CXT} {sp : Sp} {E : XK} {pins : List (Addr × Obj)} {σ : L2.St} {H : Hp} {s : Shared} {Q : VK} {us ws : List Value} {vs : List L2.V} {all : List Value} (F : FnG X.prog X.w X.K X.mg X.base CX k a fd ps sp)
    (hg : X.A.guards = some []) (hr : Room k X.A) (hb : BindsTo s fd ⟨us, ks.zip ws⟩ (ps.zip all)) (hx : PassesAt CX X σ E) (I : Inv X pins σ H s) (r : Vals vs all) (h : sp vs H Q E) :
    wpAny (model X.prog X.w) X.A (call (.ref a) us (ks.zip ws)) (EP X pins σ Q) X.xe s := by
  refine wpAny_call (codeAny_mono (F.go X.A X.stack s H _ all vs Q E hg hr I.env0 hb r h) ?_)
  intro q s' hq
  match q, hq with
  | .error e, hq => exact hx pins H s e s' I hq
  | .ok (.ret u), hq => exact I.after hq
  | .ok .next, hq => exact hq.elim
  | .ok .brk, hq => exact hq.elim
  | .ok .cont, hq => exact hq.elim
theorem ex_callK (at_ : X.mg x = some (.ref a)) (kp : PySem.W.keepIn X.K (.ref a) = true) (F : FnG X.prog X.w X.K X.mg X.base (L2.CX X.prog X.w) k a fd ps (spX X.K X.mg n m)) (B : Mix fd ps ks np (pickIx ix)) (tk : Takes X W) (hgd : X.A.guards = some []) (hr : Room k X.A) (hg : Gl X x) (ha : AM X (e :: es) l) (hkw : KM X kws lk)
    (hall : (backToKw pos (keywordEach kws X.env)).all (·.1.isSome) = true := by rfl) (hks : (backToKw pos (keywordEach kws X.env)).filterMap (·.1) = ks := by rfl)
    (hdb : (x == ("__debug__" : Str)) = false := by decide) (he : starEach (e :: es) X.env = (false, eval e X.env) :: starEach es X.env := by rfl)
    (hpl : ((backTo pos (starEach (e :: es) X.env)).any (·.1) || (backToKw pos (keywordEach kws X.env)).any (·.1.isNone)) = false := by rfl) :
    EX X W (.Call (.Name x p) (e :: es) kws pos) (mCallXK m n np ks.length (pickIx ix) l lk) := by
  refine ⟨fun pins s σ H Q I ⟨g, w, o, ρ, S, r, S', st, hq, q⟩ => ?_⟩
  obtain ⟨ds, S1, h1, hq⟩ := Mo.R.bind_ok hq
  obtain ⟨ds2, S2, h2, hq⟩ := Mo.R.bind_ok hq
  split at hq
  · rename_i hl
    obtain ⟨l1, l2, l3⟩ := hl
    refine wpAny_Call_Name_kw (ld_glob I hg at_ (PySem.W.callWith_KW (h₀ := X.base) I.ok.mod.kin kp hall ?_ hpl he) hdb)
    refine thn (PA.run ha pos pins s σ H _ I ⟨g, w, o, ρ, S, ds, S1, st, h1, fun vs g1 H1 x1 s1 r1 => (⟨g1, H1, rfl, x1, s1, r1⟩ : ∃ g1 H2, H1 = H2 ∧ Ext g H g1 H2 ∧ RelS X.K g1 (w ++ o) H2 S1 ∧ RelDs X.K g1 (w ++ o) H2 ds vs)⟩) fun us s1 ⟨vs, H1, I1, rv, g1, H1', e1, x1, t1, r1⟩ => ?_
    subst e1
    refine thn (PK.run hkw pos pins s1 σ H1 _ I1 ⟨g1, w, o, ρ, S1, ds2, S2, st.ext x1 t1, h2, fun zs g2 H2 x2 s2 r2 => (⟨g2, H2, rfl, x2, s2, r2⟩ : ∃ g2 H3, H2 = H3 ∧ Ext g1 H1 g2 H3 ∧ RelS X.K g2 (w ++ o) H3 S2 ∧ RelDs X.K g2 (w ++ o) H3 ds2 zs)⟩) fun ws s2 ⟨zs, H2, I2, rz, g2, H2', e2, x2, t2, r2⟩ => ⟨I2.kIn, ?_⟩
    subst e2
    rw [hks]
    have u1 : us.length = np := by rw [← rv.length, ← r1.length]; exact l1
    have u2 : ws.length = ks.length := by rw [← rz.length, ← r2.length]; exact l2
    have rr := B.rel X.K g2 (w ++ o) H2 ds ds2 vs zs (RelDs.ext x2 ds vs r1) r2 l1 l2
    refine runSK (E := WE W σ) F hgd hr (.of_eq (B.to us ws u1 u2)) (passAt tk σ) I2 (B.map vs zs us ws rv rz u1 u2) ⟨by rw [← rr.length]; exact l3, g2, w ++ o, pickIx ix ds ds2, S2, r, S', fun b hbm => x2.live b (x1.live b (st.liv b hbm)), t2, rr, hq, ?_⟩
    cases r with
    | rt d => exact fun v g3 H3 x3 s3 r3 => q v g3 H3 ((x1.trans x2).trans x3) s3 r3
    | ex c fs => exact fun g3 H3 x3 s3 C dd vs' hc hdx rf => q g3 H3 ((x1.trans x2).trans x3) s3 C dd vs' hc hdx rf
  · cases hq
end
@[simp] theorem mCallXK_eq (m : MFX) (n np nk : Nat) (pick : List D → List D → List D) (l lk : MA) (ρ : MEnv) (S : Store) : mCallXK m n np nk pick l lk ρ S = (l ρ S).bind fun ds S1 => (lk ρ S1).bind fun es S2 =>
  if ds.length = np ∧ es.length = nk ∧ (pick ds es).length = n then m (pick ds es) S2 else .bad := rfl
/-! ### isinstance(x, (A, B)) of what is kept -/
def rIsKT (K : PySem.W.Frag) : List L2.V → Hp → VK → Prop := fun xs H Q => ∃ (a C dd p : Addr) (fs : List (Str × L2.V)) (vs : List L2.V) (b : Bool), xs = [.ref a, .ref p] ∧ H a = some (exK C dd a) ∧ H dd = some (.xd fs) ∧ H p = some (.tup vs) ∧ ExcC K C ∧ (∀ us, Vals vs us → PySem.W.kitAny K (.ref C) us = some b) ∧ Q (.bl b) H
section
variable {X : Cx}
theorem call_isKT : CallR X (.builtin "isinstance") (rIsKT X.K) := by
  intro pins s σ H xs us Q I r h
  obtain ⟨a, C, dd, p, fs, vs, b, rfl, ha, hd, hp, EC, e, q⟩ := h
  cases r with
  | cons rx rr =>
    cases rr with
    | cons rt rr =>
      cases rr
      cases rx
      cases rt
      obtain ⟨oe, ws, g, z, d⟩ := exK_at I ha
      obtain ⟨mA, hns, hr⟩ := I.hok dd _ hd
      obtain ⟨od, ho, hl⟩ := lookIn_ns hns
      obtain ⟨hz, its, rv, pt⟩ := I.hok p _ hp
      have J : PySem.W.InstAt s.heap a oe C (some od) := ⟨g, z.1, by unfold PySem.W.notCls; rw [d] <;> rfl, by rw [z.2]; exact ho⟩
      obtain ⟨cd, hc, _⟩ := PySem.W.any_some EC.hd
      obtain ⟨⟨oc, od2, oda, osl⟩, hp1, hp2, n, hp3⟩ := id pt
      dsimp only at hp2 hp3
      subst hp2; subst hp3
      exact PySem.W.kia_tup (PySem.W.kitx_exc (by rw [hc]; rfl) EC.hg EC.hk EC.hs EC.ha EC.hn EC.ht EC.hm) I.kIn J hp1 (e _ rv) (fun z => nomatch z) fun tk => ⟨.bl b, H, I.kept (t' := tk) fun _ _ z => z, rfl, q⟩
end
end Mo
namespace Mo
open PySem PySem.Spec PyProof.Rows L2
/-- the two classes that a clause, or a question, names -/
structure TwoC (K : PySem.W.Frag) (mg : Str → Option Value) (C : Addr) (a b : Str) (ex : Bool) (r : Bool) : Prop where
  ex : ∃ A B, mg a = some (.ref A) ∧ mg b = some (.ref B) ∧ (if ex = true then PySem.W.exmAny K (.ref C) [.ref A, .ref B] else PySem.W.kitAny K (.ref C) [.ref A, .ref B]) = some r
section
variable {X : Cx} {C : Addr} {k : Nat} {body : List Stmt} {mb : MX} {x v1 v2 n y f t u1 u2 b : Str} {bs : String} {i j : Nat} {pos pos' : Pos}
variable {q1 q2 q3 q4 q5 q6 q7 q8 q9 q10 q11 q12 q13 q14 q15 q16 q17 q18 q19 q20 q21 q22 q23 q24 q25 q26 q27 q28 q29 q30 q31 : Pos} {k1 k2 k3 k4 : Nat}
theorem pe_isKB {w1 w2 w3 w4 : Pos} (hg : Gl X "isinstance") (hm : X.mg "isinstance" = none) (hj : X.N[j]? = some y) (hv : Vis X.env.scope y) (hgb : Gl X b) (hmb : X.mg b = none) (hbb : bootBuiltins b = some (.type bs)) (hnb : b ≠ "__name__") (hdb : (b == ("__debug__" : Str)) = false)
    (hd : (y == ("__debug__" : Str)) = false := by decide) (hcd : (y == ("__classdict__" : Str)) = false := by decide) (hb : bootBuiltins "isinstance" = some (.builtin "isinstance") := by decide +kernel) :
    PE X (.Call (.Name "isinstance" w1) [.Name y w2, .Name b w3] [] w4) (tCB (rIsK X.K) (tCons (tVar j) (tCons (tC (.ty bs)) tNil))) :=
  pe_callB call_isK hg hm hb (pa_cons (pe_var (i := j) hj hv hd hcd) (pa_cons (pe_bltn (v := .ty bs) hgb hmb hbb rfl hnb hdb) pa_nil)) (by decide) (by decide)
theorem pe_isKT {w1 w2 w3 w4 w5 w6 : Pos} {A B : Addr} (hg : Gl X "isinstance") (hm : X.mg "isinstance" = none) (hj : X.N[j]? = some y) (hv : Vis X.env.scope y) (hga : Gl X u1) (hma : X.mg u1 = some (.ref A)) (hda : (u1 == ("__debug__" : Str)) = false) (hgb : Gl X u2) (hmb : X.mg u2 = some (.ref B)) (hdb : (u2 == ("__debug__" : Str)) = false)
    (hd : (y == ("__debug__" : Str)) = false := by decide) (hcd : (y == ("__classdict__" : Str)) = false := by decide) (hb : bootBuiltins "isinstance" = some (.builtin "isinstance") := by decide +kernel) :
    PE X (.Call (.Name "isinstance" w1) [.Name y w2, .Tuple [.Name u1 w3, .Name u2 w4] k1 w5] [] w6) (tCB (rIsKT X.K) (tCons (tVar j) (tCons (tTup (tCons (tC (.ref A)) (tCons (tC (.ref B)) tNil))) tNil))) :=
  pe_callB call_isKT hg hm hb (pa_cons (pe_var (i := j) hj hv hd hcd) (pa_cons (pe_tup (pa_cons (pe_glob hga hma rfl hda) (pa_cons (pe_glob hgb hmb rfl hdb) pa_nil))) pa_nil)) (by decide) (by decide)
theorem ssm_keepA (RC : ExC1 X.prog X.w X.K X.mg X.base k x f C) (EC : ExcC X.K C) (hN : X.N.Nodup) (hs : X.stack = X.env :: X.outer) (hf : X.env.frame = some X.env.locals) (hex : X.ex = []) (hi : X.N[i]? = some n) (hln : X.env.kindOf n = some .local) (hij : i ≠ j) (hj : X.N[j]? = some y) (hy : Loc X.env.scope y) (hyl : X.env.scope.names.lookup y = some .local) (hyv : Vis X.env.scope y) (hv : Vis X.env.scope n)
    (T1 : TwoC X.K X.mg C v1 v2 true true) (hgv1 : Gl X v1) (hdv1 : (v1 == ("__debug__" : Str)) = false) (hgv2 : Gl X v2) (hdv2 : (v2 == ("__debug__" : Str)) = false) (hgi : Gl X "isinstance") (hmi : X.mg "isinstance" = none)
    (K1 : KindC X.K X.mg C t true) (hgt : Gl X t) (hdt : (t == ("__debug__" : Str)) = false) (hgb : Gl X b) (hmb : X.mg b = none) (hbb : bootBuiltins b = some (.type bs)) (hnb : b ≠ "__name__") (hdb : (b == ("__debug__" : Str)) = false) (hkb : PySem.W.kitOne X.K (.ref C) (.type bs) = some true)
    (T2 : TwoC X.K X.mg C u1 u2 false false) (hgu1 : Gl X u1) (hdu1 : (u1 == ("__debug__" : Str)) = false) (hgu2 : Gl X u2) (hdu2 : (u2 == ("__debug__" : Str)) = false)
    (hb : ∀ (W : WX) (pn : List (Addr × Obj)) (xe : Value → Shared → Prop), Takes (X.tr pn xe) W → XsM (X.tr pn xe) W body mb)
    (hd : (n == ("__debug__" : Str)) = false := by decide) (hcd : (n == ("__classdict__" : Str)) = false := by decide) (hd2 : (y == ("__debug__" : Str)) = false := by decide) (hcd2 : (y == ("__classdict__" : Str)) = false := by decide) :
    SsM X (.Try body [.ExceptHandler (some (.Tuple [.Name v1 q1, .Name v2 q2] k2 q3)) (some n) [.Assign [.Name y q4] (.Name n q5) q6] pos'] [] [] pos ::
      .If (.BoolOp .Or [.UnaryOp .Not (.Call (.Name "isinstance" q7) [.Name y q8, .Name t q9] [] q10) q11, .UnaryOp .Not (.Call (.Name "isinstance" q12) [.Name y q13, .Name b q14] [] q15) q16] q17) [.Return (some (.Constant .none k3 q18)) q19] [] q20 ::
      [.Return (some (.IfExp (.Call (.Name "isinstance" q21) [.Name y q22, .Tuple [.Name u1 q23, .Name u2 q24] k1 q25] [] q26) (.Constant .none k4 q27) (.Attribute (.Name y q28) f q29) q30)) q31]) (mKeepB mb x i j f) := by
  obtain ⟨T, mt, kt⟩ := K1.ex
  obtain ⟨VA, VB, mv1, mv2, kv⟩ := T1.ex
  obtain ⟨UA, UB, mu1, mu2, ku⟩ := T2.ex
  rw [if_pos rfl] at kv
  rw [if_neg Bool.false_ne_true] at ku
  have P1 := ps_try_keep (tb := fun W => tX X.K X.mg W mb) (p1 := q4) (p2 := q5) (p4 := q6) (pos := pos) (pos' := pos') hs hf hN hi hln (test_two (p := q1) (q := q2) (kk := k2) (pos := q3) ⟨hgv1, hdv1, .inl mv1⟩ ⟨hgv2, hdv2, .inl mv2⟩ kv) hex hj hy hyl hv (fun W pn xe tk => hb W pn xe tk) hd hcd
  have P2 := ps_if (pos := q20) (PW.pt (pw_or (pos := q17) (pt_not (pos := q11) (pt_val (pt_isK (w1 := q7) (w2 := q8) (w3 := q9) (w4 := q10) hgi hmi hj hyv hgt mt hdt hd2 hcd2))) (pw_or1 (pt_not (pos := q16) (pt_val (pe_isKB (w1 := q12) (w2 := q13) (w3 := q14) (w4 := q15) hgi hmi hj hyv hgb hmb hbb hnb hdb hd2 hcd2)))))) (pss_one (ps_ret (pos := q19) (pe_non (j := k3) (pos := q18)))) pss_nil
  have P3 := pss_one (ps_ret (pos := q31) (pe_ifExp (pos := q30) (pt_val (pe_isKT (k1 := k1) (w1 := q21) (w2 := q22) (w3 := q23) (w4 := q24) (w5 := q25) (w6 := q26) hgi hmi hj hyv hgu1 mu1 hdu1 hgu2 mu2 hdu2 hd2 hcd2)) (pe_non (j := k4) (pos := q27)) (pe_xk (pos := q29) RC.xf RC.no (pe_var (pos := q28) (i := j) hj hyv hd2 hcd2))))
  refine PSs.of (pss_cons P1 (pss_cons P2 P3)) fun E σ H ⟨g, w, o, ρ, S, fl, S', s, hm', q⟩ => ?_
  obtain ⟨r1, S1, e1, hm'⟩ := Mo.R.bind_ok hm'
  cases r1 with
  | fl f1 => cases hm'
  | ex c' fs ρ1 =>
    dsimp only at hm'
    split at hm'
    · rename_i hcc
      obtain ⟨hcx, hlen, hlen2⟩ := hcc
      cases hl : fs.lookup f with
      | none => rw [hl] at hm'; cases hm'
      | some d =>
        rw [hl] at hm'
        cases hm'
        refine ⟨g, w, o, ρ, S, _, _, s, e1, fun g1 o1 H1 x1 σ1 C' dd vs hc' st hdd rf => ?_⟩
        rw [hcx, RC.at_] at hc'
        cases hc'
        refine ⟨rfl, dd, rfl, fun a ha => ?_⟩
        obtain ⟨v1, hv1, rv⟩ := relfs_at rf hl
        have hjl : j < σ1.length := by rw [← st.len]; exact hlen2
        have hσ : (((σ1.set i (some (L2.V.ref a))).set j (some (L2.V.ref a))).set i none)[j]? = some (some (L2.V.ref a)) := by
          rw [List.getElem?_set_ne hij, List.getElem?_set_self (by rw [List.length_set]; exact hjl)]
        have hne : dd ≠ a := fun z => by rw [z, ha] at hdd; cases hdd
        have hd' : (upd H1 a (exK C dd a)) dd = some (.xd vs) := by rw [upd_ne hne]; exact hdd
        refine ⟨_, hσ, ⟨a, C, dd, vs, _, _, true, rfl, upd_same, hd', EC, fun u hu => hu, kt, ?_⟩⟩
        refine ⟨true, rfl, ?_⟩
        dsimp only
        rw [if_neg (show ¬ (!true) = true by simp)]
        refine ⟨_, hσ, ⟨a, C, dd, vs, _, _, true, rfl, upd_same, hd', EC, fun u hu => hu, hkb, ⟨true, rfl, ?_⟩⟩⟩
        dsimp only
        rw [if_neg (show ¬ (!true) = true by simp)]
        refine ⟨_, hσ, ⟨show (2 : Nat) ≤ sizeLine by decide, fun p hp => ?_⟩⟩
        have na : a ≠ p := fun z => by rw [← z, upd_same] at hp; cases hp
        have nd : dd ≠ p := fun z => by rw [← z, hd'] at hp; cases hp
        have h1 : (upd (upd H1 a (exK C dd a)) p (.tup [.ref UA, .ref UB])) a = some (exK C dd a) := by rw [upd_ne na]; exact upd_same
        have h2 : (upd (upd H1 a (exK C dd a)) p (.tup [.ref UA, .ref UB])) dd = some (.xd vs) := by rw [upd_ne nd]; exact hd'
        refine ⟨a, C, dd, p, vs, _, false, rfl, h1, h2, upd_same, EC, fun us hu => ?_, ⟨false, rfl, ?_⟩⟩
        · cases hu with
          | cons r1 r2 =>
            cases r2 with
            | cons r2 r3 =>
              cases r3
              cases r1; cases r2
              exact ku
        dsimp only
        rw [if_neg Bool.false_ne_true]
        refine ⟨_, hσ, a, dd, vs, v1, rfl, h1, h2, hv1, ?_⟩
        have x2 : Ext g1 H1 g1 (upd H1 a (exK C dd a)) := .new ha
        have x3 : Ext g1 (upd H1 a (exK C dd a)) g1 (upd (upd H1 a (exK C dd a)) p (.tup [.ref UA, .ref UB])) := .new hp
        exact q g1 o1 _ (x1.trans (x2.trans x3).s) v1 (((st.sto.new ha).new hp).less fun b hb => List.mem_append_left _ hb) (RelD.less (fun b hb => List.mem_append_left _ hb) _ _ (RelD.ext (x2.trans x3) _ _ rv))
    · cases hm'
end
end Mo
set_option maxRecDepth 100000
set_option maxHeartbeats 1000000
/-! Mo: list(range(a, b)). -/
namespace Mo
open PySem PySem.Spec PyProof.Rows L2
def mListRg (ma mb : ME) : ML := fun ρ S => (ma ρ S).bind fun x S1 => (mb ρ S1).bind fun y S2 => match x, y with
  | .int i, .int j => if b62 i = true ∧ b62 j = true ∧ (j - i).toNat ≤ 1000000 then .ok (rangeD i j) S2 else .bad
  | _, _ => .bad
theorem rg_ints (i j : Int) : rangeD i j = ((List.range (j - i).toNat).map fun k : Nat => i + (k : Int)).map .int := by unfold rangeD; rw [List.map_map]; rfl
theorem rgV_ints (i j : Int) : rgV i j = ((List.range (j - i).toNat).map fun k : Nat => i + (k : Int)).map L2.V.int := by unfold rgV; rw [List.map_map]; rfl
section
variable {X : Cx} {a b : Expr} {ma mb : ME} {p q pos pos2 : Pos}
theorem nm_listRg (hc : X.calm = true) (ha : EM X a ma) (hb : EM X b mb) (hg : Gl X "list") (hm : X.mg "list" = none) (hg2 : Gl X "range") (hm2 : X.mg "range" = none)
    (na : starEach [a, b] X.env = (false, eval a X.env) :: starEach [b] X.env := by rfl) (nb : starEach [b] X.env = (false, eval b X.env) :: starEach [] X.env := by rfl) (hp : (backTo pos2 (starEach [b] X.env)).any (·.1) = false := by rfl)
    (n2 : starEach [.Call (.Name "range" q) [a, b] [] pos2] X.env = (false, eval (.Call (.Name "range" q) [a, b] [] pos2) X.env) :: starEach [] X.env := by rfl) :
    NM X (.Call (.Name "list" p) [.Call (.Name "range" q) [a, b] [] pos2] [] pos) (mListRg ma mb) :=
  PE.of (pe_listRg hc hg hm (prg_2 hg2 hm2 ha hb na nb hp) n2) fun σ H Q ⟨g, w, o, ρ, S, l, S', s, hm, q⟩ => by
    obtain ⟨x, S1, h1, hm⟩ := Mo.R.bind_ok hm
    obtain ⟨y, S2, h2, hm⟩ := Mo.R.bind_ok hm
    split at hm
    · rename_i i j _
      split at hm
      · rename_i hz
        obtain ⟨z1, z2, z3⟩ := hz
        cases hm
        have b1 := (b62_iff _).mp z1
        have b2 := (b62_iff _).mp z2
        refine ⟨g, w, o, ρ, S, _, S1, s, h1, fun v1 g1 H1 x1 s1 r1 => ⟨g1, w, o, ρ, S1, _, _, s.ext x1 s1, h2, fun v2 g2 H2 x2 s2 r2 => ?_⟩⟩
        cases r1
        cases r2
        refine ⟨i, j, rfl, rfl, ⟨b1.1, b1.2, b2.1, b2.2, by omega⟩, fun t ht => ?_⟩
        have q' : FinN X.K g2 (w ++ o) H2 (rangeD i j) S' Q := fun p vs g3 H3 x3 hp n3 e3 s3 r3 => q p vs g3 H3 ((x1.trans x2).trans x3) (back_none (x1.trans x2) hp) n3 e3 s3 r3
        rw [rgV_ints]
        rw [rg_ints] at q'
        exact q'.put s2 (rel_ints _) t ht
      · cases hm
    · cases hm
end
@[simp] theorem mListRg_eq (ma mb : ME) (ρ : MEnv) (S : Store) : mListRg ma mb ρ S = (ma ρ S).bind fun x S1 => (mb ρ S1).bind fun y S2 => (match x, y with
  | .int i, .int j => if b62 i = true ∧ b62 j = true ∧ (j - i).toNat ≤ 1000000 then .ok (rangeD i j) S2 else .bad
  | _, _ => .bad) := rfl
@[simp] theorem mKeepB_eq (mb : MX) (c : Str) (i j : Nat) (f : Str) (ρ : MEnv) (S : Store) : mKeepB mb c i j f ρ S = (mb ρ S).bind fun r S1 => (match r with
  | .fl _ => .bad
  | .ex c' fs ρ1 => if c' = c ∧ i < ρ1.length ∧ j < ρ1.length then match fs.lookup f with
    | some d => .ok (.rt d) S1
    | none => .bad
    else .bad) := rfl
end Mo
set_option maxRecDepth 100000
set_option maxHeartbeats 1000000
/-! Mo: which classes an exception is of, from what the written part tells. -/
namespace Mo
open PySem PySem.Spec PyProof.Rows L2
section
variable {K : PySem.W.Frag} {mg : Str → Option Value} {C A B : Addr} {a b t v : Str} {r p q : Bool}
theorem kit_ref (self : PySem.W.subIn K (.ref C) (.ref C) = some true) (hd : PySem.W.hasDictIn K A = true) (ht : PySem.W.typeIn K (.ref A) = some (.type "type")) (hs : PySem.W.subIn K (.ref C) (.ref A) = some r) : PySem.W.kitOne K (.ref C) (.ref A) = some r := by
  unfold PySem.W.kitOne
  cases e : (Value.ref C == Value.ref A) with
  | true =>
    have : C = A := Value.ref.inj (beq_iff_eq.mp e)
    subst this
    rw [self] at hs
    rw [if_pos rfl]
    exact hs
  | false =>
    obtain ⟨cd, hc, _⟩ := PySem.W.any_some hd
    rw [if_neg Bool.false_ne_true]
    show (if ((PySem.W.clsIn K A).isSome && PySem.W.typeIn K (.ref A) == some (.type "type")) = true then PySem.W.subIn K (.ref C) (.ref A) else none) = some r
    rw [hc, ht, if_pos (by rfl)]
    exact hs
theorem kit_self : PySem.W.kitOne K (.ref C) (.ref C) = some true := by
  unfold PySem.W.kitOne
  rw [if_pos (by simp)]
theorem kit_type {T : String} (hm : PySem.W.kitMeta T = true) (hs : PySem.W.subIn K (.ref C) (.type T) = some r) : PySem.W.kitOne K (.ref C) (.type T) = some r := by
  unfold PySem.W.kitOne
  rw [if_neg (by simp)]
  show (if PySem.W.kitMeta T = true then PySem.W.subIn K (.ref C) (.type T) else none) = some r
  rw [if_pos hm]
  exact hs
theorem twoX (ma : mg a = some (.ref A)) (mb : mg b = some (.ref B)) (e1 : PySem.W.exmOne K (.ref C) (.ref A) = some p) (e2 : PySem.W.exmOne K (.ref C) (.ref B) = some q) : TwoC K mg C a b true (p || (q || false)) :=
  ⟨A, B, ma, mb, by rw [if_pos rfl]; unfold PySem.W.exmAny PySem.W.exmAny PySem.W.exmAny; rw [e1, e2]⟩
theorem twoK (ma : mg a = some (.ref A)) (mb : mg b = some (.ref B)) (e1 : PySem.W.kitOne K (.ref C) (.ref A) = some p) (e2 : PySem.W.kitOne K (.ref C) (.ref B) = some q) : TwoC K mg C a b false (p || (q || false)) :=
  ⟨A, B, ma, mb, by rw [if_neg Bool.false_ne_true]; unfold PySem.W.kitAny PySem.W.kitAny PySem.W.kitAny; rw [e1, e2]; cases p <;> cases q <;> rfl⟩
end
end Mo
set_option maxRecDepth 100000
set_option maxHeartbeats 1000000
/-! Mo: dicts whose keys are tuples of any depth: walked through, and their keys in order. -/
namespace PySem.W
open PySem PySem.Spec PySem.Calls PyProof.Rows PyProof.V
section
variable {prog : Program} {w : World} {A : Around} {E : Value → Shared → Prop} {s : Shared}
theorem mo_sorted_datas {α : Type} {R : Value → α → Prop} {enc : α → PyData} {bs : List α} {l : Value} {Q : Value → Shared → Prop} (C : List Value → Shared → Prop)
    (hcol : ∀ (E' : Value → Shared → Prop) (Q' : List Value → Shared → Prop), (∀ vs s1, C vs s1 → Q' vs s1) → wpAny (model prog w) A.in1 (collect l) Q' E' s)
    (hC : ∀ vs s1, C vs s1 → EachIs R vs bs ∧ EachIs (fun v b => ∃ as, Reads s1.heap v (enc b) as) vs bs)
    (hal : AllAlike (bs.map enc)) (hk : Sortable (bs.map enc)) (hL : bs.length ≤ sizeLine) (hu : ∀ b, b ∈ bs → A.units + 2 + (enc b).depth < cLine)
    (hQ : ∀ vs s1 out, C vs s1 → out.length = bs.length → EachIs R out (bs.mergeSort (dataLe false enc)) → Q (.ref s1.heap.objs.size) { s1 with heap := sortedHeap (s1.heap.push (seqObj "list" vs.toArray 0)) s1.heap.objs.size vs (List.toArray out) }) :
    wpAny (model prog w) A (call (.builtin "sorted") [l]) Q E s := by
  refine call_function_entry kind_sorted plain_sorted entry_sorted (args_sorted1 _) ?_
  unfold Builtin.«sorted»
  refine wpAny_bind (m := checkCount "sorted" 1 1 _) (wpAny_pure ?_)
  refine wpAny_bind (hcol _ _ fun vs s1 c => ?_)
  obtain ⟨e, er⟩ := hC vs s1 c
  have hL' : vs.length ≤ sizeLine := by rw [e.length]; exact hL
  refine wpAny_bind (wpAny_newList ?_ hL')
  have at0 : (s1.heap.push (seqObj "list" vs.toArray 0)).get? s1.heap.objs.size = some (seqObj "list" vs.toArray 0) := Heap.get?_push_size _ rfl
  have er' : EachIs (fun v b => ∃ as, Reads (sortingHeap (s1.heap.push (seqObj "list" vs.toArray 0)) s1.heap.objs.size vs) v (enc b) as) vs bs :=
    er.mono fun _ _ ⟨as, r⟩ => ⟨as, PyProof.Rows.Reads.keeps (fun _ _ q => sortingHeap_old (Nat.ne_of_lt (Heap.lt_size q)) (Heap.get?_push_of_some _ q)) r⟩
  have S : SortsAt prog w A.in1.in1 { s1 with heap := sortingHeap (s1.heap.push (seqObj "list" vs.toArray 0)) s1.heap.objs.size vs } (dataKind (sortingHeap (s1.heap.push (seqObj "list" vs.toArray 0)) s1.heap.objs.size vs) (bs.map enc)) vs :=
    SortsAt.data (s := { s1 with heap := sortingHeap (s1.heap.push (seqObj "list" vs.toArray 0)) s1.heap.objs.size vs }) (each_map (R := fun v d => ∃ as, Reads (sortingHeap (s1.heap.push (seqObj "list" vs.toArray 0)) s1.heap.objs.size vs) v d as) enc er') hal hk (bound_map hu)
  exact wpAny_bind (wpAny_holding (wpAny_call_entry slot_list_sort ⟨_, at0, rfl⟩ entry_list_sort (list_sort_vals (s := { s1 with heap := s1.heap.push (seqObj "list" vs.toArray 0) }) at0 S hL' ⟨_, rfl, wpAny_pure ⟨_, rfl, hQ vs s1 _ c (by rw [sortVals_length false rfl]; exact e.length) (sortVals_data false e er' hal)⟩⟩) (args_list_sort _)))
end
end PySem.W
namespace Mo
open PySem PySem.Spec PyProof.Rows L2
section
variable {X : Cx} {pins : List (Addr × Obj)} {σ : L2.St} {H : Hp} {s : Shared} {d : Addr} {o : Obj} {nx : List NX}
theorem nd_frz (I : Inv X pins σ H s) (h : H d = some (.frz o (ndO d nx))) : NdAt d nx s.heap := (I.hok d _ h).2.1
theorem frzN (I : Inv X pins σ H s) (h : H d = some (.frz o (ndO d nx))) :
    (d == sysModules) = false ∧ s.heap.get? d = some o ∧ o.ExactDict ∧ ∃ (es : Array DictEntry) (ep : Nat), o.data = .dict es ep ∧ es.size = nx.length ∧ nx.length ≤ sizeLine ∧
      ∀ (i : Nat) (x : NX), nx[i]? = some x → ∃ en : DictEntry, es[i]? = some en ∧ en.key = .ref x.2.1 := by
  have hd : s.heap.get? d = some o := (I.hok d _ h).1
  obtain ⟨z1, z2, z3, z4, o', es, ep, h1, h2, h3, r⟩ := nd_frz I h
  rw [hd] at h1
  cases h1
  refine ⟨z1, hd, h2, es, ep, h3, ?_, z2, fun i x e => ?_⟩
  · have t1 : nx.length = es.toList.length := Paired.length r
    have t2 : es.toList.length = es.size := Array.length_toList
    omega
  · obtain ⟨b, hb, e1, e2, _⟩ := paired_get r e
    exact ⟨b, by rw [← Array.getElem?_toList]; exact hb, e2⟩
/-- the keys of the locked dict at d -/
def Itkn (d : Addr) (o : Obj) (nx : List NX) : It :=
  ⟨fun i H => H d = some (.frz o (ndO d nx)) ∧ i < nx.length, fun i H v H' => H' = H ∧ ∃ x : NX, nx[i]? = some x ∧ v = .ref x.2.1, fun i H => H d = some (.frz o (ndO d nx)) ∧ nx.length ≤ i⟩
theorem turn_keysN {P : Program} {w : World} {K : PySem.W.Frag} {tg : Expr} {es : Array DictEntry} {ep : Nat} (it : Addr) (hod : o.data = .dict es ep) : Turn P w K tg (Itkn d o nx) [it] it (fun i h => h.IsKeyIter it d i nx.length ep) where
  mem := by simp
  obj := fun i h st b hb => by
    have e : b = it := by simpa using hb
    subst e
    obtain ⟨oi, e, c, dd⟩ := st
    exact ⟨oi, e, fun v z => by rw [dd] at z; cases z⟩
  keep := fun i h h' st k => st.at fun oi e => k it (by simp) oi e
  item := by
    intro X hP hw hK hc i pins s σ H E I hf st hg
    subst hP hw hK
    obtain ⟨hd, hi⟩ := hg
    obtain ⟨f0, f1, f2, f3, f4, f5⟩ := hf it (by simp)
    obtain ⟨hs, hgd, hx, es', ep', hdt, hsz, _, ent⟩ := frzN I hd
    obtain ⟨rfl, rfl⟩ := dict_ep hod hdt
    obtain ⟨x, hkv⟩ : ∃ p, nx[i]? = some p := ⟨nx[i], List.getElem?_eq_getElem hi⟩
    obtain ⟨en, hen, hkey⟩ := ent i x hkv
    refine next_key_item st hgd hdt hsz hen fun h' st' sb => ?_
    have I1 : Inv X pins σ H { s with heap := h' } := I.turned (t' := s.toks) (fun b ob hb e => (sb.2 b hb).trans e) f0 f1 f3 f4 f5
    obtain ⟨oi, e, c, dd⟩ := id st'
    exact ⟨en.key, rfl, go_of (s := { s with heap := h' }) e c dd (by decide) ⟨.ref x.2.1, H, I1, hkey, ⟨rfl, x, hkv, rfl⟩, st', fun b hb => (hf b hb).1⟩⟩
  done := by
    intro X hP hw hK hc i pins s σ H E I hf st hg
    subst hP hw hK
    obtain ⟨hd, hi⟩ := hg
    obtain ⟨f0, f1, f2, f3, f4, f5⟩ := hf it (by simp)
    obtain ⟨hs, hgd, hx, es', ep', hdt, hsz, _, ent⟩ := frzN I hd
    obtain ⟨rfl, rfl⟩ := dict_ep hod hdt
    exact next_key_end (I.ok.hd hc) st hgd hdt hsz hi fun h' eb => ⟨rfl, I.turned (t' := s.toks) (fun b ob hb e => eb b ob hb e) f0 f1 f3 f4 f5⟩
  self := fun A i s Q E st h => wpAny_pyIter_keyiter st h
def iNKeysH (td : TE) : TI := fun σ H R => td σ H fun x H1 => ∃ d o nx, x = .ref d ∧ H1 d = some (.frz o (ndO d nx)) ∧ R (Itkn d o nx) H1
theorem pi_nkeys {tg e : Expr} {td : TE} (he : PE X e td) : PI X tg e (iNKeysH td) := by
  refine ⟨fun pins s σ H R I h => ?_⟩
  refine thn (he.run pins s σ H _ I h) fun u s1 ⟨x, H1, I1, rx, d, o, nx, ex, hd, q⟩ => ?_
  subst ex
  obtain rfl : u = Value.ref d := rx
  obtain ⟨hs, hgd, hx, es, ep, hdt, hsz, _, ent⟩ := frzN I1 hd
  refine iter_keys hs hgd hx hdt (pi_one (tk := s1.toks) I1 _ (turn_keysN _ hdt) ⟨_, Heap.get?_push_size _ rfl, rfl, ?_⟩ q)
  rw [hsz] <;> rfl
end
section
variable {X : Cx} {K : PySem.W.Frag} {g f : List Addr} {H : Hp} {p : Addr} {u : HO}
theorem Nt.ofU (h : H p = some u) (hu : ∀ vs, u ≠ .tup vs) (hf : ∀ o vs, u ≠ .frz o (.tup vs)) : Nt H p := fun vs r => by
  rcases r with r | ⟨o, r⟩ <;> rw [h] at r
  · exact hu vs (Option.some.inj r)
  · exact hf o vs (Option.some.inj r)
theorem nt_nd {nx : List NX} (h : H p = some (ndO p nx)) : Nt H p := Nt.ofU h (fun vs e => nomatch e) fun o vs e => nomatch e
theorem nt_frz {nx : List NX} {o : Obj} (h : H p = some (.frz o (ndO p nx))) : Nt H p := Nt.ofU h (fun vs e => nomatch e) fun o vs e => nomatch e
theorem ExtS.unlockU {g' o o' : List Addr} {H' : Hp} {od : Obj} (nt : Nt H p) (nf : ∀ o' v, H p ≠ some (.frz o' v)) (hH : H p = some u) (hp : p ∈ g) (x : ExtS g o (L2.upd H p (.frz od u)) g' o' H') : ExtS g o H g' o' (L2.upd H' p u) where
  more := by
    obtain ⟨ns, e, h⟩ := x.more
    refine ⟨ns, e, fun b hb => ?_⟩
    have := h b hb
    by_cases z : b = p
    · subst z; rw [upd_same] at this; cases this
    · rwa [upd_ne z] at this
  keep := fun c v e n m => by
    have z : c ≠ p := fun z => n (z ▸ hp)
    rw [upd_ne z]
    exact x.keep c v (by rw [upd_ne z]; exact e) n m
  live := fun c h => by
    by_cases z : c = p
    · subst z; rw [upd_same]; simp
    · rw [upd_ne z]; exact x.live c (by rw [upd_ne z]; exact h)
  tups := fun c vs r => by
    have z : c ≠ p := fun z => by subst z; exact nt vs r
    exact Rd.upd z (x.tups c vs (Rd.upd z r))
  frz := fun c o' v e => by
    have z : c ≠ p := fun z => by subst z; exact nf o' v e
    rw [upd_ne z]
    exact x.frz c o' v (by rw [upd_ne z]; exact e)
  lam := fun c h => by
    rcases x.lam c h with q | q
    · exact .inl q
    · refine .inr ?_
      by_cases z : c = p
      · subst z; rw [upd_same] at q; cases q
      · rwa [upd_ne z] at q
theorem Ext.unlockU {g' : List Addr} {H' : Hp} {od : Obj} (nt : Nt H p) (nf : ∀ o' v, H p ≠ some (.frz o' v)) (hH : H p = some u) (hp : p ∈ g) (x : Ext g (L2.upd H p (.frz od u)) g' H') : Ext g H g' (L2.upd H' p u) :=
  (ExtS.unlockU (o := []) nt nf hH hp x.s).ext
end
section
variable {X : Cx} {e : Expr} {i : Nat} {ml : ML} {me : ME}
def dictVarT (i : Nat) (ρ : MEnv) (S : Store) : Option (Nat × List (NestedKey × D)) := match ρ[i]? with
  | some (some (.val (.loc n))) => match S[n]? with
    | some (.dT l) => some (n, l)
    | _ => none
  | _ => none
theorem dictVarT_of {i : Nat} {ρ : MEnv} {S : Store} {n : Nat} {l : List (NestedKey × D)} (h : dictVarT i ρ S = some (n, l)) : ρ[i]? = some (some (.val (.loc n))) ∧ S[n]? = some (.dT l) := by
  unfold dictVarT at h
  split at h
  · rename_i n' e
    split at h
    · rename_i l' e'
      cases h
      exact ⟨e, e'⟩
    · cases h
  · cases h
/-- the list that an expression makes, while such a dict of a name is walked through -/
def nLockT (i : Nat) (m : ML) : ML := fun ρ S => match dictVarT i ρ S with
  | some (n, l) => (m ρ (S.set n (.dG l))).bind fun ds S2 => .ok ds (S2.set n (.dT l))
  | none => .bad
theorem nm_lockT (h : NM X e ml) : NM X e (nLockT i ml) := PE.of (pe_lock h) fun σ H Q ⟨g, w, o, ρ, S, ds, S', s, hm, q⟩ => by
  unfold nLockT at hm
  split at hm
  · rename_i n l hv
    obtain ⟨e1, e2⟩ := dictVarT_of hv
    obtain ⟨d1, S2, h2, hm⟩ := R.bind_ok hm
    cases hm
    obtain ⟨v, _, a, _, hg⟩ := s.val i _ e1
    obtain ⟨nx, hH, r, r'⟩ := s.sto.cel n _ a e2 hg
    have gD : a ∈ g := List.mem_of_getElem? hg
    have nf : ∀ o' v, H a ≠ some (.frz o' v) := fun o' v e => by rw [hH] at e; cases e
    refine ⟨a, ndO a nx, hH, trivial, fun od => ?_⟩
    have s1 : Sta X.K g w o ρ (S.set n (.dG l)) σ (upd H a (.frz od (ndO a nx))) := s.updGN (nt_nd hH) hg ⟨nx, ⟨od, upd_same⟩, RelKv.updN (nt_nd hH) (.inr gD) _ _ r, RelKv.updN (nt_nd hH) (.inr gD) _ _ r'⟩
    refine ⟨g, w, o, ρ, _, _, S2, s1, h2, fun p vs g' H' x hp hn hl rs rd => ?_⟩
    have hf : H' a = some (.frz od (ndO a nx)) := x.frz a od _ upd_same
    have hg' : g'[n]? = some a := x.get hg
    have gD' : a ∈ g' := List.mem_of_getElem? hg'
    have hpa : p ≠ a := fun z => by subst z; rw [upd_same] at hp; cases hp
    have rl : RelKv X.K g (w ++ o) (upd H a (.frz od (ndO a nx))) (kdl l) (kal nx) := RelKv.updN (nt_nd hH) (.inr gD) _ _ r
    have rl' : RelKv X.K g (w ++ o) (upd H a (.frz od (ndO a nx))) l (kvl nx) := RelKv.updN (nt_nd hH) (.inr gD) _ _ r'
    refine ⟨hf, q p vs g' _ (Ext.unlockU (nt_nd hH) nf hH gD x) (by rwa [upd_ne hpa] at hp) hn (by rw [upd_ne hpa]; exact hl) ?_ (RelDs.updN (nt_frz hf) (.inr gD') _ _ rd)⟩
    refine rs.updGN (nt_frz hf) hg' ⟨nx, upd_same, RelKv.updN (nt_frz hf) (.inr gD') _ _ ?_, RelKv.updN (nt_frz hf) (.inr gD') _ _ ?_⟩
    · exact RelKv.ext x _ _ (RelKv.fresh hp _ _ rl)
    · exact RelKv.ext x _ _ (RelKv.fresh hp _ _ rl')
  · cases hm
/-- the keys of the walked dict -/
def iKeysG (m : ME) : ML := fun ρ S => (m ρ S).bind fun d S1 => match d with
  | .loc n => match S1[n]? with
    | some (.dG l) => .ok (l.map fun kv => dKey kv.1) S1
    | _ => .bad
  | _ => .bad
theorem rel_keys {K : PySem.W.Frag} {g f : List Addr} {H : Hp} : ∀ {l : List (NestedKey × D)} {nx : List NX}, RelKv K g f H (kdl l) (kal nx) → RelDs K g f H (l.map fun kv => dKey kv.1) (nx.map fun x => V.ref x.2.1)
  | [], [], _ => rfl
  | [], y :: ys, h => by cases h
  | p :: l, [], h => by obtain ⟨v, r, e, _⟩ := h; cases e
  | p :: l, y :: ys, h => by
    obtain ⟨v, r, e, q, t⟩ := h
    have e' : (y.1, V.ref y.2.1) :: kal ys = (p.1, v) :: r := e
    injection e' with e1 e2
    injection e1 with e3 e4
    subst e2 e4
    exact ⟨_, _, rfl, q, rel_keys t⟩
theorem rel_key {K : PySem.W.Frag} {g f : List Addr} {H : Hp} {l : List (NestedKey × D)} {nx : List NX} (r : RelKv K g f H (kdl l) (kal nx)) : ∀ {i : Nat} {kd : NestedKey × D}, l[i]? = some kd → ∃ x : NX, nx[i]? = some x ∧ x.1 = kd.1 ∧ RelD K g f H (dKey kd.1) (.ref x.2.1) := by
  intro i kd e
  have e1 : (kdl l)[i]? = some (kd.1, dKey kd.1) := by unfold kdl; rw [List.getElem?_map, e]; rfl
  obtain ⟨v, e2, q⟩ := RelKv.get r e1
  unfold kal at e2
  rw [List.getElem?_map] at e2
  cases ex : nx[i]? with
  | none => rw [ex] at e2; cases e2
  | some x =>
    rw [ex] at e2
    injection e2 with e2
    injection e2 with e3 e4
    exact ⟨x, rfl, e3, by rw [e4]; exact q⟩
theorem im_keysG {tg : Expr} (h : EM X e me) : IM X tg e (iKeysG me) := PI.of (pi_nkeys h) fun σ H Rr ⟨g, w, o, ρ, S, ks, S', s, hm, q⟩ => by
  obtain ⟨d, S1, h1, h2⟩ := R.bind_ok hm
  split at h2
  · rename_i n
    split at h2
    · rename_i l hn
      cases h2
      refine ⟨g, w, o, ρ, S, _, _, s, h1, fun v g1 H1 x1 s1 ⟨a, ev, hg⟩ => ?_⟩
      obtain ⟨nx, ⟨ob, hf⟩, r, r'⟩ := s1.cel n _ a hn hg
      have hlen : l.length = nx.length := by
        have := RelKv.length r
        unfold kdl kal at this
        rwa [List.length_map, List.length_map] at this
      refine ⟨a, ob, nx, ev, hf, q g1 H1 _ x1 s1 ⟨fun i d g2 o2 H2 hi x2 => ?_, fun i g2 o2 H2 hi x2 => ?_⟩⟩
      · rw [List.getElem?_map] at hi
        cases ei : l[i]? with
        | none => rw [ei] at hi; cases hi
        | some kd =>
          rw [ei] at hi
          cases hi
          obtain ⟨x, e1, e2, rk⟩ := rel_key r ei
          refine ⟨⟨x2.frz _ _ _ hf, lt_of_get e1⟩, fun y H3 ⟨e3, x', e4, e5⟩ => ?_⟩
          subst e3
          rw [e1] at e4
          cases e4
          subst e5
          exact ⟨.refl, RelD.extS x2 _ _ rk⟩
      · rw [List.length_map] at hi
        exact ⟨x2.frz _ _ _ hf, by rw [← hlen]; exact hi⟩
    · cases h2
  · cases h2
end
section
variable {X : Cx} {e o i : Expr} {me mo mi : ME} {pos p : Pos}
def tNGetG (X : Cx) (td ty : TE) : TE := fun σ H Q => td σ H fun x H1 => ty σ H1 fun y H2 => ∃ a b o xs k v, x = .ref a ∧ y = .ref b ∧ H2 a = some (.frz o (ndO a xs)) ∧ KAll X H2 xs k b ∧ k.depth ≤ 8 ∧ valV (kvl xs) k = some v ∧ Q v H2
theorem pe_ngetG {td ty : TE} (hu : X.A.units + 64 < cLine) (ho : PE X o td) (hi : PE X i ty) (hs : NoSl i) : PE X (.Subscript o i pos) (tNGetG X td ty) := by
  refine ⟨fun pins s σ H Q I h => ?_⟩
  refine subD_of PySem.F.slot_dict_getitem.lookup hs (thn (ho.run pins s σ H _ I h) fun u s1 ⟨x, H1, I1, rx, q1⟩ => thn (hi.run pins s1 σ H1 _ I1 q1) fun iv s2 ⟨y, H2, I2, ry, a, b, ob, xs, k, v, ex, ey, hH, hk, kd, l, q2⟩ => ?_)
  subst ex ey
  obtain rfl : u = Value.ref a := rx
  obtain rfl : iv = Value.ref b := ry
  obtain ⟨k1, k2⟩ := hk _ _ _ I2
  have n := nd_frz I2 hH
  refine ⟨nd_typeIs n, ?_⟩
  obtain ⟨ys, rel, dd⟩ := nd_dict (P := X.prog) (w := X.w) n k1
  obtain ⟨w', hw, rw'⟩ := RelO.some_of (v := v) (o := (atKey ys k).map (·.2)) (by rw [← l]; exact rel.at k)
  obtain ⟨p, hp, hp2⟩ := Option.map_eq_some_iff.mp hw
  refine wpAny_getItem_heap (nroom (X := X) hu) ⟨k2, kd⟩ dd hp ?_
  rw [hp2]
  exact ⟨v, H2, I2.tok _, rw', q2⟩
def dictW (S : Store) : D → Option (List (NestedKey × D))
  | .loc n => match S[n]? with
    | some (.dG l) => some l
    | _ => none
  | _ => none
theorem dictW_of {S : Store} {d : D} {l : List (NestedKey × D)} (h : dictW S d = some l) : ∃ n, d = .loc n ∧ S[n]? = some (.dG l) := by
  cases d with
  | loc n =>
    dsimp only [dictW] at h
    cases e : S[n]? with
    | none => rw [e] at h; cases h
    | some c =>
      rw [e] at h
      cases c with
      | dG l' => cases h; exact ⟨n, rfl, e⟩
      | lst _ => cases h
      | dK _ => cases h
      | dF _ => cases h
      | dT _ => cases h
  | _ => cases h
/-- d[k] of a dict that is walked through -/
def gNGetG : G2 := fun x y S => match dictW S x, keyT y with
  | some l, some k => match valA l k with
    | some d => .ok d S
    | none => .bad
  | _, _ => .bad
theorem em_ngetG (hu : X.A.units + 64 < cLine) (ho : EM X o mo) (hi : EM X i mi) (hs : NoSl i) : EM X (.Subscript o i pos) (m2 gNGetG mo mi) :=
  PE.of (pe_ngetG hu ho hi hs) fun σ H Q q => op_of (r := fun x y H Q => ∃ a b o xs k v, x = .ref a ∧ y = .ref b ∧ H a = some (.frz o (ndO a xs)) ∧ KAll X H xs k b ∧ k.depth ≤ 8 ∧ valV (kvl xs) k = some v ∧ Q v H) (fun g f H S dx dy d S' x y Q s rx ry hm q => by
    unfold gNGetG at hm
    split at hm
    · rename_i l k hl hk
      split at hm
      · rename_i d' hd
        cases hm
        obtain ⟨n, rfl, hn⟩ := dictW_of hl
        obtain ⟨a, ev, hg⟩ := rx
        obtain ⟨xs, ⟨ob, hH⟩, r1, r2⟩ := s.cel n _ a hn hg
        obtain ⟨v, hv, rv⟩ := (r2.val (k := k)).1 _ hd
        obtain ⟨b, eb, rk⟩ := keyT_ref ry hk
        exact ⟨a, b, ob, xs, k, v, ev, eb, hH, kAll_of r1 rk, (keyT_of hk).2.2.1, hv, q.same s rv⟩
      · cases hm
    · cases hm) q

/-! ### sorted(d) -/
def rSortN (X : Cx) : List V → Hp → VK → Prop := fun xs H Q => ∃ a nx l ps g f, xs = [.ref a] ∧ H a = some (ndO a nx) ∧ RelDs X.K g f H l (nx.map fun x => V.ref x.2.1) ∧ toPs l = some ps ∧ PySem.W.AllAlike ps ∧ PySem.W.Sortable ps ∧ PyData.depthAll ps ≤ 60 ∧
    ∀ p us, H p = none → RelDs X.K g f H (sortDR false l) us → Q (.ref p) (upd H p (.lst us))
theorem nd_vals_refs {nx : List NX} : ∀ {l : List Value}, l.length = nx.length → (∀ (j : Nat) (v : Value), l[j]? = some v → ∃ x : NX, nx[j]? = some x ∧ v = Value.ref x.2.1) → Vals (nx.map fun x => V.ref x.2.1) l := by
  induction nx with
  | nil => intro l h _; cases l with | nil => exact .nil | cons _ _ => simp at h
  | cons x nx ih =>
    intro l h q
    cases l with
    | nil => simp at h
    | cons v l =>
      obtain ⟨y, e1, e2⟩ := q 0 v rfl
      cases e1
      exact .cons e2 (ih (by simpa using h) fun j u e => by simpa using q (j + 1) u (by simpa using e))
theorem call_sortedN (hc : X.calm = true) (hu : X.A.units + 64 < cLine) : CallR X (.builtin "sorted") (rSortN X) := by
  intro pins s σ H xs us Q I r q
  obtain ⟨a, nx, l, ps, g, f, rfl, hd, rl, hp, hal, hso, hdp, q⟩ := q
  rw [Vals.ref1 r]
  have n := nd_at I hd
  obtain ⟨z1, z2, z3, z4, ob, es, ep, h1, h2, h3, pr⟩ := id n
  have hsz : es.size = nx.length := by
    have t1 : nx.length = es.toList.length := Paired.length pr
    have t2 : es.toList.length = es.size := Array.length_toList
    omega
  have eenc : ∀ {l : List D} {ps : List PyData}, toPs l = some ps → l.map encD = ps := by
    intro l
    induction l with
    | nil => intro ps h; unfold toPs at h; cases h; rfl
    | cons d l ih =>
      intro ps h
      unfold toPs at h
      split at h
      · rename_i p ps' h1 h2
        cases h
        rw [List.map_cons, ih h2]
        unfold encD
        rw [h1]; rfl
      · cases h
  have e1 := eenc hp
  have hlv : l.length = (nx.map fun x => V.ref x.2.1).length := rl.length
  generalize hvs : (nx.map fun x => V.ref x.2.1) = vs at rl hlv
  have hz1 : (l.zip vs).map (·.1) = l := List.map_fst_zip (by rw [hlv]; exact Nat.le_refl _)
  have hz2 : (l.zip vs).map (·.2) = vs := List.map_snd_zip (by rw [hlv]; exact Nat.le_refl _)
  have hze : (l.zip vs).map (fun b => encD b.1) = ps := by rw [← e1, ← hz1, List.map_map]; rw [hz1]; rfl
  have hlen : (l.zip vs).length = vs.length := by rw [← hz2, List.length_map, hz2]
  have hvl : vs.length = nx.length := by rw [← hvs, List.length_map]
  have E1 : ∀ {zs : List (D × V)} {its : List Value}, Vals (zs.map (·.2)) its → PySem.W.EachIs (fun v (b : D × V) => RelV b.2 v) its zs := by
    intro zs
    induction zs with
    | nil => intro its h; cases h; exact .nil
    | cons z zs ih => intro its h; cases h with | cons r t => exact .cons r (ih t)
  refine PySem.W.mo_sorted_datas (R := fun v (b : D × V) => RelV b.2 v) (enc := fun b : D × V => encD b.1) (bs := l.zip vs) (l := .ref a)
    (fun its s1 => Inv X pins σ H s1 ∧ Vals vs its ∧ s1.os = s.os ∧ s1.gens = s.gens ∧ s1.drawn = s.drawn ∧ (∀ b o, s.heap.get? b = some o → s1.heap.get? b = some o) ∧ s1 = { s with heap := s1.heap, toks := s1.toks }) (fun E' Q' f => ?_) (fun its s1 c => ?_) (by rw [hze]; exact hal) (by rw [hze]; exact hso) (by rw [hlen, hvl]; exact z2) (fun z hz => ?_) fun its s1 out c hl2 ho => ?_
  · refine PySem.W.kdu_collect (A := X.A.in1) (kdl_raw z1 h2 h3) (I.ok.hd hc) h1 (by rw [hsz]; exact z2) fun h' tk acc hk hacc => ?_
    refine f _ _ ⟨I.kept (t' := tk) hk, ?_, rfl, rfl, rfl, hk, rfl⟩
    rw [← hvs]
    refine nd_vals_refs (by rw [Array.length_toList, hacc.1, hsz]) fun j v e => ?_
    obtain ⟨en, e2, e3⟩ := hacc.2 j v (by rw [← Array.getElem?_toList]; exact e)
    have hj : j < nx.length := by rw [← hsz]; exact (Array.getElem?_eq_some_iff.mp e2).1
    obtain ⟨b, hb, _, e5, _⟩ := paired_get pr (List.getElem?_eq_getElem hj)
    rw [Array.getElem?_toList, e2] at hb
    cases hb
    exact ⟨_, List.getElem?_eq_getElem hj, by rw [e3, e5]⟩
  · obtain ⟨I1, rv, _⟩ := c
    obtain ⟨as, hr⟩ := Dp.readsAll I1 _ _ its (RelDs.dp _ _ _ rl hp) rv
    exact ⟨E1 (by rw [hz2]; exact rv), PySem.W.readsAll_each (fun b : D × V => encD b.1) (by rw [hze]; exact hr)⟩
  · have : encD z.1 ∈ ps := by rw [← hze]; exact List.mem_map.mpr ⟨z, hz, rfl⟩
    have := depth_le_all this
    omega
  · obtain ⟨I1, rv, _⟩ := c
    have hoL : (s1.heap.push (seqObj "list" its.toArray 0)).get? s1.heap.objs.size = some (seqObj "list" its.toArray 0) := Heap.get?_push_size _ rfl
    obtain ⟨c, hc⟩ := sortedHeap_at (vs := its) (out := List.toArray out) hoL
    have hs2 : ((l.zip vs).mergeSort (PySem.W.dataLe false fun b : D × V => encD b.1)).map (·.1) = sortDR false l := by
      unfold sortDR
      rw [List.map_mergeSort (r := PySem.W.dataLe false fun b : D × V => encD b.1) (s := PySem.W.dataLe false encD) (f := (·.1)) (fun _ _ _ _ => rfl), hz1]
    have rel : ∀ {zs : List (D × V)}, (∀ z ∈ zs, RelD X.K g f H z.1 z.2) → RelDs X.K g f H (zs.map (·.1)) (zs.map (·.2)) := by
      intro zs
      induction zs with
      | nil => intro _; rfl
      | cons z zs ih => intro hz; exact ⟨z.2, _, rfl, hz z List.mem_cons_self, ih fun y hy => hz y (List.mem_cons_of_mem _ hy)⟩
    have relz : ∀ {l : List D} {vs : List V}, RelDs X.K g f H l vs → ∀ z ∈ l.zip vs, RelD X.K g f H z.1 z.2 := by
      intro l
      induction l with
      | nil => intro vs h z hz; simp at hz
      | cons d l ih =>
        intro vs h z hz
        obtain ⟨v, r, e, q, t⟩ := h
        subst e
        rcases List.mem_cons.mp hz with e | hz
        · rw [e]; exact q
        · exact ih t z hz
    have rr : RelDs X.K g f H (sortDR false l) (((l.zip vs).mergeSort (PySem.W.dataLe false fun b : D × V => encD b.1)).map (·.2)) := by
      rw [← hs2]
      exact rel fun z hz => relz rl z ((List.mergeSort_perm _ _).mem_iff.mp hz)
    have hlo : (((l.zip vs).mergeSort (PySem.W.dataLe false fun b : D × V => encD b.1)).map (·.2)).length ≤ sizeLine := by
      rw [List.length_map, (List.mergeSort_perm _ _).length_eq, hlen, hvl]
      exact z2
    have keep : ∀ b u, s1.heap.get? b = some u → (sortedHeap (s1.heap.push (seqObj "list" its.toArray 0)) s1.heap.objs.size its (List.toArray out)).get? b = some u := fun b u e => by
      have hlt := Heap.lt_size e
      rw [sortedHeap_old (Nat.ne_of_lt hlt) (by rw [size_push']; exact Nat.lt_succ_of_lt hlt)]
      exact Heap.get?_push_of_some _ e
    have hn : H s1.heap.objs.size = none := I1.hok.fresh (Nat.le_refl _)
    exact ⟨.ref _, _, I1.laid (o := HO.lst (((l.zip vs).mergeSort (PySem.W.dataLe false fun b : D × V => encD b.1)).map (·.2))) (t' := s1.toks) keep (Nat.le_refl _) ⟨hlo, out, c, each_vals ho, hc⟩, rfl, q _ _ hn rr⟩
/-- sorted(d), the keys tuples -/
def hSortedN (d : D) (S : Store) : R (List D) := match dictT S d with
  | some l => match toPs (l.map fun kv => dKey kv.1) with
    | some ps => if ps.all (fun x => ps.all (PySem.W.alike x)) = true ∧ sortableB ps = true ∧ PyData.depthAll ps ≤ 60 then .ok (sortDR false (l.map fun kv => dKey kv.1)) S else .bad
    | none => .bad
  | none => .bad
theorem nm_sortedN (hc : X.calm = true) (hu : X.A.units + 64 < cLine) (h : EM X e me) (hg : Gl X "sorted") (hm : X.mg "sorted" = none) (hb : bootBuiltins "sorted" = some (.builtin "sorted") := by decide +kernel) (hs : starEach [e] X.env = (false, eval e X.env) :: starEach [] X.env := by rfl) (hpl : (backTo pos (starEach [] X.env)).any (·.1) = false := by rfl) :
    NM X (.Call (.Name "sorted" p) [e] [] pos) (fun ρ S => (me ρ S).bind hSortedN) :=
  PE.of (pe_callB (call_sortedN hc hu) hg hm hb (b1 h hs) (by decide) (by decide) hs hpl) fun σ H Q ⟨g, w, o, ρ, S, d, S', s, hm, q⟩ => by
    obtain ⟨c, S1, h1, h2⟩ := R.bind_ok hm
    refine ⟨g, w, o, ρ, S, c, S1, s, h1, fun v g1 H1 x1 s1 r1 => ?_⟩
    unfold hSortedN at h2
    split at h2
    · rename_i l hl
      split at h2
      · rename_i ps hk
        split at h2
        · rename_i hz
          cases h2
          obtain ⟨n, rfl, hn⟩ := dictT_of hl
          obtain ⟨a, ev, hgn⟩ := r1
          obtain ⟨nx, hH, r, r'⟩ := s1.cel n _ a hn hgn
          subst ev
          have q' : FinN X.K g1 (w ++ o) H1 _ _ Q := fun p vs g2 H2 x2 hp n2 e2 s2 r2 => q p vs g2 H2 (x1.trans x2) (back_none x1 hp) n2 e2 s2 r2
          exact ⟨a, nx, _, ps, g1, w ++ o, rfl, hH, rel_keys r, hk, fun x hx y hy => List.all_eq_true.mp (List.all_eq_true.mp hz.1 x hx) y hy, sortableB_of hz.2.1, hz.2.2, fun t us ht rs => q'.put s1 rs t ht⟩
        · cases h2
      · cases h2
    · cases h2
@[simp] theorem hSortedN_eq (d : D) (S : Store) : hSortedN d S = (match dictT S d with
  | some l => match toPs (l.map fun kv => dKey kv.1) with
    | some ps => if ps.all (fun x => ps.all (PySem.W.alike x)) = true ∧ sortableB ps = true ∧ PyData.depthAll ps ≤ 60 then .ok (sortDR false (l.map fun kv => dKey kv.1)) S else .bad
    | none => .bad
  | none => .bad) := rfl
@[simp] theorem nLockT_eq (i : Nat) (m : ML) (ρ : MEnv) (S : Store) : nLockT i m ρ S = (match dictVarT i ρ S with
  | some (n, l) => (m ρ (S.set n (.dG l))).bind fun ds S2 => .ok ds (S2.set n (.dT l))
  | none => .bad) := rfl
@[simp] theorem dictVarT_eq (i : Nat) (ρ : MEnv) (S : Store) : dictVarT i ρ S = (match ρ[i]? with
  | some (some (.val (.loc n))) => match S[n]? with
    | some (.dT l) => some (n, l)
    | _ => none
  | _ => none) := rfl
@[simp] theorem iKeysG_eq (m : ME) (ρ : MEnv) (S : Store) : iKeysG m ρ S = (m ρ S).bind fun d S1 => (match d with
  | .loc n => match S1[n]? with
    | some (.dG l) => .ok (l.map fun kv => dKey kv.1) S1
    | _ => .bad
  | _ => .bad) := rfl
@[simp] theorem gNGetG_eq (x y : D) (S : Store) : gNGetG x y S = (match dictW S x, keyT y with
  | some l, some k => match valA l k with
    | some d => .ok d S
    | none => .bad
  | _, _ => .bad) := rfl
@[simp] theorem dictW_eq (S : Store) (n : Nat) : dictW S (.loc n) = (match S[n]? with | some (.dG l) => some l | _ => none) := rfl
end
end Mo
set_option maxRecDepth 100000
set_option maxHeartbeats 1000000
/-! Mo: sorted(x), x a dict of numbers or a list or tuple of data. -/
namespace Mo
open PySem PySem.Spec PyProof.Rows L2
section
variable {X : Cx} {e : Expr} {me : ME} {pos p : Pos}
def hSortedDL (d : D) (S : Store) : R (List D) := match dictR S d with
  | some l => match intKeys l with
    | some ks => if ks.length ≤ 100000 then .ok ((sortI ks).map .int) S else .bad
    | none => .bad
  | none => (anyD d S).bind (hSortedB false)
theorem call_sortedDL (hc : X.calm = true) (hu : X.A.units + 64 < cLine) : CallR X (.builtin "sorted") (fun xs H Q => (∃ (a : Addr) (kvs : List (Key × V)) (ks : List Int), xs = [.ref a] ∧ Rd H a (.dK kvs) ∧ kvs.map (·.1) = ks.map Sum.inl ∧ ks.length ≤ 100000 ∧
    ∀ p : Addr, H p = none → Q (.ref p) (upd H p (.lst ((sortI ks).map V.int)))) ∨ rSortA X false xs H Q) := fun pins s σ H xs us Q I r q => by
  rcases q with q | q
  · exact call_sortedDB hc hu pins s σ H xs us Q I r q
  · exact cr_sortA hu pins s σ H xs us Q I r q
theorem nm_sortedDL (hc : X.calm = true) (hu : X.A.units + 64 < cLine) (h : EM X e me) (hg : Gl X "sorted") (hm : X.mg "sorted" = none) (hb : bootBuiltins "sorted" = some (.builtin "sorted") := by decide +kernel) (hs : starEach [e] X.env = (false, eval e X.env) :: starEach [] X.env := by rfl) (hpl : (backTo pos (starEach [] X.env)).any (·.1) = false := by rfl) :
    NM X (.Call (.Name "sorted" p) [e] [] pos) (fun ρ S => (me ρ S).bind hSortedDL) :=
  PE.of (pe_callB (call_sortedDL hc hu) hg hm hb (b1 h hs) (by decide) (by decide) hs hpl) fun σ H Q ⟨g, w, o, ρ, S, d, S', s, hm, q⟩ => by
    obtain ⟨c, S1, h1, h2⟩ := R.bind_ok hm
    refine ⟨g, w, o, ρ, S, c, S1, s, h1, fun v g1 H1 x1 s1 r1 => ?_⟩
    unfold hSortedDL at h2
    have q' : FinN X.K g1 (w ++ o) H1 d S' Q := fun p vs g2 H2 x2 hp n2 e2 s2 r2 => q p vs g2 H2 (x1.trans x2) (back_none x1 hp) n2 e2 s2 r2
    split at h2
    · rename_i l hl
      split at h2
      · rename_i ks hk
        split at h2
        · rename_i hz
          cases h2
          obtain ⟨n, rfl, hn⟩ := dictR_of hl
          obtain ⟨a, ev, hgn⟩ := r1
          obtain ⟨kvs, hH, r⟩ := s1.rd hn hgn
          subst ev
          exact .inl ⟨a, kvs, ks, rfl, hH, by rw [r.keys, intKeys_of hk], hz, fun t ht => q'.put s1 (rel_ints _) t ht⟩
        · cases h2
      · cases h2
    · obtain ⟨l, S2, e1, e2⟩ := R.bind_ok h2
      obtain ⟨rfl, a, vs, rfl, hq, rr⟩ := anyD_rel s1 r1 e1
      exact .inr (hSortedB_run s1 hq rr e2 q')
@[simp] theorem hSortedDL_eq (d : D) (S : Store) : hSortedDL d S = (match dictR S d with
  | some l => match intKeys l with
    | some ks => if ks.length ≤ 100000 then .ok ((sortI ks).map .int) S else .bad
    | none => .bad
  | none => (anyD d S).bind (hSortedB false)) := rfl
end
end Mo
set_option maxRecDepth 100000
set_option maxHeartbeats 1000000
/-! Mo: repr of data with dicts and cells among it. -/
namespace Mo
open PySem PySem.Spec PyProof.Rows L2
def keyP : Key → PyData
  | .inl i => .int i
  | .inr x => .str x
mutual
inductive Dq (K : PySem.W.Frag) (H : Hp) : V → PyData → Prop
  | non : Dq K H .non .none
  | bl (b : Bool) : Dq K H (.bl b) (.bool b)
  | int (i : Int) : Dq K H (.int i) (.int i)
  | str (x : Str) : Dq K H (.str x) (.str x)
  | lst {a : Addr} {xs : List V} {ds : List PyData} : SqL K H a xs → H a ≠ none → DqAll K H xs ds → Dq K H (.ref a) (.list ds)
  | tup {a : Addr} {xs : List V} {ds : List PyData} : SqT K H a xs → DqAll K H xs ds → Dq K H (.ref a) (.tuple ds)
  | dct {a : Addr} {kvs : List (Key × V)} {ps : List (PyData × PyData)} : Rd H a (.dK kvs) → ps.map (·.1) = kvs.map (fun kv => keyP kv.1) → DqAll K H (kvs.map (·.2)) (ps.map (·.2)) → Dq K H (.ref a) (.dict ps)
inductive DqAll (K : PySem.W.Frag) (H : Hp) : List V → List PyData → Prop
  | nil : DqAll K H [] []
  | cons {v : V} {vs : List V} {d : PyData} {ds : List PyData} : Dq K H v d → DqAll K H vs ds → DqAll K H (v :: vs) (d :: ds)
end
section
variable {X : Cx} {pins : List (Addr × Obj)} {σ : L2.St} {H : Hp} {s : Shared}
/-- sys.modules stands in the base -/
def HasMod (X : Cx) : Prop := ∃ o, X.base.get? sysModules = some o
theorem not_mod (hm : HasMod X) (I : Inv X pins σ H s) {a : Addr} (h : H a ≠ none) : a ≠ sysModules := fun e => by
  subst e
  obtain ⟨o, ho⟩ := hm
  obtain ⟨h1, h2⟩ := I.ok.bs _ _ ho
  exact h (I.base.free _ _ h1 h2 (I.ok.noex _ _ ho))
theorem rd_live {a : Addr} {u : HO} (h : Rd H a u) : H a ≠ none := by
  rcases h with h | ⟨o, h⟩ <;> rw [h] <;> simp
theorem reads_keys {P : Program} {w : World} {h : Heap} {es : List DictEntry} {vs : List (Key × Value)} (r : Pairs (mixKind P w) es vs) : ReadsAll h (es.map (·.key)) (vs.map fun kv => keyP kv.1) [] := by
  induction r with
  | nil => exact .nil
  | @cons e kv es vs q1 q2 t ih =>
    have : Reads h e.key (keyP kv.1) [] := by
      rcases keyIs_shape (show keyIs kv.1 e.key = true from q1) with ⟨i, t, ek, ev⟩ | ⟨z, t, ek, ev⟩
      · rw [ek, ev]; exact .int i t
      · rw [ek, ev]; exact .str z t
    exact .cons this ih
theorem pairs_vals {P : Program} {w : World} {es : List DictEntry} {vs : List (Key × Value)} (r : Pairs (mixKind P w) es vs) : es.map (·.val) = vs.map (·.2) := by
  induction r with
  | nil => rfl
  | @cons e kv es vs q1 q2 t ih => rw [List.map_cons, List.map_cons, ih, q2]
theorem kv_vals {kvs : List (Key × V)} {vs : List (Key × Value)} (r : KV kvs vs) : Vals (kvs.map (·.2)) (vs.map (·.2)) := by
  induction r with
  | nil => exact .nil
  | cons q _ ih => exact .cons q.2 ih
theorem kv_keysP {kvs : List (Key × V)} {vs : List (Key × Value)} (r : KV kvs vs) : (vs.map fun kv => keyP kv.1) = kvs.map fun kv => keyP kv.1 := by
  induction r with
  | nil => rfl
  | cons q _ ih => rw [List.map_cons, List.map_cons, ih, q.1]
mutual
theorem Dq.reads (hm : HasMod X) (I : Inv X pins σ H s) : ∀ (d : PyData) (v : V) (u : Value), Dq X.K H v d → RelV v u → ∃ as, Reads s.heap u d as ∧ sysModules ∉ as
  | .none, _, _, h, r => by
    cases h
    cases r
    exact ⟨_, Reads.none, by simp⟩
  | .bool b, _, _, h, r => by
    cases h
    cases r
    exact ⟨_, Reads.bool b, by simp⟩
  | .int i, _, _, h, r => by
    cases h
    obtain ⟨t, rfl⟩ := r
    exact ⟨_, Reads.int i t, by simp⟩
  | .str x, _, _, h, r => by
    cases h
    obtain ⟨t, rfl⟩ := r
    exact ⟨_, Reads.str x t, by simp⟩
  | .list ds, _, _, h, r => by
    cases h with
    | lst hs hn ha =>
      cases r
      obtain ⟨its, rv, ⟨o, n, ho, hc, _, hd⟩, _⟩ := I.list hs
      obtain ⟨as, hr, ns⟩ := Dq.readsAll hm I ds _ its ha rv
      refine ⟨_, Reads.list ho hc hd hr, fun z => ?_⟩
      rcases List.mem_cons.mp z with z | z
      · exact not_mod hm I hn z.symm
      · exact ns z
  | .tuple ds, _, _, h, r => by
    cases h with
    | tup hs ha =>
      cases r
      obtain ⟨its, rv, ⟨o, ho, hc, n, hd⟩, _⟩ := I.tuple hs
      obtain ⟨as, hr, ns⟩ := Dq.readsAll hm I ds _ its ha rv
      exact ⟨_, Reads.tuple ho hc hd hr, ns⟩
  | .dict ps, _, _, h, r => by
    cases h with
    | @dct a kvs ps hs hk ha =>
      cases r
      obtain ⟨_, lo, vs, kv, o, es, ep, h1, h2, h3, h4, h5, h6⟩ := dk_rd I.hok hs
      have k1 := reads_keys (h := s.heap) h5
      have ek : (vs.map fun kv => keyP kv.1) = ps.map (·.1) := by
        rw [hk, kv_keysP kv]
      rw [ek] at k1
      obtain ⟨bs, hr, ns⟩ := Dq.readsVals hm I ps _ (vs.map (·.2)) ha (kv_vals kv)
      rw [← pairs_vals h5] at hr
      refine ⟨_, Reads.dict h1 h2.1 h3 k1 hr, fun z => ?_⟩
      rw [beq_eq_false_iff_ne] at lo
      rcases List.mem_append.mp z with z | z
      · rcases List.mem_cons.mp z with z | z
        · exact lo z.symm
        · cases z
      · exact ns z
theorem Dq.readsAll (hm : HasMod X) (I : Inv X pins σ H s) : ∀ (ds : List PyData) (vs : List V) (us : List Value), DqAll X.K H vs ds → Vals vs us → ∃ as, ReadsAll s.heap us ds as ∧ sysModules ∉ as
  | [], _, _, h, r => by
    cases h
    cases r
    exact ⟨_, ReadsAll.nil, by simp⟩
  | d :: ds, _, _, h, r => by
    cases h with
    | cons h1 h2 =>
      cases r with
      | cons r1 r2 =>
        obtain ⟨as, q1, n1⟩ := Dq.reads hm I d _ _ h1 r1
        obtain ⟨bs, q2, n2⟩ := Dq.readsAll hm I ds _ _ h2 r2
        exact ⟨_, ReadsAll.cons q1 q2, fun z => (List.mem_append.mp z).elim n1 n2⟩
theorem Dq.readsVals (hm : HasMod X) (I : Inv X pins σ H s) : ∀ (ps : List (PyData × PyData)) (vs : List V) (us : List Value), DqAll X.K H vs (ps.map (·.2)) → Vals vs us → ∃ as, ReadsAll s.heap us (ps.map (·.2)) as ∧ sysModules ∉ as
  | [], _, _, h, r => by
    cases h
    cases r
    exact ⟨_, ReadsAll.nil, by simp⟩
  | (k, d) :: ps, _, _, h, r => by
    rw [List.map_cons] at h
    cases h with
    | cons h1 h2 =>
      cases r with
      | cons r1 r2 =>
        obtain ⟨as, q1, n1⟩ := Dq.reads hm I d _ _ h1 r1
        obtain ⟨bs, q2, n2⟩ := Dq.readsVals hm I ps _ _ h2 r2
        exact ⟨_, ReadsAll.cons q1 q2, fun z => (List.mem_append.mp z).elim n1 n2⟩
end
/-- repr(x), x data with lists, tuples and dicts in it -/
theorem cr_reprQ (hm : HasMod X) (hg : X.A.guards = some []) (hu : X.A.units + 64 < cLine) : CallR X (.builtin "repr") (fun xs H Q => ∃ x p, xs = [x] ∧ Dq X.K H x p ∧ shownOk p ∧ Q (.str p.shown) H) := by
  intro pins s σ H xs us Q I r h
  obtain ⟨x, p, rfl, hd, ⟨h1, h2, h3⟩, q⟩ := h
  obtain ⟨u, rfl, ru⟩ := vals1 r
  obtain ⟨as, rd, ns⟩ := Dq.reads hm I p x u hd ru
  have fin : ∀ a, u = .ref a → wpAny (model X.prog X.w) X.A (call (.builtin "repr") [u]) (EP X pins σ Q) X.xe s := fun a e => by
    subst e
    exact repr_of_reads' rd h1 (fun _ => ns) hg (by omega) (fun _ _ e => e) (fun h' u tk hk => ⟨.str _, H, I.kept (t' := tk) hk, ⟨u, rfl⟩, q⟩) h3
  cases hd with
  | non =>
    cases (show u = Value.none from ru)
    exact PySem.P.repr_of_none ⟨.str _, H, I.tok _, ⟨_, rfl⟩, by simpa only [PyData.shown] using q⟩
  | bl b =>
    cases (show u = Value.bool b from ru)
    exact PySem.P.repr_of_bool ⟨.str _, H, I.tok _, ⟨_, rfl⟩, by simpa only [PyData.shown] using q⟩
  | int i =>
    obtain ⟨t, rfl⟩ := ru
    exact PySem.P.repr_of_int (by simpa [PyData.showable] using h1) ⟨.str _, H, I.tok _, ⟨_, rfl⟩, by simpa only [PyData.shown] using q⟩
  | str x =>
    obtain ⟨t, rfl⟩ := ru
    exact PySem.P.repr_of_str ⟨.str _, H, I.tok _, ⟨_, rfl⟩, by simpa only [PyData.shown] using q⟩ (by simpa only [PyData.shown] using h3)
  | lst a b => exact fin _ ru
  | tup a b => exact fin _ ru
  | dct a b c => exact fin _ ru
end
/-! ### data whose parts may lie in cells -/
def allO {α β : Type} (f : α → Option β) : List α → Option (List β)
  | [] => some []
  | x :: xs => match f x, allO f xs with
    | some y, some ys => some (y :: ys)
    | _, _ => none
/-- the data that a value is, as deep as k -/
def toPF (S : Store) : Nat → D → Option PyData
  | 0, _ => none
  | k + 1, d => match d with
    | .non => some .none
    | .bl b => some (.bool b)
    | .int i => some (.int i)
    | .str x => some (.str x)
    | .tup l => (allO (toPF S k) l).map .tuple
    | .lst l => (allO (toPF S k) l).map .list
    | .loc n => match S[n]? with
      | some (.lst l) => (allO (toPF S k) l).map .list
      | some (.dK l) => (allO (fun kv : Key × D => (toPF S k kv.2).map fun p => (keyP kv.1, p)) l).map .dict
      | _ => none
    | _ => none
section
variable {K : PySem.W.Frag} {g f : List Addr} {H : Hp} {S : Store}
theorem allO_rel {k : Nat} (ih : ∀ d v p, toPF S k d = some p → RelD K g f H d v → Dq K H v p) : ∀ (l : List D) (vs : List V) (ps : List PyData), allO (toPF S k) l = some ps → RelDs K g f H l vs → DqAll K H vs ps
  | [], vs, ps, h, r => by
    obtain rfl : vs = [] := r
    cases h
    exact .nil
  | d :: l, vs, ps, h, ⟨v, vs', e, q, t⟩ => by
    subst e
    rw [allO] at h
    cases e1 : toPF S k d with
    | none => simp only [e1] at h; cases h
    | some p =>
      cases e2 : allO (toPF S k) l with
      | none => simp only [e1, e2] at h; cases h
      | some ps' =>
        simp only [e1, e2] at h
        cases h
        exact .cons (ih d v p e1 q) (allO_rel ih l vs' ps' e2 t)
theorem allO_kv {k : Nat} (ih : ∀ d v p, toPF S k d = some p → RelD K g f H d v → Dq K H v p) : ∀ (l : List (Key × D)) (kvs : List (Key × V)) (ps : List (PyData × PyData)), allO (fun kv : Key × D => (toPF S k kv.2).map fun p => (keyP kv.1, p)) l = some ps → RelKv K g f H l kvs →
      ps.map (·.1) = kvs.map (fun kv => keyP kv.1) ∧ DqAll K H (kvs.map (·.2)) (ps.map (·.2))
  | [], kvs, ps, h, r => by
    obtain rfl : kvs = [] := r
    cases h
    exact ⟨rfl, .nil⟩
  | d :: l, kvs, ps, h, ⟨v, vs', e, q, t⟩ => by
    subst e
    rw [allO] at h
    cases e1 : toPF S k d.2 with
    | none => simp only [e1, Option.map_none] at h; cases h
    | some p =>
      cases e2 : allO (fun kv : Key × D => (toPF S k kv.2).map fun p => (keyP kv.1, p)) l with
      | none => simp only [e1, e2, Option.map_some] at h; cases h
      | some ps' =>
        simp only [e1, e2, Option.map_some] at h
        cases h
        obtain ⟨i1, i2⟩ := allO_kv ih l vs' ps' e2 t
        exact ⟨by rw [List.map_cons, List.map_cons, i1], .cons (ih d.2 v p e1 q) i2⟩
theorem toPF_rel (s : RelS K g f H S) : ∀ (k : Nat) (d : D) (v : V) (p : PyData), toPF S k d = some p → RelD K g f H d v → Dq K H v p
  | 0, d, v, p, h, _ => by rw [toPF] at h; cases h
  | k + 1, d, v, p, h, r => by
    have ih := toPF_rel s k
    cases d with
    | non => rw [toPF] at h; cases h; obtain rfl : v = V.non := r; exact .non
    | bl b => rw [toPF] at h; cases h; obtain rfl : v = V.bl b := r; exact .bl b
    | int i => rw [toPF] at h; cases h; obtain rfl : v = V.int i := r; exact .int i
    | str x => rw [toPF] at h; cases h; obtain rfl : v = V.str x := r; exact .str x
    | tup l =>
      rw [toPF] at h
      obtain ⟨ps, h1, rfl⟩ := Option.map_eq_some_iff.mp h
      obtain ⟨a, vs, rfl, q, rr⟩ := r
      exact .tup q (allO_rel ih l vs ps h1 rr)
    | lst l =>
      rw [toPF] at h
      obtain ⟨ps, h1, rfl⟩ := Option.map_eq_some_iff.mp h
      obtain ⟨a, vs, rfl, q, rr⟩ := r
      exact .lst q.sq (by rw [q.2.2]; simp) (allO_rel ih l vs ps h1 rr)
    | loc n =>
      rw [toPF] at h
      obtain ⟨a, rfl, hg⟩ := r
      split at h
      · rename_i l hn
        obtain ⟨ps, h1, rfl⟩ := Option.map_eq_some_iff.mp h
        obtain ⟨vs, hH, rr⟩ := s.cel n _ a hn hg
        exact .lst (.of hH) (by rw [hH]; simp) (allO_rel ih l vs ps h1 rr)
      · rename_i l hn
        obtain ⟨ps, h1, rfl⟩ := Option.map_eq_some_iff.mp h
        obtain ⟨kvs, hH, rr⟩ := s.cel n _ a hn hg
        obtain ⟨i1, i2⟩ := allO_kv ih l kvs ps h1 rr
        exact .dct (.inl hH) i1 i2
      · cases h
    | scr l => rw [toPF] at h; cases h; all_goals (intros; simp_all)
    | raw u => rw [toPF] at h; cases h; all_goals (intros; simp_all)
    | ex _ _ _ => rw [toPF] at h; cases h; all_goals (intros; simp_all)
end
/-- repr of such data -/
def gReprS (d : D) (S : Store) : R D := match toPF S 60 d with
  | some p => if shownOk p then .ok (.str p.shown) S else .bad
  | none => .bad
theorem em_reprS {X : Cx} {e : Expr} {me : ME} {p pos : Pos} (hmo : HasMod X) (hgd : X.A.guards = some []) (hu : X.A.units + 64 < cLine) (h : EM X e me) (hg : Gl X "repr") (hm : X.mg "repr" = none) (hb : bootBuiltins "repr" = some (.builtin "repr") := by decide +kernel) (hs : starEach [e] X.env = (false, eval e X.env) :: starEach [] X.env := by rfl) (hpl : (backTo pos (starEach [] X.env)).any (·.1) = false := by rfl) :
    EM X (.Call (.Name "repr" p) [e] [] pos) (mB1 gReprS me) :=
  PE.of (pe_callB (cr_reprQ hmo hgd hu) hg hm hb (b1 h hs) (by decide) (by decide) hs hpl) fun σ H Q ⟨g, w, o, ρ, S, d, S', s, hm, q⟩ => by
    obtain ⟨d1, S1, h1, h2⟩ := R.bind_ok hm
    refine ⟨g, w, o, ρ, S, d1, S1, s, h1, fun v g1 H1 x1 s1 r1 => ?_⟩
    unfold gReprS at h2
    split at h2
    · rename_i pd hp
      split at h2
      · rename_i hok
        cases h2
        exact ⟨v, pd, rfl, toPF_rel s1 _ _ _ _ hp r1, hok, q _ g1 H1 x1 s1 rfl⟩
      · cases h2
    · cases h2
end Mo
set_option maxRecDepth 100000
set_option maxHeartbeats 1000000
/-! Mo: the law's own head, sys.modules known to stand. -/
namespace Mo
open PySem PySem.Spec PyProof.Rows L2
section
variable {P : Program} {w : World} {K : PySem.W.Frag} {mg mb : Str → Option Value} {k : Nat} {fa a : Addr} {fd : FuncData} {x : Str} {s : Shared} {ob : Obj} {its : Array Value} {n : Nat}
/-- from an abstract heap that holds the script alone, or nothing -/
theorem head_core2 (kin : K.In s.heap) (hG : s.heap.Ns mainGlobals mg) (hB : s.heap.Ns builtinsNs mb) (hbb : ∀ y : Str, y ≠ "__name__" → mb y = bootBuiltins y) (lim : s.heap.NoLimit) (gens : s.gens = #[])
    (ho : s.heap.get? a = some ob) (hd : ob.data = .seq its n) (hr : Room k callerA) (sm : ∃ o es ep, s.heap.get? sysModules = some o ∧ o.data = .dict es ep) (F : ∀ base : Heap, K.In base → base.Ns mainGlobals mg → (∃ o, base.get? sysModules = some o) → FnG P w K mg base CX0 k fa fd [x] (spM K 1 m))
    (hbind : ∀ (s : Shared) (u : Value), BindsTo s fd ⟨[u], []⟩ [(x, u)]) (H : Hp) (hH : ∀ b u, H b = some u → b = a ∧ K.lookup a = none ∧ ∃ xs, u = .frz ob (.lst xs)) (hok : HOk P w H s.heap)
    (hsp : spM K 1 m [.ref a] H (fun v _ => v = .bl true) E0) :
    codeAny (model P w) callerA (.call (.ref fa) ⟨[.ref a], []⟩) (fun r s' => r = .ok (.ret (.bool true)) ∧ OldK s.heap s'.heap ∧ s'.os = s.os ∧ AllBare s'.gens) s := by
  have un : ∀ {b : Addr}, b ≠ a → H b = none := fun {b} hb => by
    cases e : H b with
    | none => rfl
    | some u => exact absurd (hH b u e).1 hb
  have apart : ∀ {b : Addr} {o : Obj} {es : Array DictEntry} {ep : Nat}, s.heap.get? b = some o → o.data = .dict es ep → b ≠ a := fun {b o es ep} e d z => by
    subst z
    rw [ho] at e
    cases e
    rw [hd] at d
    cases d
  have ns : ∀ {b : Addr} {f : Str → Option Value}, s.heap.Ns b f → (hidT s.heap H).Ns b f := by
    rintro b f ⟨o, es, ep, e, d, r⟩
    exact ⟨o, es, ep, hidT_get e (un (apart e d)), d, r⟩
  have kin' : K.In (hidT s.heap H) := by
    intro b o e
    refine hidT_get (kin b o e) ?_
    cases q : H b with
    | none => rfl
    | some u =>
      obtain ⟨hb, hk, _⟩ := hH b u q
      subst hb
      rw [hk] at e
      cases e
  have lim' : (hidT s.heap H).NoLimit := by
    obtain ⟨mc, h1, h2⟩ := lim
    exact ⟨mc, ns h1, h2⟩
  have env : Env0 P w K mg (hidT s.heap H) callerA [] s H :=
    { frames := rfl, mod := ⟨kin', ns hG, ⟨mb, ns hB, hbb⟩, lim'⟩, bs := fun b o e => of_hidT e, bsz := Nat.le_of_eq (hidT_size _ _), funs := trivial, frf := fun b hb => (nomatch hb), hok := hok, bare := .of_eq gens }
  have sm' : ∃ o, (hidT s.heap H).get? sysModules = some o := by
    obtain ⟨o, es, ep, e, d⟩ := sm
    exact ⟨o, hidT_get e (un (apart e d))⟩
  refine codeAny_mono ((F _ kin' (ns hG) sm').go callerA [] s H ⟨[.ref a], []⟩ [.ref a] [.ref a] _ _ rfl hr env (hbind s (.ref a)) (.cons rfl .nil) hsp) ?_
  intro r s' hq
  match r, hq with
  | .error e, hq => exact hq.elim
  | .ok .next, hq => exact hq.elim
  | .ok .brk, hq => exact hq.elim
  | .ok .cont, hq => exact hq.elim
  | .ok (.ret u), ⟨v, H', os, bare, ch, hok', rv, q⟩ =>
    subst q
    cases rv
    refine ⟨rfl, OldK.of_keep fun b o e => ?_, os, bare⟩
    by_cases hb : b = a
    · subst hb
      cases q : H b with
      | none => exact ch.keep b o e q (fun z => nomatch z) (fun z => nomatch z)
      | some u =>
        obtain ⟨_, _, xs, rfl⟩ := hH b u q
        have e1 := (hok b _ q).1
        have e2 := (hok' b _ (ch.frzs b ob _ q)).1
        rw [e] at e1
        cases e1
        exact e2
    · exact ch.keep b o e (un hb) (fun z => nomatch z) (fun z => nomatch z)
end
section
variable {l : PySem.W.OpenLaw} {n k : Nat} {q : Program} {loose : List Str} {XP : (Str → Option Value) → Heap → Prop} {YP : World → Heap → Prop} {d : DefRec} {K : Params → PySem.W.Frag} {x : Str} {m : MF}
/-- what k_head leaves, from the law's meaning at every script -/
theorem walk_g2 (hn : l.most = some n) (hn2 : n ≤ sizeLine) (hdf : d.params.defaults = []) (hr : Room k callerA) (hi : PyProof.Rows.importsNone q = true) (hY : ∀ (w : World) (h : Heap), YP w h → (K w.params).In h)
    (F : ∀ (w : World) (mg : Str → Option Value) (fa : Addr) (h : Heap), (K w.params).In h → h.Ns mainGlobals mg → mg d.name = some (.ref fa) →
      ∃ fd : FuncData, (∀ (s : Shared) (u : Value), BindsTo s fd ⟨[u], []⟩ [(x, u)]) ∧ ∀ base : Heap, (K w.params).In base → base.Ns mainGlobals mg → (∃ o, base.get? sysModules = some o) → FnG l.prog w (K w.params) mg base CX0 k fa fd [x] (spM (K w.params) 1 m))
    (hm : ∀ ns : List Int, ns.length ≤ n → ∃ S', m [.scr ns] [] = .ok (.bl true) S') : PySem.W.WalkO q loose XP YP l.row.toRowW d [] (fun f vs => PySem.call f vs) := by
  refine Att.attach_call hn hdf ?_
  intro w s0 s1 mg mb fa o pm cd doc a vs ns G Y ho hd hcd hmg hobj hints hlen hg
  have KX := hY w _ Y
  have smod : ∃ o es ep, s1.heap.get? sysModules = some o ∧ o.data = .dict es ep := by
    obtain ⟨mm, ⟨o, es, ep, e, d, _⟩, _⟩ := (G.T.seer hi).mods
    exact ⟨o, es, ep, e, d⟩
  obtain ⟨fd, hb, hF⟩ := F w mg fa _ KX G.T.g hmg
  have rv := vals_ints hints
  have hz : ns.length ≤ sizeLine := Nat.le_trans hlen hn2
  obtain ⟨S', hS⟩ := hm ns hlen
  have sp : ∀ H : Hp, ScrL (K w.params) [] [] H a (ns.map V.int) → spM (K w.params) 1 m [.ref a] H (fun v _ => v = .bl true) E0 := fun H hs =>
    ⟨rfl, [], [], [.scr ns], [], .bl true, S', fun b hb => (nomatch hb), ⟨rfl, List.nodup_nil, fun n c a e _ => by simp at e⟩, ⟨.ref a, [], rfl, ⟨a, rfl, hs⟩, rfl⟩, hS, fun v g' H' _ _ r => r⟩
  by_cases hk : (K w.params).lookup a = none
  · refine head_core2 (H := fun b => if b = a then some (.frz { cls := .type "list", data := .seq vs.toArray } (.lst (ns.map V.int))) else none) KX G.T.g G.T.b G.T.builtins G.T.nolimit hg hobj rfl hr smod hF hb (fun b u e => ?_) (fun b u e => ?_) (sp _ (.inl ⟨(fun z => nomatch z), (fun z => nomatch z), .inr ⟨_, if_pos rfl⟩⟩))
    · skip
      by_cases hba : b = a
      · rw [if_pos hba] at e
        cases e
        exact ⟨hba, hk, _, rfl⟩
      · rw [if_neg hba] at e; cases e
    · dsimp only at e
      by_cases hba : b = a
      · rw [if_pos hba] at e
        cases e
        subst hba
        exact ⟨hobj, by rw [List.length_map]; exact hz, vs, _, rv, hobj⟩
      · rw [if_neg hba] at e; cases e
  · cases e : (K w.params).lookup a with
    | none => exact absurd e hk
    | some oK =>
      have e2 := KX a oK e
      rw [hobj] at e2
      cases e2
      refine head_core2 (H := fun _ => none) KX G.T.g G.T.b G.T.builtins G.T.nolimit hg hobj rfl hr smod hF hb (fun b u e => nomatch e) (fun b u e => nomatch e) (sp _ (.inr ⟨_, vs.toArray, _, e, rfl, rfl, rfl, ?_, by simpa using rv⟩))
      rw [List.size_toArray, hints.length]
      exact hz
end
end Mo
set_option maxRecDepth 100000
set_option maxHeartbeats 1000000
/-! Mo: dict displays whose keys are literals; defs that call themselves. -/
namespace Mo
open PySem PySem.Spec PyProof.Rows L2
section
variable {X : Cx} {pos : Pos}
/-- the entries of a display, from the left -/
def mEntries : List (Key × ME) → MEnv → Store → R (List (Key × D))
  | [], _, S => .ok [] S
  | (k, m) :: r, ρ, S => (m ρ S).bind fun d S1 => (mEntries r ρ S1).bind fun ds S2 => .ok ((k, d) :: ds) S2
def tEs (K : PySem.W.Frag) (es : List (Key × ME)) : List (TE × TE) := es.map fun e => (tC (kV e.1), tE K e.2)
inductive DE (X : Cx) : List (Option Expr) → List Expr → List (Key × ME) → Prop
  | nil : DE X [] [] []
  | int {i : Int} {j : Nat} {p : Pos} {ks : List (Option Expr)} {v : Expr} {vs : List Expr} {m : ME} {es : List (Key × ME)} : EM X v m → DE X ks vs es → DE X (some (.Constant (.int i) j p) :: ks) (v :: vs) ((.inl i, m) :: es)
  | str {x : Str} {j : Nat} {p : Pos} {ks : List (Option Expr)} {v : Expr} {vs : List Expr} {m : ME} {es : List (Key × ME)} : EM X v m → DE X ks vs es → DE X (some (.Constant (.str x) j p) :: ks) (v :: vs) ((.inr x, m) :: es)
theorem DE.pps {ks : List (Option Expr)} {vs : List Expr} {es : List (Key × ME)} (h : DE X ks vs es) : PPs X pos ks vs (tEs X.K es) := by
  induction h with
  | nil => exact pps_nil
  | int hv _ ih => exact pps_cons pe_int hv ih
  | str hv _ ih => exact pps_cons pe_str hv ih
theorem entries_of {K : PySem.W.Frag} : ∀ (es : List (Key × ME)) {g w o : List Addr} {ρ : MEnv} {S S' : Store} {σ : L2.St} {H : Hp} {ds : List (Key × D)} {Q : List (V × V) → Hp → Prop}, Sta K g w o ρ S σ H → mEntries es ρ S = .ok ds S' →
    (∀ (kvs : List (Key × V)) g' H', Ext g H g' H' → RelS K g' (w ++ o) H' S' → RelKv K g' (w ++ o) H' ds kvs → Q (kvs.map fun kv => (kV kv.1, kv.2)) H') → tPairs (tEs K es) σ H Q
  | [], g, w, o, ρ, S, S', σ, H, ds, Q, s, h, q => by
    cases h
    exact q [] g H .refl s.sto rfl
  | (k, m) :: es, g, w, o, ρ, S, S', σ, H, ds, Q, s, h, q => by
    obtain ⟨d, S1, h1, h⟩ := R.bind_ok h
    obtain ⟨ds', S2, h2, h⟩ := R.bind_ok h
    cases h
    show tC (kV k) σ H fun x H1 => tE K m σ H1 fun y H2 => tPairs (tEs K es) σ H2 fun ps H3 => Q ((x, y) :: ps) H3
    refine ⟨g, w, o, ρ, S, d, S1, s, h1, fun v g1 H1 x1 s1 r1 => ?_⟩
    refine entries_of es (s.ext x1 s1) h2 fun kvs g2 H2 x2 s2 r2 => ?_
    exact q ((k, v) :: kvs) g2 H2 (x1.trans x2) s2 ⟨v, kvs, rfl, RelD.ext x2 d v r1, r2⟩
/-- {k: v, ..}: the new dict stands, empty, while the values are made -/
def mDDisp (es : List (Key × ME)) : ME := fun ρ S => (mEntries es ρ (S ++ [.dK []])).bind fun ds S1 => match S1[S.length]? with
  | some (.dK []) => .ok (.loc S.length) (S1.set S.length (.dK (mergeD [] ds)))
  | _ => .bad
theorem entries_len : ∀ {es : List (Key × ME)} {ρ : MEnv} {S S' : Store} {ds : List (Key × D)}, mEntries es ρ S = .ok ds S' → ds.length = es.length
  | [], _, _, _, _, h => by cases h; rfl
  | (k, m) :: es, ρ, S, S', ds, h => by
    obtain ⟨d, S1, _, h⟩ := R.bind_ok h
    obtain ⟨ds', S2, h2, h⟩ := R.bind_ok h
    cases h
    rw [List.length_cons, List.length_cons, entries_len h2]
theorem em_ddisp {ks : List (Option Expr)} {vs : List Expr} {es : List (Key × ME)} (h : DE X ks vs es) (hall : ks.all (·.isSome) = true) (hl : ks.length = vs.length) (h0 : ks ≠ []) (h15 : ks.length ≤ 15) (he : es.length ≤ 15) : EM X (.Dict ks vs pos) (mDDisp es) :=
  PE.of (pe_disp h.pps hall hl h0 h15) fun σ H Q ⟨g, w, o, ρ, S, d, S', s, hm, q⟩ => by
    obtain ⟨ds, S1, h1, hm⟩ := R.bind_ok hm
    split at hm
    · rename_i hc
      cases hm
      intro p hp
      have x0 : Ext g H (g ++ [p]) (upd H p (.dK [])) := ⟨⟨[p], rfl, fun b hb => by rw [List.mem_singleton.mp hb]; exact hp⟩, fun a u h _ => (Ext.new (g := []) hp).keep a u h (by simp), (Ext.new (g := []) hp).live, (Ext.new (g := []) hp).tups, (Ext.new (g := []) hp).frz⟩
      have s0 : RelS X.K (g ++ [p]) (w ++ o) (upd H p (.dK [])) (S ++ [.dK []]) := ((s.sto.fresh hp).new hp).addG (s.sto.noG hp) (c := .dK []) ⟨[], upd_same, rfl⟩
      have hg0 : (g ++ [p])[S.length]? = some p := by rw [← s.sto.len]; exact List.getElem?_concat_length
      refine entries_of es (s.ext x0 s0) h1 fun kvs g' H' x s' r => ?_
      have hg' : g'[S.length]? = some p := x.get hg0
      have gD : p ∈ g' := List.mem_of_getElem? hg'
      obtain ⟨kv0, hH, r0⟩ := s'.cel S.length _ p hc hg'
      obtain rfl : kv0 = [] := r0
      have mD : Mut (H' p) := by rw [hH]; trivial
      have rm : RelKv X.K g' (w ++ o) H' (mergeD [] ds) (mergeK [] kvs) := merge_rel r rfl
      have hlen : kvs.length ≤ 15 := by rw [← RelKv.length r, entries_len h1]; exact he
      refine ⟨hH, kvs, rfl, hlen, ?_⟩
      have x4 : Ext g' H' g' (upd H' p (.dK (mergeK [] kvs))) := .updG mD gD
      exact q _ g' _ ((x0.trans x).trans x4) (s'.updG (c := .dK (mergeD [] ds)) (u := .dK (mergeK [] kvs)) mD hg' ⟨_, upd_same, RelKv.upd mD (.inr gD) _ _ rm⟩) ⟨p, rfl, hg'⟩
    · cases hm
@[simp] theorem mEntries_nil (ρ : MEnv) (S : Store) : mEntries [] ρ S = .ok [] S := rfl
@[simp] theorem mEntries_cons (k : Key) (m : ME) (r : List (Key × ME)) (ρ : MEnv) (S : Store) : mEntries ((k, m) :: r) ρ S = (m ρ S).bind fun d S1 => (mEntries r ρ S1).bind fun ds S2 => .ok ((k, d) :: ds) S2 := rfl
@[simp] theorem mDDisp_eq (es : List (Key × ME)) (ρ : MEnv) (S : Store) : mDDisp es ρ S = (mEntries es ρ (S ++ [.dK []])).bind fun ds S1 => (match S1[S.length]? with
  | some (.dK []) => .ok (.loc S.length) (S1.set S.length (.dK (mergeD [] ds)))
  | _ => .bad) := rfl
end
/-! ### defs that call themselves: by how deep they may go -/
theorem FnG.bad {P : Program} {w : World} {K : PySem.W.Frag} {mg : Str → Option Value} {base : Heap} {CX : CXT} {k n : Nat} {a : Addr} {fd : FuncData} {ps : List Str} (hn : n = ps.length) : FnG P w K mg base CX k a fd ps (spM K n fun _ _ => .bad) :=
  ⟨fun vs H Q E h => h.1.trans hn, fun A out s H ar us vs Q E hgd hr e0 hb rv h => by
    obtain ⟨_, _, _, _, _, _, _, _, _, _, hm, _⟩ := h
    cases hm⟩
end Mo
set_option maxRecDepth 100000
set_option maxHeartbeats 1000000
/-! Mo: truths that are reckoned with; their texts. -/
namespace Mo
open PySem PySem.Spec PyProof.Rows L2
section
variable {X : Cx} {e : Expr} {l : MA} {p pos : Pos}
/-- a number, or a truth as a number -/
def numV : V → Option Int
  | .int i => some i
  | .bl b => some (if b = true then 1 else 0)
  | _ => none
def rNum (f : Int → Int → Int) : R2 := fun x y H Q => ∃ i j, numV x = some i ∧ y = .int j ∧ Q (.int (f i j)) H
theorem op_addB : OpR X (binaryOp .Add) (rNum (· + ·)) := by
  intro pins s σ H x y v u Q I rx ry h
  obtain ⟨i, j, hx, rfl, q⟩ := h
  obtain ⟨t, rfl⟩ := ry
  cases x with
  | int k =>
    obtain ⟨t', rfl⟩ := rx
    cases hx
    exact add_int ⟨.int _, H, I.tok _, ⟨_, rfl⟩, q⟩
  | bl b =>
    obtain rfl : v = Value.bool b := rx
    cases hx
    exact PySem.IntBool.add_bool_int ⟨.int _, H, I.tok _, ⟨_, rfl⟩, q⟩
  | _ => cases hx
theorem op_subB : OpR X (binaryOp .Sub) (rNum (· - ·)) := by
  intro pins s σ H x y v u Q I rx ry h
  obtain ⟨i, j, hx, rfl, q⟩ := h
  obtain ⟨t, rfl⟩ := ry
  cases x with
  | int k =>
    obtain ⟨t', rfl⟩ := rx
    cases hx
    exact sub_int ⟨.int _, H, I.tok _, ⟨_, rfl⟩, q⟩
  | bl b =>
    obtain rfl : v = Value.bool b := rx
    cases hx
    exact PySem.IntBool.sub_bool_int ⟨.int _, H, I.tok _, ⟨_, rfl⟩, q⟩
  | _ => cases hx
def numD : D → Option Int
  | .int i => some i
  | .bl b => some (if b = true then 1 else 0)
  | _ => none
def gNum (f : Int → Int → Int) : G2 := fun x y S => match numD x, y with
  | some i, .int j => .ok (.int (f i j)) S
  | _, _ => .bad
theorem od_num (f : Int → Int → Int) : OpD X.K (rNum f) (gNum f) := fun g f' H S dx dy d S' x y Q s rx ry hm q => by
  unfold gNum at hm
  split at hm
  · rename_i i j hi
    cases hm
    obtain rfl : y = V.int j := ry
    refine ⟨i, j, ?_, rfl, q.same s rfl⟩
    cases dx with
    | int k => obtain rfl : x = V.int k := rx; exact hi
    | bl b => obtain rfl : x = V.bl b := rx; exact hi
    | _ => cases hi
  · cases hm
theorem call_str_num : CallR X (.type "str") (fun xs H Q => (∃ i : Int, xs = [.int i] ∧ i.natAbs.log2 < 1920 ∧ Q (.str (toString i)) H) ∨ ∃ b : Bool, xs = [.bl b] ∧ Q (.str (if b then "True" else "False")) H) := by
  intro pins s σ H xs us Q I r h
  rcases h with h | ⟨b, rfl, q⟩
  · exact call_str_int pins s σ H xs us Q I r h
  · obtain ⟨u, rfl, ru⟩ := vals1 r
    obtain rfl : u = Value.bool b := ru
    exact PySem.P.str_of_bool ⟨.str _, H, I.tok _, ⟨_, rfl⟩, q⟩
/-- str of a number, or of a truth -/
def hStrB : List D → Store → R D
  | [.int i], S => if b62 i = true then .ok (.str (toString i)) S else .bad
  | [.bl b], S => .ok (.str (if b then "True" else "False")) S
  | _, _ => .bad
theorem em_strB (h : AM X [e] l) (hg : Gl X "str") (hm : X.mg "str" = none) (hb : bootBuiltins "str" = some (.type "str") := by decide +kernel) (hs : starEach [e] X.env = (false, eval e X.env) :: starEach [] X.env := by rfl) (hpl : (backTo pos (starEach [] X.env)).any (·.1) = false := by rfl) :
    EM X (.Call (.Name "str" p) [e] [] pos) (mA hStrB l) :=
  PE.of (pe_callTy call_str_num hg hm hb h (by decide) (by decide) hs hpl) fun σ H Q q => a_of (fun g f H S l d S' vs Q s r hm q => by
    unfold hStrB at hm
    split at hm
    · split at hm
      · rename_i i hi
        cases hm
        obtain ⟨v, t, ev, rv, rn⟩ := r
        cases rv; cases rn
        exact .inl ⟨_, ev, log_b62 hi, q.same s rfl⟩
      · cases hm
    · cases hm
      obtain ⟨v, t, ev, rv, rn⟩ := r
      cases rv; cases rn
      exact .inr ⟨_, ev, q.same s rfl⟩
    · cases hm) q
@[simp] theorem gNum_int (f : Int → Int → Int) (i j : Int) (S : Store) : gNum f (.int i) (.int j) S = .ok (.int (f i j)) S := rfl
@[simp] theorem gNum_bl (f : Int → Int → Int) (b : Bool) (j : Int) (S : Store) : gNum f (.bl b) (.int j) S = .ok (.int (f (if b = true then 1 else 0) j)) S := rfl
end
end Mo
set_option maxRecDepth 100000
set_option maxHeartbeats 1000000
/-! Mo: own defs as values, called by a local name; a law whose meaning speaks of where its defs lie. -/
namespace Mo
open PySem PySem.Spec PyProof.Rows L2
section
variable {X : Cx} {x : Str} {p pos : Pos} {i n : Nat} {e : Expr} {es : List Expr} {l : MA}
/-- an own def's name, as a value -/
theorem em_fn {k n : Nat} {ps : List Str} {a : Addr} {fd : FuncData} {m : MF} (C : Own X.prog X.w X.K X.mg X.base k n x ps a fd m) (hg : Gl X x) (hd : (x == ("__debug__" : Str)) = false := by decide) : EM X (.Name x pos) (mC (.raw (.ref a))) :=
  em_c (pe_glob (v := .ref a) hg C.at_ rfl hd) fun _ _ _ _ => rfl
/-- which def lies where -/
def tabF : List (Addr × MF) → Addr → Option MF
  | [], _ => none
  | (a, m) :: r, f => if f = a then some m else tabF r f
/-- f(e, ..) of a name that holds an own def -/
def mCallF (i n : Nat) (tab : List (Addr × MF)) (l : MA) : ME := fun ρ S => match ρ[i]? with
  | some (some (.val (.raw (.ref f)))) => (match tabF tab f with
    | some m => mCall m n [] l ρ S
    | none => .bad)
  | _ => .bad
/-- what is promised of each def of a table -/
inductive TabO (X : Cx) (n : Nat) : List (Addr × MF) → Prop
  | nil : TabO X n []
  | cons {a : Addr} {m : MF} {r : List (Addr × MF)} {k : Nat} {x : Str} {ps : List Str} {fd : FuncData} : Own X.prog X.w X.K X.mg X.base k n x ps a fd m → Binds X.K fd ps [] → Room k X.A → TabO X n r → TabO X n ((a, m) :: r)
theorem TabO.at {r : List (Addr × MF)} (t : TabO X n r) {f : Addr} {m : MF} (h : tabF r f = some m) : ∃ (k : Nat) (x : Str) (ps : List Str) (fd : FuncData), Own X.prog X.w X.K X.mg X.base k n x ps f fd m ∧ Binds X.K fd ps [] ∧ Room k X.A := by
  induction t with
  | nil => cases h
  | cons C B hr t ih =>
    rw [tabF] at h
    split at h
    · rename_i e
      subst e
      cases h
      exact ⟨_, _, _, _, C, B, hr⟩
    · exact ih h
theorem em_callF {tab : List (Addr × MF)} (t : TabO X n tab) (hv : PE X (.Name x p) (tVar i)) (hgd : X.A.guards = some []) (ha : AM X (e :: es) l)
    (he : starEach (e :: es) X.env = (false, eval e X.env) :: starEach es X.env := by rfl) (hpl : (backTo pos (starEach es X.env)).any (·.1) = false := by rfl) : EM X (.Call (.Name x p) (e :: es) [] pos) (mCallF i n tab l) := by
  refine ⟨fun pins s σ H Q I h => ?_⟩
  obtain ⟨g, w, o, ρ, S, d, S', sta, hm, q⟩ := h
  unfold mCallF at hm
  split at hm
  · rename_i f hf
    split at hm
    · rename_i m ht
      obtain ⟨k, y, ps, fd, C, B, hr⟩ := t.at ht
      obtain ⟨v, hs, rv⟩ := sta.val i _ hf
      obtain rfl : v = V.ref f := rv
      have h' : tE X.K (mCall m n [] l) σ H Q := ⟨g, w, o, ρ, S, d, S', sta, hm, q⟩
      have h2 := call_of (E := E0) (dv := []) (dvs := []) (fun _ _ _ _ => rfl) h'
      refine wpAny_Call_Name_kw (thn (hv.run pins s σ H (fun v H1 => v = .ref f ∧ H1 = H) I ⟨.ref f, hs, rfl, rfl⟩) fun u s1 ⟨v, H1, I1, r1, q1⟩ => ?_)
      obtain ⟨rfl, rfl⟩ := q1
      cases r1
      refine PySem.W.callWith_K (h₀ := X.base) I.ok.mod.kin C.kp ?_ he hpl
      refine thn (PA.run ha pos pins s1 σ H1 _ I1 h2) fun us s2 ⟨vs, H2, I2, r, q⟩ => ⟨I2.kIn, ?_⟩
      exact C.ok.run hgd hr (B s2 us I2.kIn) pass0 I2 (r.append .nil) q
    · cases hm
  · cases hm
/-! ### number - truth -/
def rNumR (f : Int → Int → Int) : R2 := fun x y H Q => ∃ i j, x = .int i ∧ numV y = some j ∧ Q (.int (f i j)) H
theorem op_subR : OpR X (binaryOp .Sub) (rNumR (· - ·)) := by
  intro pins s σ H x y v u Q I rx ry h
  obtain ⟨i, j, rfl, hy, q⟩ := h
  obtain ⟨t, rfl⟩ := rx
  cases y with
  | int k =>
    obtain ⟨t', rfl⟩ := ry
    cases hy
    exact sub_int ⟨.int _, H, I.tok _, ⟨_, rfl⟩, q⟩
  | bl b =>
    obtain rfl : u = Value.bool b := ry
    cases hy
    exact PySem.IntBool.sub_int_bool ⟨.int _, H, I.tok _, ⟨_, rfl⟩, q⟩
  | _ => cases hy
def gNumR (f : Int → Int → Int) : G2 := fun x y S => match x, numD y with
  | .int i, some j => .ok (.int (f i j)) S
  | _, _ => .bad
theorem od_numR (f : Int → Int → Int) : OpD X.K (rNumR f) (gNumR f) := fun g f' H S dx dy d S' x y Q s rx ry hm q => by
  unfold gNumR at hm
  split at hm
  · rename_i i j hi
    cases hm
    obtain rfl : x = V.int i := rx
    refine ⟨i, j, rfl, ?_, q.same s rfl⟩
    cases dy with
    | int k => obtain rfl : y = V.int k := ry; exact hi
    | bl b => obtain rfl : y = V.bl b := ry; exact hi
    | _ => cases hi
  · cases hm
@[simp] theorem gNumR_int (f : Int → Int → Int) (i j : Int) (S : Store) : gNumR f (.int i) (.int j) S = .ok (.int (f i j)) S := rfl
@[simp] theorem gNumR_bl (f : Int → Int → Int) (b : Bool) (i : Int) (S : Store) : gNumR f (.int i) (.bl b) S = .ok (.int (f i (if b = true then 1 else 0))) S := rfl
@[simp] theorem mCallF_eq (i n : Nat) (tab : List (Addr × MF)) (l : MA) (ρ : MEnv) (S : Store) : mCallF i n tab l ρ S = (match ρ[i]? with
  | some (some (.val (.raw (.ref f)))) => (match tabF tab f with
    | some m => mCall m n [] l ρ S
    | none => .bad)
  | _ => .bad) := rfl
end
section
variable {l : PySem.W.OpenLaw} {n k : Nat} {q : Program} {loose : List Str} {XP : (Str → Option Value) → Heap → Prop} {YP : World → Heap → Prop} {d : DefRec} {K : Params → PySem.W.Frag} {x : Str}
/-- what k_head leaves, from the law's meaning at every script; the meaning may speak of where defs lie -/
theorem walk_g3 (hn : l.most = some n) (hn2 : n ≤ sizeLine) (hdf : d.params.defaults = []) (hr : Room k callerA) (hi : PyProof.Rows.importsNone q = true) (hY : ∀ (w : World) (h : Heap), YP w h → (K w.params).In h)
    (F : ∀ (w : World) (mg : Str → Option Value) (fa : Addr) (h : Heap), (K w.params).In h → h.Ns mainGlobals mg → mg d.name = some (.ref fa) →
      ∃ m : MF, (∀ ns : List Int, ns.length ≤ n → ∃ S', m [.scr ns] [] = .ok (.bl true) S') ∧
      ∃ fd : FuncData, (∀ (s : Shared) (u : Value), BindsTo s fd ⟨[u], []⟩ [(x, u)]) ∧ ∀ base : Heap, (K w.params).In base → base.Ns mainGlobals mg → (∃ o, base.get? sysModules = some o) → FnG l.prog w (K w.params) mg base CX0 k fa fd [x] (spM (K w.params) 1 m)) : PySem.W.WalkO q loose XP YP l.row.toRowW d [] (fun f vs => PySem.call f vs) := by
  refine Att.attach_call hn hdf ?_
  intro w s0 s1 mg mb fa o pm cd doc a vs ns G Y ho hd hcd hmg hobj hints hlen hg
  have KX := hY w _ Y
  have smod : ∃ o es ep, s1.heap.get? sysModules = some o ∧ o.data = .dict es ep := by
    obtain ⟨mm, ⟨o, es, ep, e, d, _⟩, _⟩ := (G.T.seer hi).mods
    exact ⟨o, es, ep, e, d⟩
  obtain ⟨m, hm, fd, hb, hF⟩ := F w mg fa _ KX G.T.g hmg
  have rv := vals_ints hints
  have hz : ns.length ≤ sizeLine := Nat.le_trans hlen hn2
  obtain ⟨S', hS⟩ := hm ns hlen
  have sp : ∀ H : Hp, ScrL (K w.params) [] [] H a (ns.map V.int) → spM (K w.params) 1 m [.ref a] H (fun v _ => v = .bl true) E0 := fun H hs =>
    ⟨rfl, [], [], [.scr ns], [], .bl true, S', fun b hb => (nomatch hb), ⟨rfl, List.nodup_nil, fun n c a e _ => by simp at e⟩, ⟨.ref a, [], rfl, ⟨a, rfl, hs⟩, rfl⟩, hS, fun v g' H' _ _ r => r⟩
  by_cases hk : (K w.params).lookup a = none
  · refine head_core2 (H := fun b => if b = a then some (.frz { cls := .type "list", data := .seq vs.toArray } (.lst (ns.map V.int))) else none) KX G.T.g G.T.b G.T.builtins G.T.nolimit hg hobj rfl hr smod hF hb (fun b u e => ?_) (fun b u e => ?_) (sp _ (.inl ⟨(fun z => nomatch z), (fun z => nomatch z), .inr ⟨_, if_pos rfl⟩⟩))
    · skip
      by_cases hba : b = a
      · rw [if_pos hba] at e
        cases e
        exact ⟨hba, hk, _, rfl⟩
      · rw [if_neg hba] at e; cases e
    · dsimp only at e
      by_cases hba : b = a
      · rw [if_pos hba] at e
        cases e
        subst hba
        exact ⟨hobj, by rw [List.length_map]; exact hz, vs, _, rv, hobj⟩
      · rw [if_neg hba] at e; cases e
  · cases e : (K w.params).lookup a with
    | none => exact absurd e hk
    | some oK =>
      have e2 := KX a oK e
      rw [hobj] at e2
      cases e2
      refine head_core2 (H := fun _ => none) KX G.T.g G.T.b G.T.builtins G.T.nolimit hg hobj rfl hr smod hF hb (fun b u e => nomatch e) (fun b u e => nomatch e) (sp _ (.inr ⟨_, vs.toArray, _, e, rfl, rfl, rfl, ?_, by simpa using rv⟩))
      rw [List.size_toArray, hints.length]
      exact hz
end
end Mo
set_option maxRecDepth 100000
set_option maxHeartbeats 1000000
/-! Mo: x == () of a tuple whose parts are of any kind. -/
namespace Mo
open PySem PySem.Spec PyProof.Rows L2
def gEq0 : G2 := fun x y S => match x, y with
  | .tup l, .tup [] => .ok (.bl l.isEmpty) S
  | _, _ => .bad
@[simp] theorem gEq0_eq (l : List D) (S : Store) : gEq0 (.tup l) (.tup []) S = .ok (.bl l.isEmpty) S := rfl
def rEq0 (K : PySem.W.Frag) : R2 := fun x y H Q => ∃ a b vs, x = .ref a ∧ y = .ref b ∧ SqT K H a vs ∧ SqT K H b [] ∧ Q (.bl vs.isEmpty) H
theorem op_eq0 {X : Cx} (hu : X.A.units + 64 < cLine) : OpR X (compareOp .Eq) (rEq0 X.K) := by
  intro pins s σ H x y v u Q I rx ry h
  obtain ⟨a, b, vs, rfl, rfl, ha, hb, q⟩ := h
  cases rx
  cases ry
  obtain ⟨its, rv, it, _⟩ := I.tuple ha
  obtain ⟨its2, rv2, it2, _⟩ := I.tuple hb
  cases rv2
  refine SeqAt.RcAt.tuples (e := fun _ => true) it it2 (by omega) (fun j h1 h2 => absurd h2 (by simp)) X.prog X.w _ _ ?_
  have e : ((List.range (min its.toArray.size ([] : List Value).toArray.size)).all (fun _ => true) && its.toArray.size == ([] : List Value).toArray.size) = vs.isEmpty := by
    cases rv <;> simp
  rw [e]
  exact ⟨.bl _, H, I, rfl, q⟩
theorem od_eq0 {X : Cx} : OpD X.K (rEq0 X.K) gEq0 := fun g f H S dx dy d S' x y Q s rx ry hm q => by
  unfold gEq0 at hm
  split at hm
  · rename_i l
    cases hm
    obtain ⟨a, vs, rfl, ha, ra⟩ := rx
    obtain ⟨b, ws, rfl, hb, rb⟩ := ry
    obtain rfl : ws = [] := rb
    refine ⟨a, b, vs, rfl, rfl, ha, hb, q.same s ?_⟩
    cases l with
    | nil => obtain rfl : vs = [] := ra; rfl
    | cons d l => obtain ⟨v, r, rfl, _⟩ := ra; rfl
  · cases hm
end Mo
set_option maxRecDepth 100000
set_option maxHeartbeats 2000000
/-! Mo: exceptions of own classes as values, of any family: made, their part read, isinstance of them. -/
namespace Mo
open PySem PySem.Spec PyProof.Rows L2
section
open Builtin Builtin.ObjectAttr PySem.W PySem.Calls PySem.HandSPX
variable {prog : Program} {w : World} {A : Around} {E : Value → Shared → Prop} {R : Result → Shared → Prop} {hp : Heap} {g : Array GenState} {d : Drawn} {t : Nat} {os : OsState}
theorem osaT {K : PySem.W.Frag} {name : Str} {tk : Tok} {v : Value} {x C : Addr} {fv : Array Value} {cd : ClassData} {bm bmB : List Value} {B : String} (SB : StoreFacts B bmB "object.__setattr__" "object")
    (X : K.In hp) (hx : hp.get? x = some { cls := .ref C, data := .fields fv }) (hcd : PySem.W.clsIn K C = some cd) (hr : cd.mro = .ref C :: bm) (hm : excTail bmB bm = true) (hh : cd.hasDict = true) (ha : PySem.W.findIn K (.ref C) name = some none)
    (hq : ∀ h' tk' dx, (∀ b o, b ≠ x → hp.get? b = some o → h'.get? b = some o) → hp.objs.size ≤ dx → dx ≠ x → h'.get? x = some { cls := .ref C, dict := some dx, data := .fields fv } →
      h'.Ns1 dx (fun y => if y = name then some v else none) → R (.ok (.ret .none)) ⟨h', g, d, tk', os⟩) :
    codeAny (model prog w) A (.call (.builtin "object.__setattr__") ⟨[.ref x, .str name tk, v], []⟩) R ⟨hp, g, d, t, os⟩ := by
  have I : PySem.W.InstAt hp x { cls := .ref C, data := .fields fv } C none := ⟨hx, rfl, rfl, trivial⟩
  have SF := F.store_object
  have ne : cd.mro.isEmpty = false := by rw [hr]; rfl
  have hob : cd.mro.contains (.type "object") = true := by rw [hr, List.contains_cons, excTail_contains "object" _ hm, SB.hasOwner, Bool.or_true]
  have hxs : x ≠ hp.objs.size := Nat.ne_of_lt (Heap.lt_size hx)
  have sub : PySem.W.Looks (model prog w) hp (isInstance (.ref x) (.type "object")) true := I.type.andThen (PySem.W.looks_mroIn X (by unfold PySem.W.mroIn; rw [hcd, Option.bind_some, if_neg (by rw [ne]; decide), hob]))
  refine codeAny_call_builtin SF.slot.plain SF.entry (@PySem.W.check_slot (model prog w) _ _ ⟨hp, g, d, t, os⟩ "object.__setattr__" "object" "__setattr__" (.ref x) [.str name tk, v] [] _ SF.kind SF.split sub (SF.args (.ref x) (.str name tk) v) ?_)
  have hmr : PySem.W.Looks (model prog w) hp (mroOf (.ref C)) cd.mro := (PySem.W.looks_clsIn X hcd).andThen .now
  have L3 : PySem.W.Looks (model prog w) hp (storeTaker? none) none := .now
  have hcls : PySem.W.Looks (model prog w) hp (classData C) cd := PySem.W.looks_clsIn X hcd
  rw [PySem.W.osa_eq, refuse_eq]
  refine wpAny_bind (wpAny_bind (I.type.at (wpAny_bind (hmr.at ?_))))
  rw [hr, refuseLoop_ref, excTail_pass _ (SB.passes _) _ hm]
  refine wpAny_pure (wpAny_bind (I.type.at (wpAny_bind ((PySem.W.looks_findIn X ha).at (wpAny_bind (L3.at ?_))))))
  show wpAny _ _ (storeInOwnDict (.ref x) (.ref C) (.str name tk) name v false) _ _ _
  obtain ⟨nm, bs, mro, ns, qn, hd, sn, sb, ab, col, del⟩ := cd
  dsimp only at hh
  subst hh
  unfold storeInOwnDict ownDictForStores
  repeat (first | with_reducible refine store_in_new ?_ ?_ | with_reducible refine wpAny_loadPart_at hx ?_ | with_reducible refine hcls.at ?_ | wp_step)
  · exact ⟨_, #[], _, (Heap.get?_update_ne _ _ _ _ hxs.symm).trans (Heap.get?_push_at rfl rfl), rfl, fun e he => absurd he (by simp), fun _ => rfl⟩
  · intro h' tk' hn' hs
    have hx₁ : (hp.push { cls := .type "dict", data := .dict #[] }).get? x = some { cls := .ref C, data := .fields fv } := Heap.get?_push_of_some _ hx
    refine hq h' tk' hp.objs.size (fun b o hb ho => ?_) (Nat.le_refl _) hxs.symm ?_ hn'
    · exact (hs.2 b (Nat.ne_of_lt (Heap.lt_size ho))).trans ((Heap.get?_update_ne _ _ _ _ hb).trans (Heap.get?_push_of_some _ ho))
    · exact (hs.2 x hxs).trans (Heap.get?_update_self _ hx₁ rfl)
end
/-- what the written part says of an own exception class, its family's tail bmB and maker newId -/
structure OexT (K : PySem.W.Frag) (C : Addr) (bmB : List Value) (newId : String) : Prop where
  cls : ∃ nm q N bs bm sn sub ab col dd k0 k1 k2 k3 k5, K.lookup C = some (excClassObj nm q C N bs bm true sn sub ab col dd k0 k1 k2 k3 k5 newId) ∧ PySem.W.excTail bmB bm = true
  sa : PySem.W.findIn K (.ref C) "__setattr__" = some (some (.builtin "object.__setattr__"))
  kC : PySem.W.keepIn K (.ref C) = true
section
variable {X : Cx} {pins : List (Addr × Obj)} {σ : L2.St} {H : Hp} {s : Shared} {a C dx : Addr} {f : Str} {y : V} {u : Value} {fs : List (Str × V)} {Q : Unit → Shared → Prop} {E : Value → Shared → Prop} {A : Around} {bmB : List Value} {newId B : String}
/-- self.f = y, the first one -/
theorem ostT_new (SB : StoreFacts B bmB "object.__setattr__" "object") (T : OexT X.K C bmB newId) (I : Inv X pins σ H s) (e : H a = some (exo a C none)) (hno : PySem.W.findIn X.K (.ref C) f = some none) (ry : RelV y u)
    (h : ∀ dx s', H dx = none → dx ≠ a → Inv X pins σ (upd (upd H dx (exd dx [(f, y)])) a (exo a C (some dx))) s' → Q () s') : wpAny (model X.prog X.w) A (setAttr (.ref a) f u) Q E s := by
  obtain ⟨nm, q, N, bs, bm, sn, sub, ab, col, dd, k0, k1, k2, k3, k5, hC, hbm⟩ := T.cls
  have hcl : PySem.W.clsIn X.K C = some { name := nm, bases := bs, mro := .ref C :: bm, ns := N, qualname := q, hasDict := true, slotNames := sn, subclasses := sub, abstract := ab, collection := col, hasDel := false } := by unfold PySem.W.clsIn; rw [hC] <;> rfl
  obtain ⟨t1, ho⟩ := exo_at I.hok e
  obtain ⟨hp, g, d, t, os⟩ := s
  refine PySem.W.set_plain I.kIn (ox := { cls := .ref C, dict := none, data := .fields #[.ref t1, .none, .none, .none, .bool false, .none] }) (od := none) ⟨ho, rfl, rfl, trivial⟩ T.sa ?_
  refine osaT SB I.kIn ho hcl rfl hbm rfl hno (fun h' tk' dx k dn dne hx hn => ?_)
  have hnd : H dx = none := I.hok.fresh dn
  have nd : ∀ {b : Addr} {o : Obj}, hp.get? b = some o → b ≠ dx := fun {b o} q => Nat.ne_of_lt (Nat.lt_of_lt_of_le (Heap.lt_size q) dn)
  have na : ∀ {b : Addr}, H b = none → b ≠ a := fun {b} n z => by
    rw [z, e] at n
    cases n
  have Un1 : Un X.fs [] H (upd (upd H dx (exd dx [(f, y)])) a (exo a C (some dx))) hp h' := {
    keep := fun b o q n _ _ => k b o (na n) q
    slot := fun b o q n _ _ => ⟨o.slots, k b o (na n) q⟩
    free := fun b o q n _ => by rw [upd_ne (na n), upd_ne (nd q)]; exact n
    there := fun b o q _ => by
      by_cases hb : b = a
      · exact ⟨_, by rw [hb]; exact hx⟩
      · exact ⟨o, k b o hb q⟩
    tups := fun b xs q => by rw [upd_ne (at_ne e q exo_tup), upd_ne (ne_of_none q hnd)]; exact q
    frzs := fun b o v q => by rw [upd_ne (at_ne e q exo_frz), upd_ne (ne_of_none q hnd)]; exact q
    tbls := fun b ps q => ⟨#[], by rw [upd_ne (at_ne e q exo_tbl), upd_ne (ne_of_none q hnd), q]; simp⟩ }
  refine h dx _ hnd dne (I.un (t' := tk') Un1 fun b o q => ?_)
  by_cases hb : b = a
  · subst hb
    rw [upd_same] at q
    cases q
    exact exo_ok hx
  · rw [upd_ne hb] at q
    by_cases hd : b = dx
    · subst hd
      rw [upd_same] at q
      cases q
      exact exd_ok hn (relO_put (fs := []) ry fun g => True.intro)
    · rw [upd_ne hd] at q
      exact (I.hok b o q).stay (fun c v hc z => k c v (by
          rcases hc with hc | hc
          · rw [hc]
            exact hb
          · exact at_ne e hc exo_own) z)
        (fun c hc => by rw [upd_ne (at_ne e hc exo_own), upd_ne (ne_of_none hc hnd)]; exact hc) (fun c xs hc => by rw [upd_ne (at_ne e hc exo_tup), upd_ne (ne_of_none hc hnd)]; exact hc)
/-- self.f = e, the first one, of the class C -/
def tOstT (C : Addr) (f : Str) (to te : TE) : TS := fun D σ H => te σ H fun y H1 => to σ H1 fun x H2 => ∃ a : Addr, x = .ref a ∧ H2 a = some (exo a C none) ∧ ∀ dx, H2 dx = none → dx ≠ a → D.nx σ (upd (upd H2 dx (exd dx [(f, y)])) a (exo a C (some dx)))
theorem psT_ost {o e : Expr} {to te : TE} {p' pos : Pos} (SB : StoreFacts B bmB "object.__setattr__" "object") (T : OexT X.K C bmB newId) (hno : PySem.W.findIn X.K (.ref C) f = some none) (ho : PE X o to) (he : PE X e te) (hs : swapsWith e (some (.Attribute o f p')) pos.line X.env = pure false := by rfl) : PS X (.Assign [.Attribute o f p'] e pos) (tOstT C f to te) := by
  refine ⟨fun pins s σ H D I h => ?_⟩
  refine plainObj_wpAny_Assign_Attribute (thn (he.run pins s σ H _ I h) fun v s1 ⟨y, H1, I1, r1, q1⟩ => thn (ho.run pins s1 σ H1 _ I1 q1) fun u s2 ⟨x, H2, I2, r2, a, ex, ea, q⟩ => ?_) hs
  subst ex
  obtain rfl : u = Value.ref a := r2
  exact ostT_new SB T I2 ea hno r1 fun dx s' n ne J => ⟨σ, _, J, q dx n ne⟩
end
theorem initT_ok {bmB : List Value} {newId B : String} {CX : CXT} {P : Program} {w : World} {K : PySem.W.Frag} {mg : Str → Option Value} {base : Heap} {k : Nat} {fI C : Addr} {name qual : Str} {params : Arguments} {scope : Scope} {dV kV doc pm cdv ct oc : Value} {an od : Option Addr}
    {osl : Array (Option Value)} {x y f : Str} {p1 p2 p3 pos : Pos} (SB : StoreFacts B bmB "object.__setattr__" "object") (lk : K.lookup fI = some ⟨oc, od, .func (PySem.W.fnOf name qual params [.Assign [.Attribute (.Name x p1) f p2] (.Name y p3) pos] scope dV kV doc pm an cdv ct), osl⟩) (hcd : PySem.W.codeIn K cdv qual = true) (S : FnScope [x, y] [x, y] scope)
    (T : OexT K C bmB newId) (hno : PySem.W.findIn K (.ref C) f = some none) (hx : scope.names.lookup x = some .local) (hy : scope.names.lookup y = some .local)
    (dx : (x == ("__debug__" : Str)) = false := by decide) (cx : (x == ("__classdict__" : Str)) = false := by decide) (dy : (y == ("__debug__" : Str)) = false := by decide) (cy : (y == ("__classdict__" : Str)) = false := by decide) :
    FnOk P w K mg base CX (k + 1) fI (PySem.W.fnOf name qual params [.Assign [.Attribute (.Name x p1) f p2] (.Name y p3) pos] scope dV kV doc pm an cdv ct) [x, y] (spInit1 C f) := by
  refine fn_of lk hcd S (fun vs H Q E ⟨a, v, e, _⟩ => by rw [e]; rfl) ?_
  rintro A outer s H vs Q E hr ⟨a, v, rfl, h1, h2⟩
  refine ⟨_, pss_cons (psT_ost SB T hno (pe_var (i := 0) rfl (.inl hx) dx cx) (pe_var (i := 1) rfl (.inl hy) dy cy)) pss_nil, ?_⟩
  exact ⟨v, rfl, .ref a, rfl, a, rfl, h1, fun d hd hne => h2 d hd hne⟩
section
variable {X : Cx} {e : Expr} {es : List Expr} {me : ME} {p pos : Pos} {x f : Str} {C : Addr} {k : Nat} {bmB : List Value} {newId initId B : String}
/-- C(e), kept as a value -/
theorem pe_mkO {fI : Addr} {fd : FuncData} {ps : List Str} {sp : Sp} {ta : TA} (FB : ExcBaseFacts B newId initId bmB) (T : OexT X.K C bmB newId) (iC : PySem.W.findIn X.K (.ref C) "__init__" = some (some (.ref fI))) (tI : PySem.W.typeIn X.K (.ref fI) = some (.type "function"))
    (F1 : FnOk X.prog X.w X.K X.mg X.base CX0 k fI fd ps sp) (hr : Room (k + 1) X.A) (hb : Binds X.K fd ps []) (hg : Gl X x) (hm : X.mg x = some (.ref C)) (ha : PA X (e :: es) ta)
    (hdb : (x == ("__debug__" : Str)) = false := by decide) (he : starEach (e :: es) X.env = (false, eval e X.env) :: starEach es X.env := by rfl) (hpl : (backTo pos (starEach es X.env)).any (·.1) = false := by rfl) :
    PE X (.Call (.Name x p) (e :: es) [] pos) (fun σ H Q => ta σ H fun vs H1 => vs.length ≤ 1000 ∧ ∀ a, H1 a = none → sp (.ref a :: vs) (upd H1 a (exo a C none)) (fun v H2 => v = .non ∧ Q (.ref a) H2) E0) := by
  refine ⟨fun pins s σ H Q I h => ?_⟩
  obtain ⟨nm, q, N, bs, bm, sn, sub, ab, col, dd, k0, k1, k2, k3, k5, hC, hbm⟩ := T.cls
  refine wpAny_Call_Name_kw (ld_glob I hg hm ?_ hdb)
  refine PySem.W.callWith_K (h₀ := X.base) I.ok.mod.kin T.kC (thn (ha.run pos pins s σ H _ I h) fun us s1 ⟨vs, H1, I1, r1, hz, q1⟩ => ⟨I1.kIn, ?_⟩) he hpl
  show wpAny _ _ (call (.ref C) us) _ _ _
  obtain ⟨hp, g, dr, tk, os⟩ := s1
  have hsz : hp.objs.size ≤ hp.objs.size + 1 := Nat.le_succ _
  have hn : H1 (hp.objs.size + 1) = none := I1.hok.fresh hsz
  have hq := q1 (hp.objs.size + 1) hn
  have kk : ∀ b o, hp.get? b = some o → ((hp.push (PySem.W.kdv_tup us)).push (PySem.HandSPX.excO C hp.objs.size)).get? b = some o := fun b o e => Heap.get?_push_of_some _ (Heap.get?_push_of_some _ e)
  have hget : ((hp.push (PySem.W.kdv_tup us)).push (PySem.HandSPX.excO C hp.objs.size)).get? (hp.objs.size + 1) = some (PySem.HandSPX.excO C hp.objs.size) := by heap_get
  have I2 : Inv X pins σ (upd H1 (hp.objs.size + 1) (exo (hp.objs.size + 1) C none)) ⟨(hp.push (PySem.W.kdv_tup us)).push (PySem.HandSPX.excO C hp.objs.size), g, dr, tk, os⟩ :=
    I1.laid (t' := tk) (a := hp.objs.size + 1) (o := exo (hp.objs.size + 1) C none) (h' := (hp.push (PySem.W.kdv_tup us)).push (PySem.HandSPX.excO C hp.objs.size)) kk hsz (exo_ok hget)
  have r2 : Vals (V.ref (hp.objs.size + 1) :: vs) (Value.ref (hp.objs.size + 1) :: us) := .cons rfl r1
  have hl : (Value.ref (hp.objs.size + 1) :: us).length = ps.length := by
    have e := r2.length
    rw [F1.len _ _ _ _ hq] at e
    exact e.symm
  have hl2 : (Value.ref (hp.objs.size + 1) :: us ++ []).length = ps.length := by rw [List.append_nil]; exact hl
  have hb2 := hb ⟨(hp.push (PySem.W.kdv_tup us)).push (PySem.HandSPX.excO C hp.objs.size), g, dr, tk, os⟩ (Value.ref (hp.objs.size + 1) :: us) I2.kIn hl2
  rw [List.append_nil] at hb2
  have hus : us.length ≤ sizeLine := by
    rw [← Paired.length r1, sizeLine_eq]
    omega
  refine wpAny_call (PySem.HandSPX.call_own FB (fun Y => PySem.W.excTail_contains Y bm hbm) (I1.kIn _ _ hC) (PySem.W.looks_findIn I1.kIn iC) (fun self => PySem.W.bind_fn I1.kIn self tI) hus
    (codeAny_mono (F1.run _ X.stack _ _ ⟨Value.ref (hp.objs.size + 1) :: us, []⟩ (Value.ref (hp.objs.size + 1) :: us) _ _ E0 (hr.make C us []) (I2.env0.make C us []) hb2 r2 hq) fun r s' hq' => ?_))
  cases r with
  | error er => exact absurd hq' (fun z => z)
  | ok fl =>
    cases fl with
    | ret u =>
      obtain ⟨v, H', I3, rv, ev, q3⟩ := I2.after hq'
      subst ev
      exact ⟨rv, ⟨V.ref (hp.objs.size + 1), H', I3, rfl, q3⟩⟩
    | next => exact False.elim hq'
    | brk => exact False.elim hq'
    | cont => exact False.elim hq'
end
end Mo
set_option maxRecDepth 100000
set_option maxHeartbeats 2000000
/-! Mo: exceptions of own classes as values: what a law of many classes asks of them. -/
namespace Mo
open PySem PySem.Spec PyProof.Rows L2
def famTail (ms : Bool) : List Value := if ms then [.type "LookupError", .type "Exception", .type "BaseException", .type "object"] else [.type "ValueError", .type "Exception", .type "BaseException", .type "object"]
def famNew (ms : Bool) : String := if ms then "LookupError.__new__" else "ValueError.__new__"
/-- an own class of exceptions: its name, its one part, its family (V: of what can't be done, M: of what isn't there) -/
structure ExO (P : Program) (w : World) (K : PySem.W.Frag) (mg : Str → Option Value) (base : Heap) (k : Nat) (V M : Addr) (x f : Str) (ms : Bool) (C : Addr) : Prop where
  at_ : mg x = some (.ref C)
  ns : PySem.W.nsIn K mainGlobals x = some (some (.ref C))
  cls : ∃ nm q N bs sn sub ab col dd k0 k1 k2 k3 k5, K.lookup C = some (excClassObj nm q C N bs (.ref (if ms then M else V) :: famTail ms) true sn sub ab col dd k0 k1 k2 k3 k5 (famNew ms))
  sa : PySem.W.findIn K (.ref C) "__setattr__" = some (some (.builtin "object.__setattr__"))
  kC : PySem.W.keepIn K (.ref C) = true
  ini : ∃ fI fd ps, PySem.W.findIn K (.ref C) "__init__" = some (some (.ref fI)) ∧ PySem.W.typeIn K (.ref fI) = some (.type "function") ∧ FnOk P w K mg base CX0 k fI fd ps (spInit1 C f) ∧ Binds K fd ps []
  no : PySem.W.findIn K (.ref C) f = some none
  ga : PySem.W.findIn K (.ref C) "__getattribute__" = some (some (.builtin "BaseException.__getattribute__"))
  gg : PySem.W.findIn K (.ref C) "__getattr__" = some none
  ha : PySem.W.findIn K (.ref C) "__class__" = some (some (.builtin "object.__class__"))
  hn : PySem.W.specialIn K (.builtin "object.__class__") "__get__" = some (some (.builtin "getset_descriptor.__get__"))
  ht : PySem.W.takesIn K (.builtin "object.__class__") = some true
section
variable {P : Program} {w : World} {K : PySem.W.Frag} {mg : Str → Option Value} {base : Heap} {k : Nat} {V M : Addr} {x f : Str} {ms : Bool} {C : Addr}
theorem ExO.cd (R : ExO P w K mg base k V M x f ms C) : ∃ cd, PySem.W.clsIn K C = some cd ∧ cd.mro = .ref C :: .ref (if ms then M else V) :: famTail ms ∧ cd.hasDict = true := by
  obtain ⟨nm, q, N, bs, sn, sub, ab, col, dd, k0, k1, k2, k3, k5, hC⟩ := R.cls
  refine ⟨_, by unfold PySem.W.clsIn; rw [hC] <;> rfl, rfl, rfl⟩
theorem ExO.ox (R : ExO P w K mg base k V M x f ms C) : OexT K C (famTail ms) (famNew ms) := by
  obtain ⟨nm, q, N, bs, sn, sub, ab, col, dd, k0, k1, k2, k3, k5, hC⟩ := R.cls
  exact ⟨⟨nm, q, N, bs, _, sn, sub, ab, col, dd, k0, k1, k2, k3, k5, hC, by cases ms <;> rfl⟩, R.sa, R.kC⟩
theorem ExO.sub (R : ExO P w K mg base k V M x f ms C) (v : Value) : PySem.W.subIn K (.ref C) v = some ((Value.ref C :: .ref (if ms then M else V) :: famTail ms).contains v) := by
  obtain ⟨cd, h1, h2, _⟩ := R.cd
  show PySem.W.mroIn K C v = _
  unfold PySem.W.mroIn
  rw [h1, Option.bind_some, h2]
  rfl
theorem ExO.hd (R : ExO P w K mg base k V M x f ms C) : PySem.W.hasDictIn K C = true := by
  obtain ⟨cd, h1, h2, h3⟩ := R.cd
  unfold PySem.W.hasDictIn
  rw [h1]
  exact h3
theorem ExO.ty (R : ExO P w K mg base k V M x f ms C) : PySem.W.typeIn K (.ref C) = some (.type "type") := by
  obtain ⟨nm, q, N, bs, sn, sub, ab, col, dd, k0, k1, k2, k3, k5, hC⟩ := R.cls
  show (K.lookup C).map (·.cls) = _
  rw [hC]
  rfl
theorem ExO.exC (R : ExO P w K mg base k V M x f ms C) : PySem.W.subIn K (.ref C) (.type "BaseException") = some true := by rw [R.sub]; cases ms <;> rfl
theorem ExO.xf (R : ExO P w K mg base k V M x f ms C) : XfC K C := ⟨R.ga, R.gg, R.exC, R.hd⟩
theorem ExO.ec (R : ExO P w K mg base k V M x f ms C) : ExcC K C := ⟨R.ga, R.gg, R.exC, R.hd, R.ha, R.hn, R.ht, by
  have := R.sub (.type "object")
  refine this.trans ?_
  cases ms <;> rfl⟩
end
/-- all own classes of a law, with their places -/
inductive AllO (P : Program) (w : World) (K : PySem.W.Frag) (mg : Str → Option Value) (base : Heap) (k : Nat) (V M : Addr) : List (Str × Str × Bool) → List Addr → Prop
  | nil : AllO P w K mg base k V M [] []
  | cons {x f : Str} {ms : Bool} {C : Addr} {tab : List (Str × Str × Bool)} {as : List Addr} : ExO P w K mg base k V M x f ms C → AllO P w K mg base k V M tab as → AllO P w K mg base k V M ((x, f, ms) :: tab) (C :: as)
structure ExTab (P : Program) (w : World) (K : PySem.W.Frag) (mg : Str → Option Value) (base : Heap) (k : Nat) (tab : List (Str × Str × Bool)) : Prop where
  ex : ∃ (V M : Addr) (as : List Addr), AllO P w K mg base k V M tab as ∧ (V :: M :: as).Nodup ∧ mg "VoteError" = some (.ref V) ∧ mg "Missing" = some (.ref M) ∧ PySem.W.hasDictIn K V = true ∧ PySem.W.hasDictIn K M = true ∧ PySem.W.typeIn K (.ref V) = some (.type "type") ∧ PySem.W.typeIn K (.ref M) = some (.type "type")
section
variable {P : Program} {w : World} {K : PySem.W.Frag} {mg : Str → Option Value} {base : Heap} {k : Nat} {V M : Addr} {tab : List (Str × Str × Bool)} {as : List Addr}
theorem AllO.at (h : AllO P w K mg base k V M tab as) {x f : Str} {ms : Bool} (e : (x, f, ms) ∈ tab) : ∃ C ∈ as, ExO P w K mg base k V M x f ms C := by
  induction h with
  | nil => cases e
  | @cons y g ms' C tab as R h ih =>
    rcases List.mem_cons.mp e with z | z
    · cases z; exact ⟨C, List.mem_cons_self, R⟩
    · obtain ⟨D, hD, R'⟩ := ih z; exact ⟨D, List.mem_cons_of_mem _ hD, R'⟩
theorem AllO.name (h : AllO P w K mg base k V M tab as) {C : Addr} (e : C ∈ as) : ∃ x f ms, (x, f, ms) ∈ tab ∧ ExO P w K mg base k V M x f ms C := by
  induction h with
  | nil => cases e
  | @cons y g ms' D tab as R h ih =>
    rcases List.mem_cons.mp e with z | z
    · cases z; exact ⟨y, g, ms', List.mem_cons_self, R⟩
    · obtain ⟨x, f, ms, hx, R'⟩ := ih z; exact ⟨x, f, ms, List.mem_cons_of_mem _ hx, R'⟩
/-- two of them at one place are one -/
theorem AllO.one (h : AllO P w K mg base k V M tab as) (nd : as.Nodup) {x f y g : Str} {ms mt : Bool} {C : Addr} (h1 : (x, f, ms) ∈ tab) (h2 : (y, g, mt) ∈ tab) (e1 : mg x = some (.ref C)) (e2 : mg y = some (.ref C)) : x = y := by
  induction h with
  | nil => cases h1
  | @cons z u mz D tab as R h ih =>
    have nd1 := (List.nodup_cons.mp nd).1
    have nd2 := (List.nodup_cons.mp nd).2
    rcases List.mem_cons.mp h1 with a | a <;> rcases List.mem_cons.mp h2 with b | b
    · cases a; cases b; rfl
    · cases a
      obtain ⟨D', hD', R'⟩ := h.at b
      have : D = C := Value.ref.inj (Option.some.inj (R.at_.symm.trans e1))
      have : D' = C := Value.ref.inj (Option.some.inj (R'.at_.symm.trans e2))
      subst_vars
      exact absurd hD' nd1
    · cases b
      obtain ⟨D', hD', R'⟩ := h.at a
      have : D = C := Value.ref.inj (Option.some.inj (R.at_.symm.trans e2))
      have : D' = C := Value.ref.inj (Option.some.inj (R'.at_.symm.trans e1))
      subst_vars
      exact absurd hD' nd1
    · exact ih nd2 a b
end
/-- is an exception of class c (of what isn't there?) one of a -/
def isEx (ms : Bool) (c a : Str) : Bool := if a = "VoteError" ∨ a = "ValueError" then !ms else if a = "Missing" ∨ a = "LookupError" then ms else c == a
def mExc (x f : Str) (me : ME) : ME := fun ρ S => (me ρ S).bind fun d S1 => .ok (.ex x f d) S1
def mFld (tab : List (Str × Str × Bool)) (f : Str) (me : ME) : ME := fun ρ S => (me ρ S).bind fun d S1 => match d with
  | .ex c n d' => if n = f ∧ ((c, f, true) ∈ tab ∨ (c, f, false) ∈ tab) then .ok d' S1 else .bad
  | _ => .bad
def mIsE (tab : List (Str × Str × Bool)) (a : Str) (me : ME) : ME := fun ρ S => (me ρ S).bind fun d S1 => match d with
  | .ex c n d' => if (c, n, true) ∈ tab then .ok (.bl (isEx true c a)) S1 else if (c, n, false) ∈ tab then .ok (.bl (isEx false c a)) S1 else .bad
  | _ => .bad
def rIsO (K : PySem.W.Frag) : List V → Hp → VK → Prop := fun xs H Q => ∃ (a C dd : Addr) (fs : List (Str × V)) (c : V) (cv : Value) (b : Bool), xs = [.ref a, c] ∧ H a = some (exo a C (some dd)) ∧ H dd = some (exd dd fs) ∧ ExcC K C ∧ (∀ u, RelV c u → u = cv) ∧ PySem.W.kitOne K (.ref C) cv = some b ∧ Q (.bl b) H
section
variable {X : Cx}
theorem call_isO : CallR X (.builtin "isinstance") (rIsO X.K) := by
  intro pins s σ H xs us Q I r h
  obtain ⟨a, C, dd, fs, c, cv, b, rfl, ha, hd, EC, hcv, e, q⟩ := h
  cases r with
  | cons rx rr =>
    cases rr with
    | cons rt rr =>
      cases rr
      cases rx
      cases hcv _ rt
      obtain ⟨t1, g⟩ := exo_at I.hok ha
      obtain ⟨mA, hns, hr⟩ := exd_at I.hok hd
      obtain ⟨od, ho, hl⟩ := lookIn_ns hns
      have J : PySem.W.InstAt s.heap a _ C (some od) := ⟨g, rfl, rfl, ho⟩
      obtain ⟨cd, hc, _⟩ := PySem.W.any_some EC.hd
      exact PySem.W.kia_one (PySem.W.kitx_exc (by rw [hc]; rfl) EC.hg EC.hk EC.hs EC.ha EC.hn EC.ht EC.hm) I.kIn J e (fun z => nomatch z) fun tk => ⟨.bl b, H, I.kept (t' := tk) fun _ _ z => z, rfl, q⟩
/-- x.f of such a one -/
def tXo (K : PySem.W.Frag) (f : Str) (te : TE) : TE := fun σ H Q => te σ H fun x H1 => ∃ (a C dd : Addr) (fs : List (Str × V)) (v : V), x = .ref a ∧ XfC K C ∧ PySem.W.findIn K (.ref C) f = some none ∧ H1 a = some (exo a C (some dd)) ∧ H1 dd = some (exd dd fs) ∧ fs.lookup f = some v ∧ Q v H1
theorem pe_xo {e : Expr} {te : TE} {pos : Pos} {f : Str} (he : PE X e te) (hb : attributeBase e f X.env (eval e X.env) = eval e X.env := by rfl) : PE X (.Attribute e f pos) (tXo X.K f te) := by
  refine ⟨fun pins s σ H Q I h => attr_of hb (thn (he.run pins s σ H _ I h) fun u s1 hh => ?_)⟩
  obtain ⟨x, H1, I1, rx, a, C, dd, fs, v, rfl, T, hno, ha, hd, l, q⟩ := hh
  obtain rfl : u = Value.ref a := rx
  obtain ⟨t1, g⟩ := exo_at I1.hok ha
  obtain ⟨mA, hns, hr⟩ := exd_at I1.hok hd
  obtain ⟨od, ho, hl⟩ := lookIn_ns hns
  obtain ⟨u, hu, ru⟩ := RelO.some_of (v := v) (o := mA f) (by rw [← l]; exact hr f)
  have J : PySem.W.InstAt s1.heap a _ C (some od) := ⟨g, rfl, rfl, ho⟩
  exact HandSPX.exc_get I1.kIn J T.ga T.gg T.exC (PySem.W.findObj_own T.hdC hno rfl (by rw [hl, hu])) (handed_of ru) ⟨v, H1, I1.tok _, ru, q⟩
end
section
variable {X : Cx} {e : Expr} {es : List Expr} {me : ME} {p p2 pos pos2 : Pos} {x f a : Str} {k : Nat} {ms : Bool} {tab : List (Str × Str × Bool)}
theorem em_exc (T : ExTab X.prog X.w X.K X.mg X.base k tab) (hin : (x, f, ms) ∈ tab) (hr : Room (k + 1) X.A) (hg : Gl X x) (he : EM X e me)
    (hdb : (x == ("__debug__" : Str)) = false := by decide) (hs : starEach [e] X.env = (false, eval e X.env) :: starEach [] X.env := by rfl) (hpl : (backTo pos (starEach [] X.env)).any (·.1) = false := by rfl) :
    EM X (.Call (.Name x p) [e] [] pos) (mExc x f me) := by
  obtain ⟨V, M, as, hall, nd, hV, hM, _⟩ := T.ex
  obtain ⟨C, hC, R⟩ := hall.at hin
  obtain ⟨fI, fd, ps, h1, h2, h3, h4⟩ := R.ini
  have FB : ∃ B i, ExcBaseFacts B (famNew ms) i (famTail ms) := by
    cases ms
    · exact ⟨_, _, F.excBase_ValueError⟩
    · exact ⟨_, _, F.excBase_LookupError⟩
  obtain ⟨B, i, FB⟩ := FB
  refine PE.of (pe_mkO FB R.ox h1 h2 h3 hr h4 hg R.at_ (am_cons he am_nil hs) hdb hs hpl) fun σ H Q ⟨g, w, o, ρ, S, d, S', s, hm, q⟩ => ?_
  obtain ⟨d1, S1, e1, hm⟩ := Mo.R.bind_ok hm
  cases hm
  refine ⟨g, w, o, ρ, S, [d1], _, s, by rw [aCons_eq, e1]; rfl, fun vs g1 H1 x1 s1 r1 => ?_⟩
  obtain ⟨y, ws, ev, ry, rn⟩ := r1
  cases rn; subst ev
  refine ⟨by simp, fun b hb => ⟨b, y, rfl, upd_same, fun dx hdx hne => ⟨rfl, ?_⟩⟩⟩
  rw [upd_ne hne] at hdx
  have eH : upd (upd (upd H1 b (exo b C none)) dx (exd dx [(f, y)])) b (exo b C (some dx)) = upd (upd H1 dx (exd dx [(f, y)])) b (exo b C (some dx)) := by
    funext c
    by_cases h1 : c = b
    · subst h1; rw [upd_same, upd_same]
    · rw [upd_ne h1, upd_ne h1]
      by_cases h2 : c = dx
      · subst h2; rw [upd_same, upd_same]
      · rw [upd_ne h2, upd_ne h2, upd_ne h1]
  have sx := s.ext x1 s1
  have x2 : Ext g1 H1 g1 (upd H1 dx (exd dx [(f, y)])) := .new hdx
  have hb2 : (upd H1 dx (exd dx [(f, y)])) b = none := by rw [upd_ne (Ne.symm hne)]; exact hb
  have x3 : Ext g1 (upd H1 dx (exd dx [(f, y)])) g1 (upd (upd H1 dx (exd dx [(f, y)])) b (exo b C (some dx))) := .new hb2
  show Q (.ref b) (upd (upd (upd H1 b (exo b C none)) dx (exd dx [(f, y)])) b (exo b C (some dx)))
  rw [eH]
  refine q _ g1 _ (x1.trans (x2.trans x3)) ((s1.new hdx).new hb2) ⟨b, C, dx, y, rfl, R.ns, ⟨s1.noG hb, sx.noF hb, upd_same⟩, ⟨s1.noG hdx, sx.noF hdx, ?_⟩, RelD.ext (x2.trans x3) _ _ ry⟩
  rw [upd_ne hne, upd_same]
theorem em_fld (T : ExTab X.prog X.w X.K X.mg X.base k tab) (hG : ∀ c C, PySem.W.nsIn X.K mainGlobals c = some (some (.ref C)) → X.mg c = some (.ref C)) (he : EM X e me) (hb : attributeBase e f X.env (eval e X.env) = eval e X.env := by rfl) : EM X (.Attribute e f pos) (mFld tab f me) :=
  PE.of (pe_xo he hb) fun σ H Q ⟨g, w, o, ρ, S, d, S', s, hm, q⟩ => by
    obtain ⟨d1, S1, e1, hm2⟩ := Mo.R.bind_ok hm
    split at hm2
    · rename_i c n d'
      split at hm2
      · rename_i hc
        obtain ⟨rfl, hc⟩ := hc
        cases hm2
        refine ⟨g, w, o, ρ, S, _, _, s, e1, fun v g1 H1 x1 s1 r1 => ?_⟩
        obtain ⟨a, C, dd, y, rfl, hn, h1, h2, r⟩ := r1
        obtain ⟨V, M, as, hall, _⟩ := T.ex
        have : ∃ ms, (c, n, ms) ∈ tab := by rcases hc with z | z <;> exact ⟨_, z⟩
        obtain ⟨ms, hin⟩ := this
        obtain ⟨C', _, R⟩ := hall.at hin
        have := R.at_.symm.trans (hG _ _ hn)
        cases this
        exact ⟨a, C, dd, _, y, rfl, R.xf, R.no, h1.2.2, h2.2.2, by simp [List.lookup], q y g1 H1 x1 s1 r⟩
      · cases hm2
    · cases hm2
/-- what isinstance asks: the kit's answer -/
theorem ExTab.kit {P : Program} {w : World} {K : PySem.W.Frag} {mg : Str → Option Value} {base : Heap} {V M : Addr} {as : List Addr} {c n : Str} {ms : Bool} {C A : Addr} (hall : AllO P w K mg base k V M tab as) (nd : (V :: M :: as).Nodup)
    (hin : (c, n, ms) ∈ tab) (R : ExO P w K mg base k V M c n ms C) {m : Str} {mt : Bool} (hin2 : (a, m, mt) ∈ tab) (hA : mg a = some (.ref A)) (hav : ¬ (a = "VoteError" ∨ a = "ValueError")) (ham : ¬ (a = "Missing" ∨ a = "LookupError")) :
    PySem.W.kitOne K (.ref C) (.ref A) = some (isEx ms c a) := by
  obtain ⟨A', hmem, R2⟩ := hall.at hin2
  have := R2.at_.symm.trans hA
  cases this
  obtain ⟨C', hC', R1⟩ := hall.at hin
  have := R1.at_.symm.trans R.at_
  cases this
  have n1 := List.nodup_cons.mp nd
  have n2 := List.nodup_cons.mp n1.2
  have nV : A ≠ V := fun z => n1.1 (List.mem_cons_of_mem _ (z ▸ hmem))
  have nM : A ≠ M := fun z => n2.1 (z ▸ hmem)
  refine kit_ref (by rw [R.sub]; simp) R2.hd R2.ty ?_
  rw [R.sub]
  congr 1
  have ei : isEx ms c a = (c == a) := by unfold isEx; rw [if_neg hav, if_neg ham]
  rw [ei]
  have nF : A ≠ (if ms then M else V) := by cases ms <;> assumption
  have nT : (famTail ms).contains (.ref A) = false := by cases ms <;> rfl
  rw [List.contains_cons, List.contains_cons, nT, Bool.or_false]
  have e2 : (Value.ref A == Value.ref (if ms then M else V)) = false := beq_eq_false_iff_ne.mpr fun z => nF (Value.ref.inj z)
  rw [e2, Bool.or_false]
  by_cases hca : c = a
  · subst hca
    have := R.at_.symm.trans R2.at_
    cases this
    simp
  · have : A ≠ C := fun z => hca (hall.one n2.2 hin hin2 R.at_ (z ▸ R2.at_))
    rw [beq_eq_false_iff_ne.mpr hca]
    exact beq_eq_false_iff_ne.mpr fun z => this (Value.ref.inj z)
end
end Mo
set_option maxRecDepth 100000
set_option maxHeartbeats 2000000
/-! Mo: isinstance of exceptions that are kept; how often a truth stands in a list. -/
namespace Mo
open PySem PySem.Spec PyProof.Rows L2
section
variable {X : Cx} {e e2 : Expr} {es : List Expr} {me : ME} {p p2 pos pos2 : Pos} {x f a : Str} {k : Nat} {ms : Bool} {tab : List (Str × Str × Bool)}
theorem em_isE0 {c0 : V} {cv : Value} (T : ExTab X.prog X.w X.K X.mg X.base k tab) (hG : ∀ c C, PySem.W.nsIn X.K mainGlobals c = some (some (.ref C)) → X.mg c = some (.ref C)) (hu : ∀ u, RelV c0 u → u = cv)
    (hk : ∀ (V M : Addr) (as : List Addr) (c n : Str) (ms : Bool) (C : Addr), AllO X.prog X.w X.K X.mg X.base k V M tab as → (V :: M :: as).Nodup → X.mg "VoteError" = some (.ref V) → X.mg "Missing" = some (.ref M) → PySem.W.hasDictIn X.K V = true → PySem.W.hasDictIn X.K M = true →
      PySem.W.typeIn X.K (.ref V) = some (.type "type") → PySem.W.typeIn X.K (.ref M) = some (.type "type") → (c, n, ms) ∈ tab → C ∈ as → ExO X.prog X.w X.K X.mg X.base k V M c n ms C → PySem.W.kitOne X.K (.ref C) cv = some (isEx ms c a))
    (hg : Gl X "isinstance") (hm0 : X.mg "isinstance" = none) (he : EM X e me) (h2 : EM X e2 (mC (.raw c0)))
    (hb : bootBuiltins "isinstance" = some (.builtin "isinstance") := by decide +kernel)
    (hs1 : starEach [e2] X.env = (false, eval e2 X.env) :: starEach [] X.env := by rfl) (hs : starEach [e, e2] X.env = (false, eval e X.env) :: starEach [e2] X.env := by rfl) (hpl : (backTo pos (starEach [e2] X.env)).any (·.1) = false := by rfl) :
    EM X (.Call (.Name "isinstance" p) [e, e2] [] pos) (mIsE tab a me) :=
  PE.of (pe_callB call_isO hg hm0 hb (am_cons he (am_cons h2 am_nil hs1) hs) (by decide) (by decide) hs hpl) fun σ H Q ⟨g, w, o, ρ, S, d, S', s, hm, q⟩ => by
    obtain ⟨d1, S1, e1, hm2⟩ := Mo.R.bind_ok hm
    have key : ∃ c n d' ms, d1 = .ex c n d' ∧ (c, n, ms) ∈ tab ∧ S1 = S' ∧ d = .bl (isEx ms c a) := by
      split at hm2
      · rename_i c n d'
        split at hm2
        · rename_i hc; cases hm2; exact ⟨c, n, d', true, rfl, hc, rfl, rfl⟩
        · split at hm2
          · rename_i hc; cases hm2; exact ⟨c, n, d', false, rfl, hc, rfl, rfl⟩
          · cases hm2
      · cases hm2
    obtain ⟨c, n, d', ms, rfl, hin, rfl, rfl⟩ := key
    refine ⟨g, w, o, ρ, S, [.ex c n d', .raw c0], _, s, by rw [aCons_eq, e1]; rfl, fun vs g1 H1 x1 s1 r1 => ?_⟩
    obtain ⟨y, ws, rfl, ry, z, us, rfl, rz, rn⟩ := r1
    cases rn
    obtain rfl : z = c0 := rz
    obtain ⟨b, C, dd, y2, rfl, hn, h1, h3, r⟩ := ry
    obtain ⟨V, M, as, hall, nd, q1, q2, q3, q4, q5, q6⟩ := T.ex
    obtain ⟨C', hC', R⟩ := hall.at hin
    have := R.at_.symm.trans (hG _ _ hn)
    cases this
    exact ⟨b, C, dd, _, z, cv, isEx ms c a, rfl, h1.2.2, h3.2.2, R.ec, hu, hk V M as c n ms C hall nd q1 q2 q3 q4 q5 q6 hin hC' R, q _ g1 H1 x1 s1 rfl⟩
/-- .. of an own class -/
theorem em_isO {m : Str} {mt : Bool} (T : ExTab X.prog X.w X.K X.mg X.base k tab) (hG : ∀ c C, PySem.W.nsIn X.K mainGlobals c = some (some (.ref C)) → X.mg c = some (.ref C)) (hin : (a, m, mt) ∈ tab) (hga : Gl X a)
    (hg : Gl X "isinstance") (hm0 : X.mg "isinstance" = none) (he : EM X e me) (hav : ¬ (a = "VoteError" ∨ a = "ValueError") := by decide) (ham : ¬ (a = "Missing" ∨ a = "LookupError") := by decide) (hda : (a == ("__debug__" : Str)) = false := by decide)
    (hb : bootBuiltins "isinstance" = some (.builtin "isinstance") := by decide +kernel)
    (hs1 : starEach [.Name a p2] X.env = (false, eval (.Name a p2) X.env) :: starEach [] X.env := by rfl) (hs : starEach [e, .Name a p2] X.env = (false, eval e X.env) :: starEach [.Name a p2] X.env := by rfl) (hpl : (backTo pos (starEach [.Name a p2] X.env)).any (·.1) = false := by rfl) :
    EM X (.Call (.Name "isinstance" p) [e, .Name a p2] [] pos) (mIsE tab a me) := by
  obtain ⟨V, M, as, hall, _⟩ := T.ex
  obtain ⟨A, hA, RA⟩ := hall.at hin
  exact em_isE0 (c0 := .ref A) (cv := .ref A) T hG (fun u h => h) (fun V' M' as' c n ms C hall' nd _ _ _ _ _ _ hin1 _ R => ExTab.kit hall' nd hin1 R hin RA.at_ hav ham) hg hm0 he (em_c (pe_glob (v := .ref A) hga RA.at_ rfl hda) fun _ _ _ _ => rfl) hb hs1 hs hpl
/-- .. of the family of what can't be done -/
theorem em_isV (T : ExTab X.prog X.w X.K X.mg X.base k tab) (hG : ∀ c C, PySem.W.nsIn X.K mainGlobals c = some (some (.ref C)) → X.mg c = some (.ref C)) (hga : Gl X "VoteError")
    (hg : Gl X "isinstance") (hm0 : X.mg "isinstance" = none) (he : EM X e me) (hb : bootBuiltins "isinstance" = some (.builtin "isinstance") := by decide +kernel)
    (hs1 : starEach [.Name "VoteError" p2] X.env = (false, eval (.Name "VoteError" p2) X.env) :: starEach [] X.env := by rfl) (hs : starEach [e, .Name "VoteError" p2] X.env = (false, eval e X.env) :: starEach [.Name "VoteError" p2] X.env := by rfl) (hpl : (backTo pos (starEach [.Name "VoteError" p2] X.env)).any (·.1) = false := by rfl) :
    EM X (.Call (.Name "isinstance" p) [e, .Name "VoteError" p2] [] pos) (mIsE tab "VoteError" me) := by
  obtain ⟨V, M, as, hall, nd0, hV, hM, _⟩ := T.ex
  refine em_isE0 (c0 := .ref V) (cv := .ref V) T hG (fun u h => h) (fun V' M' as' c n ms C hall' nd e1 e2 e3 e4 e5 e6 hin1 hC R => ?_) hg hm0 he (em_c (pe_glob (v := .ref V) hga hV rfl (by decide)) fun _ _ _ _ => rfl) hb hs1 hs hpl
  rw [hV] at e1; cases e1
  have n1 := (List.nodup_cons.mp nd).1
  refine kit_ref (by rw [R.sub]; simp) e3 e5 ?_
  rw [R.sub]
  congr 1
  have h1 : V ≠ C := fun z => n1 (List.mem_cons_of_mem _ (z ▸ hC))
  have h2 : V ≠ M' := fun z => n1 (z ▸ List.mem_cons_self)
  cases ms <;> simp [isEx, famTail, h1, h2]
/-- .. of what isn't there -/
theorem em_isM (T : ExTab X.prog X.w X.K X.mg X.base k tab) (hG : ∀ c C, PySem.W.nsIn X.K mainGlobals c = some (some (.ref C)) → X.mg c = some (.ref C)) (hga : Gl X "Missing")
    (hg : Gl X "isinstance") (hm0 : X.mg "isinstance" = none) (he : EM X e me) (hb : bootBuiltins "isinstance" = some (.builtin "isinstance") := by decide +kernel)
    (hs1 : starEach [.Name "Missing" p2] X.env = (false, eval (.Name "Missing" p2) X.env) :: starEach [] X.env := by rfl) (hs : starEach [e, .Name "Missing" p2] X.env = (false, eval e X.env) :: starEach [.Name "Missing" p2] X.env := by rfl) (hpl : (backTo pos (starEach [.Name "Missing" p2] X.env)).any (·.1) = false := by rfl) :
    EM X (.Call (.Name "isinstance" p) [e, .Name "Missing" p2] [] pos) (mIsE tab "Missing" me) := by
  obtain ⟨V, M, as, hall, nd0, hV, hM, _⟩ := T.ex
  refine em_isE0 (c0 := .ref M) (cv := .ref M) T hG (fun u h => h) (fun V' M' as' c n ms C hall' nd e1 e2 e3 e4 e5 e6 hin1 hC R => ?_) hg hm0 he (em_c (pe_glob (v := .ref M) hga hM rfl (by decide)) fun _ _ _ _ => rfl) hb hs1 hs hpl
  rw [hM] at e2; cases e2
  have n1 := (List.nodup_cons.mp nd).1
  have n2 := (List.nodup_cons.mp (List.nodup_cons.mp nd).2).1
  refine kit_ref (by rw [R.sub]; simp) e4 e6 ?_
  rw [R.sub]
  congr 1
  have h1 : M ≠ C := fun z => n2 (z ▸ hC)
  have h2 : M ≠ V' := fun z => n1 (z ▸ List.mem_cons_self)
  have i1 : isEx ms c "Missing" = ms := by unfold isEx; rw [if_neg (by decide), if_pos (by decide)]
  rw [i1]
  cases ms <;> simp [famTail, h1, h2]
/-- .. of a built-in family -/
theorem em_isB {b : Str} (T : ExTab X.prog X.w X.K X.mg X.base k tab) (hG : ∀ c C, PySem.W.nsIn X.K mainGlobals c = some (some (.ref C)) → X.mg c = some (.ref C)) {bs : String} (hb2 : (b = "ValueError" ∧ bs = "ValueError") ∨ (b = "LookupError" ∧ bs = "LookupError")) (h2 : EM X (.Name b p2) (mC (.raw (.ty bs))))
    (hg : Gl X "isinstance") (hm0 : X.mg "isinstance" = none) (he : EM X e me) (hb : bootBuiltins "isinstance" = some (.builtin "isinstance") := by decide +kernel)
    (hs1 : starEach [.Name b p2] X.env = (false, eval (.Name b p2) X.env) :: starEach [] X.env := by rfl) (hs : starEach [e, .Name b p2] X.env = (false, eval e X.env) :: starEach [.Name b p2] X.env := by rfl) (hpl : (backTo pos (starEach [.Name b p2] X.env)).any (·.1) = false := by rfl) :
    EM X (.Call (.Name "isinstance" p) [e, .Name b p2] [] pos) (mIsE tab b me) := by
  refine em_isE0 (c0 := .ty bs) (cv := .type bs) T hG (fun u h => h) (fun V' M' as' c n ms C hall' nd e1 e2 e3 e4 e5 e6 hin1 hC R => ?_) hg hm0 he h2 hb hs1 hs hpl
  refine kit_type (by rcases hb2 with ⟨_, rfl⟩ | ⟨_, rfl⟩ <;> decide +kernel) ?_
  rw [R.sub]
  congr 1
  rcases hb2 with ⟨rfl, rfl⟩ | ⟨rfl, rfl⟩
  · have i1 : isEx ms c "ValueError" = !ms := by unfold isEx; rw [if_pos (by decide)]
    rw [i1]
    cases ms <;> rfl
  · have i1 : isEx ms c "LookupError" = ms := by unfold isEx; rw [if_neg (by decide), if_pos (by decide)]
    rw [i1]
    cases ms <;> rfl
/-! ### how often a truth stands in a list -/
def rCntB (K : PySem.W.Frag) : V → List V → Hp → VK → Prop := fun x xs H Q => ∃ (p : Addr) (bs : List Bool) (k : Bool), x = .ref p ∧ xs = [.bl k] ∧ SqL K H p (bs.map V.bl) ∧ Q (.int (bs.count k : Nat)) H
theorem bools_vals : ∀ {bs : List Bool} {its : List Value}, Vals (bs.map V.bl) its → its = bs.map Value.bool
  | [], _, r => by cases r; rfl
  | b :: bs, _, r => by
    cases r with
    | cons h t =>
      cases h
      rw [bools_vals t]
      rfl
theorem countP_bools (k : Bool) : ∀ bs : List Bool, (bs.map Value.bool).countP (isBoolOf k) = bs.count k
  | [] => rfl
  | b :: bs => by
    rw [List.map_cons, List.countP_cons, List.count_cons, countP_bools k bs]
    rfl
theorem mt_lcountB : MtR X "list.count" (rCntB X.K) := by
  intro pins s σ H x xs v us Q I rx rxs h
  obtain ⟨p, bs, k, rfl, rfl, hs, q⟩ := h
  cases rx
  obtain ⟨u, rfl, ru⟩ := rxs.one
  obtain rfl : u = Value.bool k := ru
  obtain ⟨its, rv, ⟨⟨cls, dd, data, sl⟩, n, ho, hc, hdn, hd⟩, hlen⟩ := I.list hs
  simp only at hc hd
  subst hc hd
  have hi := bools_vals rv
  subst hi
  refine call_meets PySem.F.slot_list_count ⟨_, ho, rfl⟩ PySem.F.entry_list_count (PySem.F.args_list_count_2 _ _)
    (SeqAt.list_countAt p _ n dd sl (.bool k) (isBoolOf k)) ⟨ho, fun y hy => ?_, ?_⟩
  · obtain ⟨b, _, rfl⟩ := List.mem_map.mp (show y ∈ bs.map Value.bool by simpa using hy)
    exact SeqAt.EqAt.bool_bool b k
  · refine ⟨.int (bs.count k : Nat), H, I.tok _, ⟨s.toks, ?_⟩, q⟩
    show Value.int (((bs.map Value.bool).toArray.toList.countP (isBoolOf k) : Nat) : Int) s.toks = Value.int ((bs.count k : Nat) : Int) s.toks
    rw [show (bs.map Value.bool).toArray.toList = bs.map Value.bool from rfl, countP_bools]
def boolsD : List D → Option (List Bool)
  | [] => some []
  | .bl b :: r => (boolsD r).map (b :: ·)
  | _ :: _ => none
theorem boolsD_rel {K : PySem.W.Frag} {g f : List Addr} {H : Hp} : ∀ {l : List D} {bs : List Bool} {vs : List V}, boolsD l = some bs → RelDs K g f H l vs → vs = bs.map V.bl
  | [], _, _, h, r => by cases h; cases r; rfl
  | .bl b :: l, bs, vs, h, r => by
    rw [boolsD] at h
    obtain ⟨cs, h1, rfl⟩ := Option.map_eq_some_iff.mp h
    obtain ⟨v, us, rfl, rv, rr⟩ := r
    obtain rfl : v = V.bl b := rv
    rw [boolsD_rel h1 rr]
    rfl
  | .non :: _, _, _, h, _ | .int _ :: _, _, _, h, _ | .str _ :: _, _, _, h, _ | .tup _ :: _, _, _, h, _ | .lst _ :: _, _, _, h, _ | .loc _ :: _, _, _, h, _ | .raw _ :: _, _, _, h, _ | .scr _ :: _, _, _, h, _ | .ex _ _ _ :: _, _, _, h, _ => by cases h
def mCntB (mo me : ME) : ME := fun ρ S => (mo ρ S).bind fun d S1 => (me ρ S1).bind fun k S2 => match d, k with
  | .lst l, .bl b => (match boolsD l with
    | some bs => .ok (.int (bs.count b : Nat)) S2
    | none => .bad)
  | _, _ => .bad
theorem em_cnt {o : Expr} {mo : ME} {apos cpos : Pos} (ho : EM X o mo) (ha : EM X e me) (hbase : attributeBase o "count" X.env (eval o X.env) = eval o X.env := by rfl)
    (hfew : ((backTo cpos (starEach [e] X.env)).all (fun x => !x.1) && (backToKw cpos (keywordEach [] X.env)).all (fun x => x.1.isSome) && decide ([e].length + ([] : List Keyword).length + (if ([] : List Keyword).isEmpty then 0 else 1) < 30)) = true := by rfl)
    (hline : (apos.endLine == cpos.line) = true := by rfl) (hs : starEach [e] X.env = (false, eval e X.env) :: starEach [] X.env := by rfl) (hplain : (backTo cpos (starEach [] X.env)).any (·.1) = false := by rfl) :
    EM X (.Call (.Attribute o "count" apos) [e] [] cpos) (mCntB mo me) :=
  PE.of (pe_bm PySem.F.plainAttrs_list PySem.F.slot_list_count PySem.F.type_list_count mt_lcountB ho (am_cons ha am_nil hs) hbase hfew hline hs hplain) fun σ H Q ⟨g, w, o, ρ, S, d, S', s, hm, q⟩ => by
    obtain ⟨d1, S1, e1, hm2⟩ := Mo.R.bind_ok hm
    obtain ⟨d2, S2, e2, hm3⟩ := Mo.R.bind_ok hm2
    have key : ∃ l b bs, d1 = .lst l ∧ d2 = .bl b ∧ boolsD l = some bs ∧ S2 = S' ∧ d = .int (bs.count b : Nat) := by
      split at hm3
      · rename_i l b
        split at hm3
        · rename_i bs hb; cases hm3; exact ⟨l, b, bs, rfl, rfl, hb, rfl, rfl⟩
        · cases hm3
      · cases hm3
    obtain ⟨l, b, bs, rfl, rfl, hb, rfl, rfl⟩ := key
    refine ⟨g, w, o, ρ, S, _, _, s, e1, fun v g1 H1 x1 s1 r1 => ?_⟩
    obtain ⟨a, vs, rfl, hr, rl⟩ := r1
    have hv := boolsD_rel hb rl
    subst hv
    refine ⟨.inl ⟨rfl, _, hr.sq⟩, g1, w, o, ρ, S1, [.bl b], _, s.ext x1 s1, by rw [aCons_eq, e2]; rfl, fun us g2 H2 x2 s2 r2 => ?_⟩
    obtain ⟨y, ws, rfl, ry, rn⟩ := r2
    cases rn
    obtain rfl : y = V.bl b := ry
    exact ⟨a, bs, b, rfl, rfl, (hr.ext x2).sq, q _ g2 H2 (x1.trans x2) s2 rfl⟩
@[simp] theorem mExc_eq {x f : Str} {me : ME} {ρ : MEnv} {S : Store} : mExc x f me ρ S = (me ρ S).bind fun d S1 => .ok (.ex x f d) S1 := rfl
@[simp] theorem mFld_eq {tab : List (Str × Str × Bool)} {f : Str} {me : ME} {ρ : MEnv} {S : Store} : mFld tab f me ρ S = (me ρ S).bind fun d S1 => match d with
  | .ex c n d' => if n = f ∧ ((c, f, true) ∈ tab ∨ (c, f, false) ∈ tab) then .ok d' S1 else .bad
  | _ => .bad := rfl
@[simp] theorem mIsE_eq {tab : List (Str × Str × Bool)} {a : Str} {me : ME} {ρ : MEnv} {S : Store} : mIsE tab a me ρ S = (me ρ S).bind fun d S1 => match d with
  | .ex c n d' => if (c, n, true) ∈ tab then .ok (.bl (isEx true c a)) S1 else if (c, n, false) ∈ tab then .ok (.bl (isEx false c a)) S1 else .bad
  | _ => .bad := rfl
@[simp] theorem mCntB_eq {mo me : ME} {ρ : MEnv} {S : Store} : mCntB mo me ρ S = (mo ρ S).bind fun d S1 => (me ρ S1).bind fun k S2 => match d, k with
  | .lst l, .bl b => (match boolsD l with
    | some bs => .ok (.int (bs.count b : Nat)) S2
    | none => .bad)
  | _, _ => .bad := rfl
end
end Mo
set_option maxRecDepth 100000
set_option maxHeartbeats 4000000
namespace K34
open PySem PySem.Spec PyProof.Rows L2 Mo

def topS (i : Nat) : Stmt := PySem.Challenge.pw_ridingvotes_k34_refusals_each_alone.main.body.getD i (.Pass ⟨0, 0, 0, 0⟩)
abbrev si_TooMany : Stmt := (clsBody (topS 3)).getD 0 (.Pass ⟨0, 0, 0, 0⟩)
theorem sci_TooMany : FnScope ["self", "many"] ["self", "many"] (defScope si_TooMany) := ⟨rfl, rfl, rfl, by decide +kernel, rfl, by decide +kernel, by decide +kernel⟩
abbrev si_Twice : Stmt := (clsBody (topS 4)).getD 0 (.Pass ⟨0, 0, 0, 0⟩)
theorem sci_Twice : FnScope ["self", "point"] ["self", "point"] (defScope si_Twice) := ⟨rfl, rfl, rfl, by decide +kernel, rfl, by decide +kernel, by decide +kernel⟩
abbrev si_OldBallot : Stmt := (clsBody (topS 5)).getD 0 (.Pass ⟨0, 0, 0, 0⟩)
theorem sci_OldBallot : FnScope ["self", "number"] ["self", "number"] (defScope si_OldBallot) := ⟨rfl, rfl, rfl, by decide +kernel, rfl, by decide +kernel, by decide +kernel⟩
abbrev si_NotMost : Stmt := (clsBody (topS 6)).getD 0 (.Pass ⟨0, 0, 0, 0⟩)
theorem sci_NotMost : FnScope ["self", "name"] ["self", "name"] (defScope si_NotMost) := ⟨rfl, rfl, rfl, by decide +kernel, rfl, by decide +kernel, by decide +kernel⟩
abbrev si_Known : Stmt := (clsBody (topS 7)).getD 0 (.Pass ⟨0, 0, 0, 0⟩)
theorem sci_Known : FnScope ["self", "row"] ["self", "row"] (defScope si_Known) := ⟨rfl, rfl, rfl, by decide +kernel, rfl, by decide +kernel, by decide +kernel⟩
abbrev si_FarRow : Stmt := (clsBody (topS 8)).getD 0 (.Pass ⟨0, 0, 0, 0⟩)
theorem sci_FarRow : FnScope ["self", "row"] ["self", "row"] (defScope si_FarRow) := ⟨rfl, rfl, rfl, by decide +kernel, rfl, by decide +kernel, by decide +kernel⟩
abbrev si_NoLot : Stmt := (clsBody (topS 9)).getD 0 (.Pass ⟨0, 0, 0, 0⟩)
theorem sci_NoLot : FnScope ["self", "thing"] ["self", "thing"] (defScope si_NoLot) := ⟨rfl, rfl, rfl, by decide +kernel, rfl, by decide +kernel, by decide +kernel⟩
abbrev si_NotHeld : Stmt := (clsBody (topS 10)).getD 0 (.Pass ⟨0, 0, 0, 0⟩)
theorem sci_NotHeld : FnScope ["self", "point"] ["self", "point"] (defScope si_NotHeld) := ⟨rfl, rfl, rfl, by decide +kernel, rfl, by decide +kernel, by decide +kernel⟩
abbrev si_Fallen : Stmt := (clsBody (topS 11)).getD 0 (.Pass ⟨0, 0, 0, 0⟩)
theorem sci_Fallen : FnScope ["self", "name"] ["self", "name"] (defScope si_Fallen) := ⟨rfl, rfl, rfl, by decide +kernel, rfl, by decide +kernel, by decide +kernel⟩
abbrev si_Standing : Stmt := (clsBody (topS 12)).getD 0 (.Pass ⟨0, 0, 0, 0⟩)
theorem sci_Standing : FnScope ["self", "name"] ["self", "name"] (defScope si_Standing) := ⟨rfl, rfl, rfl, by decide +kernel, rfl, by decide +kernel, by decide +kernel⟩
abbrev si_NotMine : Stmt := (clsBody (topS 13)).getD 0 (.Pass ⟨0, 0, 0, 0⟩)
theorem sci_NotMine : FnScope ["self", "thing"] ["self", "thing"] (defScope si_NotMine) := ⟨rfl, rfl, rfl, by decide +kernel, rfl, by decide +kernel, by decide +kernel⟩
abbrev si_BadWorld : Stmt := (clsBody (topS 14)).getD 0 (.Pass ⟨0, 0, 0, 0⟩)
theorem sci_BadWorld : FnScope ["self", "thing"] ["self", "thing"] (defScope si_BadWorld) := ⟨rfl, rfl, rfl, by decide +kernel, rfl, by decide +kernel, by decide +kernel⟩
abbrev si_NoDeed : Stmt := (clsBody (topS 15)).getD 0 (.Pass ⟨0, 0, 0, 0⟩)
theorem sci_NoDeed : FnScope ["self", "thing"] ["self", "thing"] (defScope si_NoDeed) := ⟨rfl, rfl, rfl, by decide +kernel, rfl, by decide +kernel, by decide +kernel⟩
abbrev si_NoWord : Stmt := (clsBody (topS 16)).getD 0 (.Pass ⟨0, 0, 0, 0⟩)
theorem sci_NoWord : FnScope ["self", "thing"] ["self", "thing"] (defScope si_NoWord) := ⟨rfl, rfl, rfl, by decide +kernel, rfl, by decide +kernel, by decide +kernel⟩
abbrev si_NoText : Stmt := (clsBody (topS 17)).getD 0 (.Pass ⟨0, 0, 0, 0⟩)
theorem sci_NoText : FnScope ["self", "row"] ["self", "row"] (defScope si_NoText) := ⟨rfl, rfl, rfl, by decide +kernel, rfl, by decide +kernel, by decide +kernel⟩
abbrev si_NoLine : Stmt := (clsBody (topS 18)).getD 0 (.Pass ⟨0, 0, 0, 0⟩)
theorem sci_NoLine : FnScope ["self", "thing"] ["self", "thing"] (defScope si_NoLine) := ⟨rfl, rfl, rfl, by decide +kernel, rfl, by decide +kernel, by decide +kernel⟩
abbrev si_NoHand : Stmt := (clsBody (topS 19)).getD 0 (.Pass ⟨0, 0, 0, 0⟩)
theorem sci_NoHand : FnScope ["self", "thing"] ["self", "thing"] (defScope si_NoHand) := ⟨rfl, rfl, rfl, by decide +kernel, rfl, by decide +kernel, by decide +kernel⟩
abbrev si_NoLetter : Stmt := (clsBody (topS 20)).getD 0 (.Pass ⟨0, 0, 0, 0⟩)
theorem sci_NoLetter : FnScope ["self", "thing"] ["self", "thing"] (defScope si_NoLetter) := ⟨rfl, rfl, rfl, by decide +kernel, rfl, by decide +kernel, by decide +kernel⟩
abbrev si_NoPoint : Stmt := (clsBody (topS 21)).getD 0 (.Pass ⟨0, 0, 0, 0⟩)
theorem sci_NoPoint : FnScope ["self", "point"] ["self", "point"] (defScope si_NoPoint) := ⟨rfl, rfl, rfl, by decide +kernel, rfl, by decide +kernel, by decide +kernel⟩
abbrev exTab : List (Str × Str × Bool) := [("TooMany", "many", false), ("Twice", "point", false), ("OldBallot", "number", false), ("NotMost", "name", false), ("Known", "row", false), ("FarRow", "row", false), ("NoLot", "thing", false), ("NotHeld", "point", false), ("Fallen", "name", false), ("Standing", "name", false), ("NotMine", "thing", false), ("BadWorld", "thing", false), ("NoDeed", "thing", false), ("NoWord", "thing", false), ("NoText", "row", false), ("NoLine", "thing", false), ("NoHand", "thing", true), ("NoLetter", "thing", true), ("NoPoint", "point", true)]
/-! law_made -/
abbrev s_l_made : Stmt := topS 27
abbrev n_l_made : List Str := ["_law_some"]
theorem sc_l_made : FnScope n_l_made ["_law_some"] (defScope s_l_made) := ⟨rfl, rfl, rfl, by decide +kernel, rfl, by decide +kernel, by decide +kernel⟩
def b_l_made : MS :=
    (mRet (mLst (mDisp (aCons (mExc "TooMany" "many" (m2 gIx (mVar 0) (mC (.int 0)))) (aCons (mExc "Twice" "point" (m2 gIx (mVar 0) (mC (.int 1)))) (aCons (mExc "OldBallot" "number" (m2 gIx (mVar 0) (mC (.int 2)))) (aCons (mExc "NotMost" "name" (m2 gIx (mVar 0) (mC (.int 3)))) (aCons (mExc "Known" "row" (m2 gIx (mVar 0) (mC (.int 4)))) (aCons (mExc "FarRow" "row" (m2 gIx (mVar 0) (mC (.int 5)))) (aCons (mExc "NoLot" "thing" (m2 gIx (mVar 0) (mC (.int 6)))) (aCons (mExc "NotHeld" "point" (m2 gIx (mVar 0) (mC (.int 7)))) (aCons (mExc "Fallen" "name" (m2 gIx (mVar 0) (mC (.int 8)))) (aCons (mExc "Standing" "name" (m2 gIx (mVar 0) (mC (.int 9)))) (aCons (mExc "NotMine" "thing" (m2 gIx (mVar 0) (mC (.int 10)))) (aCons (mExc "BadWorld" "thing" (m2 gIx (mVar 0) (mC (.int 11)))) (aCons (mExc "NoDeed" "thing" (m2 gIx (mVar 0) (mC (.int 12)))) (aCons (mExc "NoWord" "thing" (m2 gIx (mVar 0) (mC (.int 13)))) (aCons (mExc "NoText" "row" (m2 gIx (mVar 0) (mC (.int 14)))) (aCons (mExc "NoLine" "thing" (m2 gIx (mVar 0) (mC (.int 15)))) (aCons (mExc "NoHand" "thing" (m2 gIx (mVar 0) (mC (.int 16)))) (aCons (mExc "NoLetter" "thing" (m2 gIx (mVar 0) (mC (.int 17)))) (aCons (mExc "NoPoint" "point" (m2 gIx (mVar 0) (mC (.int 18)))) aNil))))))))))))))))))))))
def m_l_made : MF := mDef 1 b_l_made
theorem ok_l_made {P : Program} {w : World} {K : PySem.W.Frag} {mg : Str → Option Value} {base : Heap} {a : Addr} {fd : FuncData} (F : Fun K "_law_made" "_law_made" s_l_made a fd) (T_E : ExTab P w K mg base 1 exTab) (hG : ∀ (c : Str) (C : Addr), PySem.W.nsIn K mainGlobals c = some (some (.ref C)) → mg c = some (.ref C)) :
    FnG P w K mg base CX0 3 a fd ["_law_some"] (spM K 1 (m_l_made)) := by
  refine def_ok F sc_l_made ?_
  intro cdv A out s H E hgd hr
  exact ((ssm_one (sm_ret (em_new (nm_lst (am_cons (em_exc (ms := false) T_E (by decide +kernel) (hr.mono (by decide)) (by rfl) (em_ix ix_seq od_ix (em_var (pv 0)) em_int (fun _ _ => rfl))) (am_cons (em_exc (ms := false) T_E (by decide +kernel) (hr.mono (by decide)) (by rfl) (em_ix ix_seq od_ix (em_var (pv 0)) em_int (fun _ _ => rfl))) (am_cons (em_exc (ms := false) T_E (by decide +kernel) (hr.mono (by decide)) (by rfl) (em_ix ix_seq od_ix (em_var (pv 0)) em_int (fun _ _ => rfl))) (am_cons (em_exc (ms := false) T_E (by decide +kernel) (hr.mono (by decide)) (by rfl) (em_ix ix_seq od_ix (em_var (pv 0)) em_int (fun _ _ => rfl))) (am_cons (em_exc (ms := false) T_E (by decide +kernel) (hr.mono (by decide)) (by rfl) (em_ix ix_seq od_ix (em_var (pv 0)) em_int (fun _ _ => rfl))) (am_cons (em_exc (ms := false) T_E (by decide +kernel) (hr.mono (by decide)) (by rfl) (em_ix ix_seq od_ix (em_var (pv 0)) em_int (fun _ _ => rfl))) (am_cons (em_exc (ms := false) T_E (by decide +kernel) (hr.mono (by decide)) (by rfl) (em_ix ix_seq od_ix (em_var (pv 0)) em_int (fun _ _ => rfl))) (am_cons (em_exc (ms := false) T_E (by decide +kernel) (hr.mono (by decide)) (by rfl) (em_ix ix_seq od_ix (em_var (pv 0)) em_int (fun _ _ => rfl))) (am_cons (em_exc (ms := false) T_E (by decide +kernel) (hr.mono (by decide)) (by rfl) (em_ix ix_seq od_ix (em_var (pv 0)) em_int (fun _ _ => rfl))) (am_cons (em_exc (ms := false) T_E (by decide +kernel) (hr.mono (by decide)) (by rfl) (em_ix ix_seq od_ix (em_var (pv 0)) em_int (fun _ _ => rfl))) (am_cons (em_exc (ms := false) T_E (by decide +kernel) (hr.mono (by decide)) (by rfl) (em_ix ix_seq od_ix (em_var (pv 0)) em_int (fun _ _ => rfl))) (am_cons (em_exc (ms := false) T_E (by decide +kernel) (hr.mono (by decide)) (by rfl) (em_ix ix_seq od_ix (em_var (pv 0)) em_int (fun _ _ => rfl))) (am_cons (em_exc (ms := false) T_E (by decide +kernel) (hr.mono (by decide)) (by rfl) (em_ix ix_seq od_ix (em_var (pv 0)) em_int (fun _ _ => rfl))) (am_cons (em_exc (ms := false) T_E (by decide +kernel) (hr.mono (by decide)) (by rfl) (em_ix ix_seq od_ix (em_var (pv 0)) em_int (fun _ _ => rfl))) (am_cons (em_exc (ms := false) T_E (by decide +kernel) (hr.mono (by decide)) (by rfl) (em_ix ix_seq od_ix (em_var (pv 0)) em_int (fun _ _ => rfl))) (am_cons (em_exc (ms := false) T_E (by decide +kernel) (hr.mono (by decide)) (by rfl) (em_ix ix_seq od_ix (em_var (pv 0)) em_int (fun _ _ => rfl))) (am_cons (em_exc (ms := true) T_E (by decide +kernel) (hr.mono (by decide)) (by rfl) (em_ix ix_seq od_ix (em_var (pv 0)) em_int (fun _ _ => rfl))) (am_cons (em_exc (ms := true) T_E (by decide +kernel) (hr.mono (by decide)) (by rfl) (em_ix ix_seq od_ix (em_var (pv 0)) em_int (fun _ _ => rfl))) (am_cons (em_exc (ms := true) T_E (by decide +kernel) (hr.mono (by decide)) (by rfl) (em_ix ix_seq od_ix (em_var (pv 0)) em_int (fun _ _ => rfl))) am_nil))))))))))))))))))))))))

/-! law_take -/
abbrev s_l_take : Stmt := topS 24
abbrev n_l_take : List Str := ["_law_urn_here", "_law_many", "_law_digit", "_law_mixed"]
theorem sc_l_take : FnScope n_l_take ["_law_urn_here", "_law_many"] (defScope s_l_take) := ⟨rfl, rfl, rfl, by decide +kernel, rfl, by decide +kernel, by decide +kernel⟩
def b_l_take : MS :=
    (mSeq (mIf (mB (m2 gGt (m2 gIx (mVar 0) (mC (.int 0))) (mC (.int 0)))) (mSeq (mSet 2 (m2 gModI (m2 gIx (mVar 0) (mC (.int 0))) (mVar 1)))
    (mSeq (mSetC (mVar 0) (mC (.int 0)) (m2 gDivI (m2 gIx (mVar 0) (mC (.int 0))) (mVar 1)))
    (mRet (mVar 2)))) mNil)
    (mSeq (mSetC (mVar 0) (mC (.int 2)) (m2 gAddI (m2 gIx (mVar 0) (mC (.int 2))) (mC (.int 1))))
    (mSeq (mSet 3 (m2 gModI (m2 gMulI (m2 gAddI (m2 gAddI (m2 gIx (mVar 0) (mC (.int 1))) (m2 gMulI (m2 gMulI (mC (.int 7368787)) (m2 gIx (mVar 0) (mC (.int 2)))) (m2 gIx (mVar 0) (mC (.int 2))))) (mC (.int 13))) (mC (.int 40692))) (mC (.int 2305843009213693921))))
    (mSeq (mSet 3 (m2 gModI (m2 gMulI (mVar 3) (m2 gAddI (m2 gModI (mVar 3) (mC (.int 999983))) (m2 gMulI (mC (.int 15485863)) (m2 gIx (mVar 0) (mC (.int 2)))))) (mC (.int 2305843009213693951))))
    (mRet (m2 gModI (m2 gAddI (m2 gDivI (mVar 3) (mC (.int 89))) (m2 gDivI (mVar 3) (mC (.int 1000003)))) (mVar 1)))))))
def m_l_take : MF := mDef 4 b_l_take
theorem ok_l_take {P : Program} {w : World} {K : PySem.W.Frag} {mg : Str → Option Value} {base : Heap} {a : Addr} {fd : FuncData} (F : Fun K "_law_take" "_law_take" s_l_take a fd) :
    FnG P w K mg base CX0 1 a fd ["_law_urn_here", "_law_many"] (spM K 2 (m_l_take)) := by
  refine def_ok F sc_l_take ?_
  intro cdv A out s H E hgd hr
  exact ((ssm_cons (sm_if (tm_cmp op_gt od_gt (em_ix ix_seq od_ix (em_var (pv 0)) em_int (fun _ _ => rfl)) em_int (nomark _)) (ssm_cons (sm_set (ps_set (i := 2) sc_l_take.nd rfl (Or.inl rfl) (em_op op_mod od_mod (em_ix ix_seq od_ix (em_var (pv 0)) em_int (fun _ _ => rfl)) (em_var (pv 1)))))
    (ssm_cons (sm_setC (ps_asg (em_op op_fdivW od_div (em_ix ix_seq od_ix (em_var (pv 0)) em_int (fun _ _ => rfl)) (em_var (pv 1))) (pg_sub (em_var (pv 0)) em_int set_list)))
    (ssm_one (sm_ret (em_var (pv 2)))))) ssm_nil)
    (ssm_cons (sm_setC (ps_asg (em_op op_add od_add (em_ix ix_seq od_ix (em_var (pv 0)) em_int (fun _ _ => rfl)) em_int) (pg_sub (em_var (pv 0)) em_int set_list)))
    (ssm_cons (sm_set (ps_set (i := 3) sc_l_take.nd rfl (Or.inl rfl) (em_op op_mod od_mod (em_op op_mulW od_mul (em_op op_add od_add (em_op op_add od_add (em_ix ix_seq od_ix (em_var (pv 0)) em_int (fun _ _ => rfl)) (em_op op_mulW od_mul (em_op op_mulW od_mul em_int (em_ix ix_seq od_ix (em_var (pv 0)) em_int (fun _ _ => rfl))) (em_ix ix_seq od_ix (em_var (pv 0)) em_int (fun _ _ => rfl)))) em_int) em_int) em_int)))
    (ssm_cons (sm_set (ps_set (i := 3) sc_l_take.nd rfl (Or.inl rfl) (em_op op_mod od_mod (em_op op_mulW od_mul (em_var (pv 3)) (em_op op_add od_add (em_op op_mod od_mod (em_var (pv 3)) em_int) (em_op op_mulW od_mul em_int (em_ix ix_seq od_ix (em_var (pv 0)) em_int (fun _ _ => rfl))))) em_int)))
    (ssm_one (sm_ret (em_op op_mod od_mod (em_op op_add od_add (em_op op_fdivW od_div (em_var (pv 3)) em_int) (em_op op_fdivW od_div (em_var (pv 3)) em_int)) (em_var (pv 1))))))))))

/-! law_of -/
abbrev s_l_of : Stmt := topS 25
abbrev n_l_of : List Str := ["_law_urn_here", "_law_some"]
theorem sc_l_of : FnScope n_l_of ["_law_urn_here", "_law_some"] (defScope s_l_of) := ⟨rfl, rfl, rfl, by decide +kernel, rfl, by decide +kernel, by decide +kernel⟩
def b_l_of : MS :=
    (mRet (m2 gIx (mVar 1) (mCall m_l_take 2 [] (aCons (mVar 0) (aCons (mB1 gLen (mVar 1)) aNil)))))
def m_l_of : MF := mDef 2 b_l_of
theorem ok_l_of {P : Program} {w : World} {K : PySem.W.Frag} {mg : Str → Option Value} {base : Heap} {a : Addr} {fd : FuncData} (F : Fun K "_law_of" "_law_of" s_l_of a fd) {a_l_take : Addr} {fd_l_take : FuncData} (C_l_take : Own P w K mg base 1 2 "_law_take" ["_law_urn_here", "_law_many"] a_l_take fd_l_take m_l_take) (B_l_take : Binds K fd_l_take ["_law_urn_here", "_law_many"] []) (z_len : mg "len" = none) :
    FnG P w K mg base CX0 2 a fd ["_law_urn_here", "_law_some"] (spM K 2 (m_l_of)) := by
  refine def_ok F sc_l_of ?_
  intro cdv A out s H E hgd hr
  exact ((ssm_one (sm_ret (em_ix ix_seq od_ix (em_var (pv 1)) (em_own C_l_take B_l_take hgd (hr.mono (by decide)) (by rfl) (am_cons (em_var (pv 0)) (am_cons (em_lenV (em_var (pv 1)) (by rfl) z_len) am_nil))) (fun _ _ => rfl)))))

/-! law_thing -/
abbrev s_l_thing : Stmt := topS 29
abbrev n_l_thing : List Str := ["_law_urn_here", "_law_some"]
theorem sc_l_thing : FnScope n_l_thing ["_law_urn_here"] (defScope s_l_thing) := ⟨rfl, rfl, rfl, by decide +kernel, rfl, by decide +kernel, by decide +kernel⟩
def b_l_thing : MS :=
    (mSeq (mSet 1 (mLst (mDisp (aCons (mC .non) (aCons (mC (.bl true)) (aCons (mC (.bl false)) (aCons (mC (.str "")) (aCons (mC (.str "0")) (aCons (mTup aNil) (aCons (mLst (mDisp aNil)) (aCons mDNewK (aCons (mTup (aCons (mC (.int 0)) aNil)) (aCons (mLst (mDisp (aCons (mC (.int 0)) aNil))) (aCons (mB1 gNeg (mC (.int 1))) (aCons (mC (.int 0)) (aCons (mC (.int 7)) (aCons (mC (.str "ask")) (aCons (mTup (aCons (mC (.int 1)) (aCons (mC (.int 0)) aNil))) (aCons (mDDisp [(.inr "a", (mC (.int 1)))]) (aCons (m2 gPowW (mC (.int 10)) (mC (.int 11))) aNil))))))))))))))))))))
    (mRet (mCall m_l_of 2 [] (aCons (mVar 0) (aCons (mVar 1) aNil)))))
def m_l_thing : MF := mDef 2 b_l_thing
theorem ok_l_thing {P : Program} {w : World} {K : PySem.W.Frag} {mg : Str → Option Value} {base : Heap} {a : Addr} {fd : FuncData} (F : Fun K "_law_thing" "_law_thing" s_l_thing a fd) {a_l_of : Addr} {fd_l_of : FuncData} (C_l_of : Own P w K mg base 2 2 "_law_of" ["_law_urn_here", "_law_some"] a_l_of fd_l_of m_l_of) (B_l_of : Binds K fd_l_of ["_law_urn_here", "_law_some"] []) :
    FnG P w K mg base CX0 3 a fd ["_law_urn_here"] (spM K 1 (m_l_thing)) := by
  refine def_ok F sc_l_thing ?_
  intro cdv A out s H E hgd hr
  exact ((ssm_cons (sm_set (ps_set (i := 1) sc_l_thing.nd rfl (Or.inl rfl) (em_new (nm_lst (am_cons em_non (am_cons em_bl (am_cons em_bl (am_cons em_str (am_cons em_str (am_cons (em_tup am_nil) (am_cons (em_new (nm_lst am_nil)) (am_cons em_dnewK (am_cons (em_tup (am_cons em_int am_nil)) (am_cons (em_new (nm_lst (am_cons em_int am_nil))) (am_cons (em_neg em_int) (am_cons em_int (am_cons em_int (am_cons em_str (am_cons (em_tup (am_cons em_int (am_cons em_int am_nil))) (am_cons (em_ddisp (DE.str em_int DE.nil) rfl rfl (fun h => nomatch h) (by decide) (by decide)) (am_cons (em_op op_powW od_powW em_int em_int) am_nil)))))))))))))))))))))
    (ssm_one (sm_ret (em_own C_l_of B_l_of hgd (hr.mono (by decide)) (by rfl) (am_cons (em_var (pv 0)) (am_cons (em_var (pv 1)) am_nil)))))))

/-! law_marks -/
abbrev s_l_marks : Stmt := topS 26
abbrev n_l_marks : List Str := ["_law_e", "_law_found"]
theorem sc_l_marks : FnScope n_l_marks ["_law_e"] (defScope s_l_marks) := ⟨rfl, rfl, rfl, by decide +kernel, rfl, by decide +kernel, by decide +kernel⟩
def b_l_marks : MS :=
    (mSeq (mSet 1 (mLst (mDisp (aCons (mIsE exTab "TooMany" (mVar 0)) (aCons (mIsE exTab "Twice" (mVar 0)) (aCons (mIsE exTab "OldBallot" (mVar 0)) (aCons (mIsE exTab "NotMost" (mVar 0)) (aCons (mIsE exTab "Known" (mVar 0)) (aCons (mIsE exTab "FarRow" (mVar 0)) (aCons (mIsE exTab "NoLot" (mVar 0)) (aCons (mIsE exTab "NotHeld" (mVar 0)) (aCons (mIsE exTab "Fallen" (mVar 0)) (aCons (mIsE exTab "Standing" (mVar 0)) (aCons (mIsE exTab "NotMine" (mVar 0)) (aCons (mIsE exTab "BadWorld" (mVar 0)) (aCons (mIsE exTab "NoDeed" (mVar 0)) (aCons (mIsE exTab "NoWord" (mVar 0)) (aCons (mIsE exTab "NoText" (mVar 0)) (aCons (mIsE exTab "NoLine" (mVar 0)) (aCons (mIsE exTab "NoHand" (mVar 0)) (aCons (mIsE exTab "NoLetter" (mVar 0)) (aCons (mIsE exTab "NoPoint" (mVar 0)) aNil))))))))))))))))))))))
    (mRet (mVar 1)))
def m_l_marks : MF := mDef 2 b_l_marks
theorem ok_l_marks {P : Program} {w : World} {K : PySem.W.Frag} {mg : Str → Option Value} {base : Heap} {a : Addr} {fd : FuncData} (F : Fun K "_law_marks" "_law_marks" s_l_marks a fd) (T_E : ExTab P w K mg base 1 exTab) (hG : ∀ (c : Str) (C : Addr), PySem.W.nsIn K mainGlobals c = some (some (.ref C)) → mg c = some (.ref C)) (z_isinstance : mg "isinstance" = none) :
    FnG P w K mg base CX0 3 a fd ["_law_e"] (spM K 1 (m_l_marks)) := by
  refine def_ok F sc_l_marks ?_
  intro cdv A out s H E hgd hr
  exact ((ssm_cons (sm_set (ps_set (i := 1) sc_l_marks.nd rfl (Or.inl rfl) (em_new (nm_lst (am_cons (em_isO (m := "many") (mt := false) T_E hG (by decide +kernel) (by rfl) (by rfl) z_isinstance (em_var (pv 0))) (am_cons (em_isO (m := "point") (mt := false) T_E hG (by decide +kernel) (by rfl) (by rfl) z_isinstance (em_var (pv 0))) (am_cons (em_isO (m := "number") (mt := false) T_E hG (by decide +kernel) (by rfl) (by rfl) z_isinstance (em_var (pv 0))) (am_cons (em_isO (m := "name") (mt := false) T_E hG (by decide +kernel) (by rfl) (by rfl) z_isinstance (em_var (pv 0))) (am_cons (em_isO (m := "row") (mt := false) T_E hG (by decide +kernel) (by rfl) (by rfl) z_isinstance (em_var (pv 0))) (am_cons (em_isO (m := "row") (mt := false) T_E hG (by decide +kernel) (by rfl) (by rfl) z_isinstance (em_var (pv 0))) (am_cons (em_isO (m := "thing") (mt := false) T_E hG (by decide +kernel) (by rfl) (by rfl) z_isinstance (em_var (pv 0))) (am_cons (em_isO (m := "point") (mt := false) T_E hG (by decide +kernel) (by rfl) (by rfl) z_isinstance (em_var (pv 0))) (am_cons (em_isO (m := "name") (mt := false) T_E hG (by decide +kernel) (by rfl) (by rfl) z_isinstance (em_var (pv 0))) (am_cons (em_isO (m := "name") (mt := false) T_E hG (by decide +kernel) (by rfl) (by rfl) z_isinstance (em_var (pv 0))) (am_cons (em_isO (m := "thing") (mt := false) T_E hG (by decide +kernel) (by rfl) (by rfl) z_isinstance (em_var (pv 0))) (am_cons (em_isO (m := "thing") (mt := false) T_E hG (by decide +kernel) (by rfl) (by rfl) z_isinstance (em_var (pv 0))) (am_cons (em_isO (m := "thing") (mt := false) T_E hG (by decide +kernel) (by rfl) (by rfl) z_isinstance (em_var (pv 0))) (am_cons (em_isO (m := "thing") (mt := false) T_E hG (by decide +kernel) (by rfl) (by rfl) z_isinstance (em_var (pv 0))) (am_cons (em_isO (m := "row") (mt := false) T_E hG (by decide +kernel) (by rfl) (by rfl) z_isinstance (em_var (pv 0))) (am_cons (em_isO (m := "thing") (mt := false) T_E hG (by decide +kernel) (by rfl) (by rfl) z_isinstance (em_var (pv 0))) (am_cons (em_isO (m := "thing") (mt := true) T_E hG (by decide +kernel) (by rfl) (by rfl) z_isinstance (em_var (pv 0))) (am_cons (em_isO (m := "thing") (mt := true) T_E hG (by decide +kernel) (by rfl) (by rfl) z_isinstance (em_var (pv 0))) (am_cons (em_isO (m := "point") (mt := true) T_E hG (by decide +kernel) (by rfl) (by rfl) z_isinstance (em_var (pv 0))) am_nil)))))))))))))))))))))))
    (ssm_one (sm_ret (em_var (pv 1))))))

/-! law_values -/
abbrev s_l_values : Stmt := topS 28
abbrev n_l_values : List Str := ["_law_made_here"]
theorem sc_l_values : FnScope n_l_values ["_law_made_here"] (defScope s_l_values) := ⟨rfl, rfl, rfl, by decide +kernel, rfl, by decide +kernel, by decide +kernel⟩
def b_l_values : MS :=
    (mRet (mLst (mDisp (aCons (mFld exTab "many" (m2 gIx (mVar 0) (mC (.int 0)))) (aCons (mFld exTab "point" (m2 gIx (mVar 0) (mC (.int 1)))) (aCons (mFld exTab "number" (m2 gIx (mVar 0) (mC (.int 2)))) (aCons (mFld exTab "name" (m2 gIx (mVar 0) (mC (.int 3)))) (aCons (mFld exTab "row" (m2 gIx (mVar 0) (mC (.int 4)))) (aCons (mFld exTab "row" (m2 gIx (mVar 0) (mC (.int 5)))) (aCons (mFld exTab "thing" (m2 gIx (mVar 0) (mC (.int 6)))) (aCons (mFld exTab "point" (m2 gIx (mVar 0) (mC (.int 7)))) (aCons (mFld exTab "name" (m2 gIx (mVar 0) (mC (.int 8)))) (aCons (mFld exTab "name" (m2 gIx (mVar 0) (mC (.int 9)))) (aCons (mFld exTab "thing" (m2 gIx (mVar 0) (mC (.int 10)))) (aCons (mFld exTab "thing" (m2 gIx (mVar 0) (mC (.int 11)))) (aCons (mFld exTab "thing" (m2 gIx (mVar 0) (mC (.int 12)))) (aCons (mFld exTab "thing" (m2 gIx (mVar 0) (mC (.int 13)))) (aCons (mFld exTab "row" (m2 gIx (mVar 0) (mC (.int 14)))) (aCons (mFld exTab "thing" (m2 gIx (mVar 0) (mC (.int 15)))) (aCons (mFld exTab "thing" (m2 gIx (mVar 0) (mC (.int 16)))) (aCons (mFld exTab "thing" (m2 gIx (mVar 0) (mC (.int 17)))) (aCons (mFld exTab "point" (m2 gIx (mVar 0) (mC (.int 18)))) aNil))))))))))))))))))))))
def m_l_values : MF := mDef 1 b_l_values
theorem ok_l_values {P : Program} {w : World} {K : PySem.W.Frag} {mg : Str → Option Value} {base : Heap} {a : Addr} {fd : FuncData} (F : Fun K "_law_values" "_law_values" s_l_values a fd) (T_E : ExTab P w K mg base 1 exTab) (hG : ∀ (c : Str) (C : Addr), PySem.W.nsIn K mainGlobals c = some (some (.ref C)) → mg c = some (.ref C)) :
    FnG P w K mg base CX0 3 a fd ["_law_made_here"] (spM K 1 (m_l_values)) := by
  refine def_ok F sc_l_values ?_
  intro cdv A out s H E hgd hr
  exact ((ssm_one (sm_ret (em_new (nm_lst (am_cons (em_fld T_E hG (em_ix ix_seq od_ix (em_var (pv 0)) em_int (fun _ _ => rfl)) (by rfl)) (am_cons (em_fld T_E hG (em_ix ix_seq od_ix (em_var (pv 0)) em_int (fun _ _ => rfl)) (by rfl)) (am_cons (em_fld T_E hG (em_ix ix_seq od_ix (em_var (pv 0)) em_int (fun _ _ => rfl)) (by rfl)) (am_cons (em_fld T_E hG (em_ix ix_seq od_ix (em_var (pv 0)) em_int (fun _ _ => rfl)) (by rfl)) (am_cons (em_fld T_E hG (em_ix ix_seq od_ix (em_var (pv 0)) em_int (fun _ _ => rfl)) (by rfl)) (am_cons (em_fld T_E hG (em_ix ix_seq od_ix (em_var (pv 0)) em_int (fun _ _ => rfl)) (by rfl)) (am_cons (em_fld T_E hG (em_ix ix_seq od_ix (em_var (pv 0)) em_int (fun _ _ => rfl)) (by rfl)) (am_cons (em_fld T_E hG (em_ix ix_seq od_ix (em_var (pv 0)) em_int (fun _ _ => rfl)) (by rfl)) (am_cons (em_fld T_E hG (em_ix ix_seq od_ix (em_var (pv 0)) em_int (fun _ _ => rfl)) (by rfl)) (am_cons (em_fld T_E hG (em_ix ix_seq od_ix (em_var (pv 0)) em_int (fun _ _ => rfl)) (by rfl)) (am_cons (em_fld T_E hG (em_ix ix_seq od_ix (em_var (pv 0)) em_int (fun _ _ => rfl)) (by rfl)) (am_cons (em_fld T_E hG (em_ix ix_seq od_ix (em_var (pv 0)) em_int (fun _ _ => rfl)) (by rfl)) (am_cons (em_fld T_E hG (em_ix ix_seq od_ix (em_var (pv 0)) em_int (fun _ _ => rfl)) (by rfl)) (am_cons (em_fld T_E hG (em_ix ix_seq od_ix (em_var (pv 0)) em_int (fun _ _ => rfl)) (by rfl)) (am_cons (em_fld T_E hG (em_ix ix_seq od_ix (em_var (pv 0)) em_int (fun _ _ => rfl)) (by rfl)) (am_cons (em_fld T_E hG (em_ix ix_seq od_ix (em_var (pv 0)) em_int (fun _ _ => rfl)) (by rfl)) (am_cons (em_fld T_E hG (em_ix ix_seq od_ix (em_var (pv 0)) em_int (fun _ _ => rfl)) (by rfl)) (am_cons (em_fld T_E hG (em_ix ix_seq od_ix (em_var (pv 0)) em_int (fun _ _ => rfl)) (by rfl)) (am_cons (em_fld T_E hG (em_ix ix_seq od_ix (em_var (pv 0)) em_int (fun _ _ => rfl)) (by rfl)) am_nil))))))))))))))))))))))))

/-! law_family_right -/
abbrev s_l_family_right : Stmt := topS 30
abbrev n_l_family_right : List Str := ["_law_e", "_law_k", "_law_is_missing"]
theorem sc_l_family_right : FnScope n_l_family_right ["_law_e", "_law_k"] (defScope s_l_family_right) := ⟨rfl, rfl, rfl, by decide +kernel, rfl, by decide +kernel, by decide +kernel⟩
def b_l_family_right : MS :=
    (mSeq (mSet 2 (m2 gGe (mVar 1) (mC (.int 16))))
    (mSeq (mIf (mOrT (mB (m2 gEqA (mIsE exTab "VoteError" (mVar 0)) (mVar 2))) (mB (m2 gEqA (mIsE exTab "ValueError" (mVar 0)) (mVar 2)))) (mRet (mC (.bl false))) mNil)
    (mRet (mAnd (m2 gEqA (mIsE exTab "Missing" (mVar 0)) (mVar 2)) (m2 gEqA (mIsE exTab "LookupError" (mVar 0)) (mVar 2))))))
def m_l_family_right : MF := mDef 3 b_l_family_right
theorem ok_l_family_right {P : Program} {w : World} {K : PySem.W.Frag} {mg : Str → Option Value} {base : Heap} {a : Addr} {fd : FuncData} (F : Fun K "_law_family_right" "_law_family_right" s_l_family_right a fd) (T_E : ExTab P w K mg base 1 exTab) (hG : ∀ (c : Str) (C : Addr), PySem.W.nsIn K mainGlobals c = some (some (.ref C)) → mg c = some (.ref C)) (z_LookupError : mg "LookupError" = none) (z_ValueError : mg "ValueError" = none) (z_isinstance : mg "isinstance" = none) :
    FnG P w K mg base CX0 3 a fd ["_law_e", "_law_k"] (spM K 2 (m_l_family_right)) := by
  refine def_ok F sc_l_family_right ?_
  intro cdv A out s H E hgd hr
  exact ((ssm_cons (sm_set (ps_set (i := 2) sc_l_family_right.nd rfl (Or.inl rfl) (em_cmp op_ge od_ge (em_var (pv 1)) em_int (nomark _))))
    (ssm_cons (sm_if (WM.tm (wm_or (tm_cmp (op_eqA hr.units) od_eqA (em_isV T_E hG (by rfl) (by rfl) z_isinstance (em_var (pv 0))) (em_var (pv 2)) (nomark _)) (wm_or1 (tm_cmp (op_eqA hr.units) od_eqA (em_isB T_E hG (.inl ⟨rfl, rfl⟩) (em_ty (by rfl) z_ValueError (by decide +kernel)) (by rfl) z_isinstance (em_var (pv 0))) (em_var (pv 2)) (nomark _))))) (ssm_one (sm_ret em_bl)) ssm_nil)
    (ssm_one (sm_ret (em_and (em_cmp (op_eqA hr.units) od_eqA (em_isM T_E hG (by rfl) (by rfl) z_isinstance (em_var (pv 0))) (em_var (pv 2)) (nomark _)) (em_one (em_cmp (op_eqA hr.units) od_eqA (em_isB T_E hG (.inr ⟨rfl, rfl⟩) (em_ty (by rfl) z_LookupError (by decide +kernel)) (by rfl) z_isinstance (em_var (pv 0))) (em_var (pv 2)) (nomark _)))))))))

/-! law_right -/
abbrev s_l_right : Stmt := topS 31
abbrev n_l_right : List Str := ["_law_urn_here", "_law_some", "_law_made_here", "_law_k", "_law_e", "_law_marks_here", "_law_turn"]
theorem sc_l_right : FnScope n_l_right ["_law_urn_here"] (defScope s_l_right) := ⟨rfl, rfl, rfl, by decide +kernel, rfl, by decide +kernel, by decide +kernel⟩
def i_l_right_1 : ML :=
    (iRg1 (aCons (mC (.int 19)) aNil))
def e_l_right_2 : ME :=
    (mCall m_l_thing 1 [] (aCons (mVar 0) aNil))
def b_l_right_3 : MS :=
    (mSeq (mSet 5 (mCall m_l_marks 1 [] (aCons (mVar 4) aNil)))
    (mIf (mOrT (mNotT (mB (m2 gIx (mVar 5) (mVar 3)))) (mOrT (mB (m2 gNeA (mCntB (mVar 5) (mC (.bl true))) (mC (.int 1)))) (mNotT (mB (mCall m_l_family_right 2 [] (aCons (mVar 4) (aCons (mVar 3) aNil))))))) (mRet (mC (.bl false))) mNil))
def b_l_right : MS :=
    (mSeq (mSet 1 (mLst (mLc i_l_right_1 (.nm 6) [6] mYes e_l_right_2)))
    (mSeq (mSet 2 (mCall m_l_made 1 [] (aCons (mVar 1) aNil)))
    (mSeq (mIf (mB (m2 gNeA (mB1 gReprS (mCall m_l_values 1 [] (aCons (mVar 2) aNil))) (mB1 gReprS (mVar 1)))) (mRet (mC (.bl false))) mNil)
    (mSeq (mFor (.tp [(.nm 3), (.nm 4)]) (iEnumM (mVar 2))
    b_l_right_3)
    (mRet (mC (.bl true)))))))
def m_l_right : MF := mDef 7 b_l_right
theorem ok_l_right {P : Program} {w : World} {K : PySem.W.Frag} {mg : Str → Option Value} {base : Heap} {a : Addr} {fd : FuncData} (F : Fun K "_law_right" "_law_right" s_l_right a fd) {a_l_family_right : Addr} {fd_l_family_right : FuncData} (C_l_family_right : Own P w K mg base 3 2 "_law_family_right" ["_law_e", "_law_k"] a_l_family_right fd_l_family_right m_l_family_right) (B_l_family_right : Binds K fd_l_family_right ["_law_e", "_law_k"] []) {a_l_made : Addr} {fd_l_made : FuncData} (C_l_made : Own P w K mg base 3 1 "_law_made" ["_law_some"] a_l_made fd_l_made m_l_made) (B_l_made : Binds K fd_l_made ["_law_some"] []) {a_l_marks : Addr} {fd_l_marks : FuncData} (C_l_marks : Own P w K mg base 3 1 "_law_marks" ["_law_e"] a_l_marks fd_l_marks m_l_marks) (B_l_marks : Binds K fd_l_marks ["_law_e"] []) {a_l_thing : Addr} {fd_l_thing : FuncData} (C_l_thing : Own P w K mg base 3 1 "_law_thing" ["_law_urn_here"] a_l_thing fd_l_thing m_l_thing) (B_l_thing : Binds K fd_l_thing ["_law_urn_here"] []) {a_l_values : Addr} {fd_l_values : FuncData} (C_l_values : Own P w K mg base 3 1 "_law_values" ["_law_made_here"] a_l_values fd_l_values m_l_values) (B_l_values : Binds K fd_l_values ["_law_made_here"] []) (z_enumerate : mg "enumerate" = none) (z_range : mg "range" = none) (z_repr : mg "repr" = none) (Sm : ∃ o, base.get? sysModules = some o) :
    FnG P w K mg base CX0 4 a fd ["_law_urn_here"] (spM K 1 (m_l_right)) := by
  refine def_ok F sc_l_right ?_
  intro cdv A out s H E hgd hr
  exact ((ssm_cons (sm_valN (ps_lcN (i := 1) (own := [("_law_turn", 6)]) rfl sc_l_right.nd rfl rfl (sw_true rfl rfl rfl (by decide +kernel)) (im_rg1 (by rfl) z_range (am_cons em_int am_nil)) (blkOk_by (N := n_l_right) (sc := defScope s_l_right) (by decide +kernel)) (by decide) (fun _ _ _ _ _ => (gm_name (pg_name (i := 6) sc_l_right.nd rfl (Or.inl rfl)))) (fun _ _ _ _ _ => tsm_nil) (fun _ _ _ _ _ => (em_own C_l_thing B_l_thing hgd (hr.mono (by decide)) (by rfl) (am_cons (em_var (pv 0)) am_nil)))))
    (ssm_cons (sm_set (ps_set (i := 2) sc_l_right.nd rfl (Or.inl rfl) (em_own C_l_made B_l_made hgd (hr.mono (by decide)) (by rfl) (am_cons (em_var (pv 1)) am_nil))))
    (ssm_cons (sm_if (tm_cmp (op_neA hr.units) od_neA (em_reprS Sm hgd hr.units (em_own C_l_values B_l_values hgd (hr.mono (by decide)) (by rfl) (am_cons (em_var (pv 2)) am_nil)) (by rfl) z_repr) (em_reprS Sm hgd hr.units (em_var (pv 1)) (by rfl) z_repr) (nomark _)) (ssm_one (sm_ret em_bl)) ssm_nil)
    (ssm_cons (sm_for PassesOwn.never rfl (im_enum (em_var (pv 2)) (by rfl) z_enumerate) (gm_tup rfl (gsm_cons (gm_name (pg_name (i := 3) sc_l_right.nd rfl (Or.inl rfl))) (gsm_cons (gm_name (pg_name (i := 4) sc_l_right.nd rfl (Or.inl rfl))) gsm_nil)))
    (ssm_cons (sm_set (ps_set (i := 5) sc_l_right.nd rfl (Or.inl rfl) (em_own C_l_marks B_l_marks hgd (hr.mono (by decide)) (by rfl) (am_cons (em_var (pv 4)) am_nil))))
    (ssm_one (sm_if (WM.tm (wm_or (tm_not (tm_val (em_ix ix_seq od_ix (em_var (pv 5)) (em_var (pv 3)) (fun _ _ => rfl)))) (wm_or (tm_cmp (op_neA hr.units) od_neA (em_cnt (em_var (pv 5)) em_bl) em_int (nomark _)) (wm_or1 (tm_not (tm_val (em_own C_l_family_right B_l_family_right hgd (hr.mono (by decide)) (by rfl) (am_cons (em_var (pv 4)) (am_cons (em_var (pv 3)) am_nil))))))))) (ssm_one (sm_ret em_bl)) ssm_nil))))
    (ssm_one (sm_ret em_bl)))))))

/-! law_urn -/
abbrev s_l_urn : Stmt := topS 23
abbrev n_l_urn : List Str := ["_law_script", "_law_k", "_law_cell", "_law_mixed", "_law_far", "_law_great"]
theorem sc_l_urn : FnScope n_l_urn ["_law_script", "_law_k"] (defScope s_l_urn) := ⟨rfl, rfl, rfl, by decide +kernel, rfl, by decide +kernel, by decide +kernel⟩
def b_l_urn : MS :=
    (mSeq (mSet 2 (mIfE (mB (m2 gLt (mVar 1) (mB1 gLen (mVar 0)))) (m2 gIx (mVar 0) (mVar 1)) (mC (.int 0))))
    (mSeq (mSet 3 (m2 gModI (m2 gMulI (m2 gAddI (m2 gAddI (m2 gModI (mVar 2) (mC (.int 2305843009213693951))) (m2 gMulI (mC (.int 86028121)) (mVar 1))) (mC (.int 59))) (mC (.int 69621))) (mC (.int 2305843009213693907))))
    (mSeq (mSet 4 (m2 gMulI (m2 gMulI (m2 gMulI (m2 gMulI (m2 gPowW (mC (.int 10)) (mC (.int 60))) (m2 gPowW (mC (.int 10)) (mC (.int 60)))) (m2 gPowW (mC (.int 10)) (mC (.int 60)))) (m2 gPowW (mC (.int 10)) (mC (.int 60)))) (m2 gPowW (mC (.int 10)) (mC (.int 60)))))
    (mSeq (mSet 5 (m2 gMulI (m2 gModI (mA hAbs (aCons (mVar 2) aNil)) (mVar 4)) (mA hInt (aCons (m2 gGe (mA hAbs (aCons (mVar 2) aNil)) (m2 gPowW (mC (.int 10)) (mC (.int 18)))) aNil))))
    (mRet (mLoc (mDisp (aCons (mVar 5) (aCons (mVar 3) (aCons (mC (.int 0)) aNil))))))))))
def m_l_urn : MF := mDef 6 b_l_urn
theorem ok_l_urn {P : Program} {w : World} {K : PySem.W.Frag} {mg : Str → Option Value} {base : Heap} {a : Addr} {fd : FuncData} (F : Fun K "_law_urn" "_law_urn" s_l_urn a fd) (z_abs : mg "abs" = none) (z_int : mg "int" = none) (z_len : mg "len" = none) :
    FnG P w K mg base CX0 1 a fd ["_law_script", "_law_k"] (spM K 2 (m_l_urn)) := by
  refine def_ok F sc_l_urn ?_
  intro cdv A out s H E hgd hr
  exact ((ssm_cons (sm_set (ps_set (i := 2) sc_l_urn.nd rfl (Or.inl rfl) (em_ifE (tm_cmp op_lt od_lt (em_var (pv 1)) (em_lenV (em_var (pv 0)) (by rfl) z_len) (nomark _)) (em_ix ix_seq od_ix (em_var (pv 0)) (em_var (pv 1)) (fun _ _ => rfl)) em_int)))
    (ssm_cons (sm_set (ps_set (i := 3) sc_l_urn.nd rfl (Or.inl rfl) (em_op op_mod od_mod (em_op op_mulW od_mul (em_op op_add od_add (em_op op_add od_add (em_op op_mod od_mod (em_var (pv 2)) em_int) (em_op op_mulW od_mul em_int (em_var (pv 1)))) em_int) em_int) em_int)))
    (ssm_cons (sm_set (ps_set (i := 4) sc_l_urn.nd rfl (Or.inl rfl) (em_op op_mulW od_mul (em_op op_mulW od_mul (em_op op_mulW od_mul (em_op op_mulW od_mul (em_op op_powW od_powW em_int em_int) (em_op op_powW od_powW em_int em_int)) (em_op op_powW od_powW em_int em_int)) (em_op op_powW od_powW em_int em_int)) (em_op op_powW od_powW em_int em_int))))
    (ssm_cons (sm_set (ps_set (i := 5) sc_l_urn.nd rfl (Or.inl rfl) (em_op op_mulW od_mul (em_op op_mod od_mod (em_abs (am_cons (em_var (pv 2)) am_nil) (by rfl) z_abs) (em_var (pv 4))) (em_int1 (am_cons (em_cmp op_ge od_ge (em_abs (am_cons (em_var (pv 2)) am_nil) (by rfl) z_abs) (em_op op_powW od_powW em_int em_int) (nomark _)) am_nil) (by rfl) z_int))))
    (ssm_one (sm_ret (em_loc (nm_lst (am_cons (em_var (pv 5)) (am_cons (em_var (pv 3)) (am_cons em_int am_nil))))))))))))

/-! law -/
abbrev s_p_law : Stmt := topS 32
abbrev n_p_law : List Str := ["_law_script", "_law_k"]
theorem sc_p_law : FnScope n_p_law ["_law_script"] (defScope s_p_law) := ⟨rfl, rfl, rfl, by decide +kernel, rfl, by decide +kernel, by decide +kernel⟩
def i_p_law_1 : ML :=
    (iRg1 (aCons (mA hMax2 (aCons (mC (.int 1)) (aCons (mA hMin2 (aCons (mC (.int 4)) (aCons (mB1 gLen (mVar 0)) aNil))) aNil))) aNil))
def e_p_law_2 : ME :=
    (mCall m_l_right 1 [] (aCons (mCall m_l_urn 2 [] (aCons (mVar 0) (aCons (mVar 1) aNil))) aNil))
def b_p_law : MS :=
    (mRet (mQ hAll (mLc i_p_law_1 (.nm 1) [1] mYes e_p_law_2)))
def m_p_law : MF := mDef 2 b_p_law
theorem ok_p_law {P : Program} {w : World} {K : PySem.W.Frag} {mg : Str → Option Value} {base : Heap} {a : Addr} {fd : FuncData} (F : Fun K "law" "law" s_p_law a fd) {a_l_right : Addr} {fd_l_right : FuncData} (C_l_right : Own P w K mg base 4 1 "_law_right" ["_law_urn_here"] a_l_right fd_l_right m_l_right) (B_l_right : Binds K fd_l_right ["_law_urn_here"] []) {a_l_urn : Addr} {fd_l_urn : FuncData} (C_l_urn : Own P w K mg base 1 2 "_law_urn" ["_law_script", "_law_k"] a_l_urn fd_l_urn m_l_urn) (B_l_urn : Binds K fd_l_urn ["_law_script", "_law_k"] []) (z_all : mg "all" = none) (z_len : mg "len" = none) (z_max : mg "max" = none) (z_min : mg "min" = none) (z_range : mg "range" = none) :
    FnG P w K mg base CX0 5 a fd ["_law_script"] (spM K 1 (m_p_law)) := by
  refine def_ok F sc_p_law ?_
  intro cdv A out s H E hgd hr
  exact ((ssm_one (sm_ret (em_all rfl (qm_new (nm_lc (own := [("_law_k", 1)]) rfl sc_p_law.nd (im_rg1 (by rfl) z_range (am_cons (em_max2 rfl (am_cons em_int (am_cons (em_min2 rfl (am_cons em_int (am_cons (em_lenV (em_var (pv 0)) (by rfl) z_len) am_nil)) (by rfl) z_min) am_nil)) (by rfl) z_max) am_nil)) (blkOk_by (N := n_p_law) (sc := defScope s_p_law) (by decide +kernel)) (by decide) (fun _ _ _ _ _ => (gm_name (pg_name (i := 1) sc_p_law.nd rfl (Or.inl rfl)))) (fun _ _ _ _ _ => tsm_nil) (fun _ _ _ _ _ => (em_own C_l_right B_l_right hgd (hr.mono (by decide)) (by rfl) (am_cons (em_own C_l_urn B_l_urn hgd (hr.mono (by decide)) (by rfl) (am_cons (em_var (pv 0)) (am_cons (em_var (pv 1)) am_nil))) am_nil))))) (by rfl) z_all))))

end K34
set_option maxRecDepth 100000
set_option maxHeartbeats 4000000
namespace K34
open Mo L2 PySem
/-- all dicts stand as they stood -/
def DStay (S S' : Store) : Prop := ∀ (n : Nat) (l : List (Key × D)), S[n]? = some (Cell.dK l) → S'[n]? = some (Cell.dK l)
theorem DStay.refl (S : Store) : DStay S S := fun _ _ h => h
theorem DStay.trans {A B C : Store} (h : DStay A B) (g : DStay B C) : DStay A C := fun n l e => g n l (h n l e)
/-- the well at n, drawn from b times at most; beside it all that Z holds stands as in Z -/
def Well (Z S : Store) (n : Nat) (b : Int) : Prop := (Z.length ≤ S.length ∧ ∀ i, i < Z.length → i ≠ n → S[i]? = Z[i]?) ∧ ∃ g m t, S[n]? = some (.lst [.int g, .int m, .int t]) ∧ 0 ≤ g ∧ 0 ≤ m ∧ m < 2 ^ 62 ∧ 0 ≤ t ∧ t ≤ b
theorem Well.lt {Z S : Store} {n : Nat} {b : Int} (h : Well Z S n b) : n < S.length := let ⟨_, _, _, _, e, _⟩ := h; lt_of_get e
theorem Well.mono {Z S : Store} {n : Nat} {b c : Int} (h : Well Z S n b) (hc : b ≤ c) : Well Z S n c := let ⟨z, g, m, t, e, h1, h2, h3, h4, h5⟩ := h; ⟨z, g, m, t, e, h1, h2, h3, h4, by omega⟩
theorem Well.at {Z S : Store} {n i : Nat} {b : Int} {c : Cell} (h : Well Z S n b) (hi : i ≠ n) (e : Z[i]? = some c) : S[i]? = some c := (h.1.2 i (lt_of_get e) hi).trans e
theorem Well.now {Z S : Store} {n : Nat} {b : Int} (h : Well Z S n b) : Well S S n b := ⟨⟨Nat.le_refl _, fun _ _ _ => rfl⟩, h.2⟩
theorem Well.len {Z S : Store} {n : Nat} {b : Int} (h : Well Z S n b) : Z.length ≤ S.length := h.1.1
/-- from Z's forerunner on -/
theorem Well.from {Y Z S : Store} {n : Nat} {b c : Int} (h : Well Z S n b) (y : Well Y Z n c) : Well Y S n b := ⟨⟨Nat.le_trans y.1.1 h.1.1, fun i hi hn => (h.1.2 i (Nat.lt_of_lt_of_le hi y.1.1) hn).trans (y.1.2 i hi hn)⟩, h.2⟩
/-- behind what keeps all -/
theorem Well.keep {Z S S' : Store} {n : Nat} {b : Int} (h : Well Z S n b) (k : Keeps S S') : Well Z S' n b := by
  have hl := h.lt
  obtain ⟨⟨z1, z2⟩, g, m, t, e, r⟩ := h
  exact ⟨⟨Nat.le_trans z1 k.1, fun i hi hn => (k.2 i (Nat.lt_of_lt_of_le hi z1)).trans (z2 i hi hn)⟩, g, m, t, (k.2 n hl).trans e, r⟩
/-- behind a change of another cell that Z does not hold -/
theorem Well.put {Z S : Store} {n j : Nat} {b : Int} {c : Cell} (h : Well Z S n b) (hj : Z.length ≤ j) (hn : j ≠ n) : Well Z (S.set j c) n b := by
  obtain ⟨⟨z1, z2⟩, g, m, t, e, r⟩ := h
  refine ⟨⟨by rw [List.length_set]; exact z1, fun i hi hn' => ?_⟩, g, m, t, ?_, r⟩
  · rw [List.getElem?_set_ne (by omega)]; exact z2 i hi hn'
  · rw [List.getElem?_set_ne hn]; exact e
theorem Well.stay {Y Z S : Store} {n : Nat} {b c : Int} (h : Well Z S n b) (z : Well Y Z n c) : DStay Z S := fun i l e => h.at (by
  rintro rfl
  obtain ⟨_, g, m, t, e', _⟩ := z
  rw [e] at e'
  injection e' with e'
  cases e') e
theorem sq_le {u : Int} (h0 : 0 ≤ u) (h1 : u ≤ 2 ^ 41) : 0 ≤ 7368787 * u * u ∧ 7368787 * u * u ≤ 2 ^ 105 := by
  have a1 : 7368787 * u ≤ 2 ^ 64 := by omega
  have a2 : 7368787 * u * u ≤ 2 ^ 64 * 2 ^ 41 := Int.mul_le_mul a1 h1 h0 (by decide)
  refine ⟨Int.mul_nonneg (by omega) h0, Int.le_trans a2 (by decide)⟩
theorem take_run (S : Store) (n : Nat) (g m t k : Int) (hS : S[n]? = some (.lst [.int g, .int m, .int t])) (hg0 : 0 ≤ g) (hm0 : 0 ≤ m) (hm1 : m < 2 ^ 62) (ht0 : 0 ≤ t) (ht1 : t < 2 ^ 40) (hk0 : 0 < k) (hk1 : k < 2 ^ 50) :
    ∃ d g' t', m_l_take [.loc n, .int k] S = .ok (.int d) (S.set n (.lst [.int g', .int m, .int t'])) ∧ 0 ≤ d ∧ d < k ∧ 0 ≤ g' ∧ 0 ≤ t' ∧ t' ≤ t + 1 := by
  unfold m_l_take b_l_take
  by_cases hg : 0 < g
  · refine ⟨g % k, g / k, t, ?_, Int.emod_nonneg _ (by omega), Int.emod_lt_of_pos _ hk0, Int.ediv_nonneg hg0 (by omega), ht0, by omega⟩
    have c1 : cMod g k := hk0
    have c2 : cDiv g k := cDiv_nn hk0 (by omega)
    simp [mDef_eq, hS, hg, c1, c2, ixN]
  · obtain ⟨q1, q2⟩ := sq_le (u := t + 1) (by omega) (by omega)
    have c1 : cMul 7368787 (t + 1) := cMul_nn (by omega) (by omega) (by omega) (by omega)
    have c2 : cMul (7368787 * (t + 1)) (t + 1) := cMul_nn (by omega) (by omega) (by omega) (by omega)
    have c3 : cMul (m + 7368787 * (t + 1) * (t + 1) + 13) 40692 := cMul_nn (by omega) (by omega) (by omega) (by omega)
    have c4 : cMul 15485863 (t + 1) := cMul_nn (by omega) (by omega) (by omega) (by omega)
    have c5 : ∀ x : Int, cMul (x % 2305843009213693921) ((x % 2305843009213693921) % 999983 + 15485863 * (t + 1)) := fun x => cMul_nn (by omega) (by omega) (by omega) (by omega)
    have c6 : ∀ x : Int, cMod x k := fun x => hk0
    have c7 : ∀ x : Int, cMod x 999983 := fun x => by unfold cMod; omega
    have c8 : ∀ x : Int, cMod x 2305843009213693951 := fun x => by unfold cMod; omega
    have c9 : ∀ x : Int, cMod x 2305843009213693921 := fun x => by unfold cMod; omega
    have c10 : ∀ x : Int, cDiv x 89 := fun x => cDiv_nn (by omega) (by omega)
    have c11 : ∀ x : Int, cDiv x 1000003 := fun x => cDiv_nn (by omega) (by omega)
    have hg' : (0 < g) = False := eq_false hg
    simp [mDef_eq, hS, hg', ixN, c1, c2, c3, c4, c5, c6, c7, c8, c9, c10, c11, List.getElem?_set_self']
    exact ⟨_, g, t + 1, ⟨rfl, rfl⟩, Int.emod_nonneg _ (by omega), Int.emod_lt_of_pos _ hk0, hg0, by omega, by omega⟩
theorem take_ok {Z S : Store} {n : Nat} {b k : Int} (h : Well Z S n b) (hb : b < 2 ^ 40) (hk0 : 0 < k) (hk1 : k < 2 ^ 50) : ∃ d S', m_l_take [.loc n, .int k] S = .ok (.int d) S' ∧ 0 ≤ d ∧ d < k ∧ Well Z S' n (b + 1) := by
  have hl := h.lt
  obtain ⟨⟨z1, z2⟩, g, m, t, hS, h1, h2, h3, h4, h5⟩ := h
  obtain ⟨d, g', t', e, d0, d1, g0, t0, t1⟩ := take_run S n g m t k hS h1 h2 h3 h4 (by omega) hk0 hk1
  exact ⟨d, _, e, d0, d1, ⟨by rw [List.length_set]; exact z1, fun i hi hn => by rw [List.getElem?_set_ne (Ne.symm hn)]; exact z2 i hi hn⟩, g', m, t', List.getElem?_set_self hl, g0, h2, h3, t0, by omega⟩
theorem of_ok {Z S : Store} {n : Nat} {b : Int} {l : List D} (h : Well Z S n b) (hb : b < 2 ^ 40) (hl : 0 < l.length) (hl2 : l.length < 1000000) : ∃ d S', m_l_of [.loc n, .lst l] S = .ok d S' ∧ d ∈ l ∧ Well Z S' n (b + 1) := by
  obtain ⟨d, S', e, d0, d1, hw⟩ := take_ok (k := (l.length : Int)) h hb (by omega) (by omega)
  have hd : d.toNat < l.length := by omega
  refine ⟨l[d.toNat], S', ?_, List.getElem_mem hd, hw⟩
  have ea : atI l ((d.toNat : Nat) : Int) = some l[d.toNat] := atI_nat (List.getElem?_eq_getElem hd)
  rw [Int.toNat_of_nonneg d0] at ea
  unfold m_l_of b_l_of
  simp [mDef_eq, e, ea]
/-- the well itself -/
theorem abs_if (x : Int) : (if x < 0 then -x else x) = ((x.natAbs : Nat) : Int) := by split <;> omega
theorem urn_ok (ns : List Int) (k : Nat) (hk : k < 100) (S : Store) : ∃ S', m_l_urn [.scr ns, .int k] S = .ok (.loc S.length) S' ∧ Well S S' S.length 0 := by
  have hp : ∀ x : Int, cMod x 2305843009213693951 := fun x => by unfold cMod; omega
  have hp2 : ∀ x : Int, cMod x 2305843009213693907 := fun x => by unfold cMod; omega
  have p1 : cPowW 10 60 := by decide +kernel
  have p2 : cPowW 10 18 := by decide +kernel
  have l1 : ∀ {i j : Int}, 0 ≤ i → i < 2 ^ 1001 → 0 ≤ j → j < 2 ^ 1001 → cMul i j := fun h1 h2 h3 h4 => by
    have a := log2_le (k := 1000) h1 h2
    have b := log2_le (k := 1000) h3 h4
    unfold cMul; omega
  have m1 : cMul 1000000000000000000000000000000000000000000000000000000000000 1000000000000000000000000000000000000000000000000000000000000 := l1 (by decide +kernel) (by decide +kernel) (by decide +kernel) (by decide +kernel)
  have m2 : cMul 1000000000000000000000000000000000000000000000000000000000000000000000000000000000000000000000000000000000000000000000000 1000000000000000000000000000000000000000000000000000000000000 := l1 (by decide +kernel) (by decide +kernel) (by decide +kernel) (by decide +kernel)
  have m3 : cMul 1000000000000000000000000000000000000000000000000000000000000000000000000000000000000000000000000000000000000000000000000000000000000000000000000000000000000000000000000000000000000 1000000000000000000000000000000000000000000000000000000000000 := l1 (by decide +kernel) (by decide +kernel) (by decide +kernel) (by decide +kernel)
  have m4 : cMul 1000000000000000000000000000000000000000000000000000000000000000000000000000000000000000000000000000000000000000000000000000000000000000000000000000000000000000000000000000000000000000000000000000000000000000000000000000000000000000000000000 1000000000000000000000000000000000000000000000000000000000000 := l1 (by decide +kernel) (by decide +kernel) (by decide +kernel) (by decide +kernel)
  have hB0 : (0 : Int) < 1000000000000000000000000000000000000000000000000000000000000000000000000000000000000000000000000000000000000000000000000000000000000000000000000000000000000000000000000000000000000000000000000000000000000000000000000000000000000000000000000000000000000000000000000000000000000000000000000000000000000 := by decide +kernel
  have hB1 : (1000000000000000000000000000000000000000000000000000000000000000000000000000000000000000000000000000000000000000000000000000000000000000000000000000000000000000000000000000000000000000000000000000000000000000000000000000000000000000000000000000000000000000000000000000000000000000000000000000000000000 : Int) < 2 ^ 1001 := by decide +kernel
  have big : ∀ x : Int, cMod x 1000000000000000000000000000000000000000000000000000000000000000000000000000000000000000000000000000000000000000000000000000000000000000000000000000000000000000000000000000000000000000000000000000000000000000000000000000000000000000000000000000000000000000000000000000000000000000000000000000000000000 := fun x => hB0
  have m50 : ∀ x : Int, cMul (x % 1000000000000000000000000000000000000000000000000000000000000000000000000000000000000000000000000000000000000000000000000000000000000000000000000000000000000000000000000000000000000000000000000000000000000000000000000000000000000000000000000000000000000000000000000000000000000000000000000000000000000) 0 := fun x => l1 (Int.emod_nonneg x (Int.ne_of_gt hB0)) (Int.lt_trans (Int.emod_lt_of_pos x hB0) hB1) (by decide) (by decide +kernel)
  have m51 : ∀ x : Int, cMul (x % 1000000000000000000000000000000000000000000000000000000000000000000000000000000000000000000000000000000000000000000000000000000000000000000000000000000000000000000000000000000000000000000000000000000000000000000000000000000000000000000000000000000000000000000000000000000000000000000000000000000000000) 1 := fun x => l1 (Int.emod_nonneg x (Int.ne_of_gt hB0)) (Int.lt_trans (Int.emod_lt_of_pos x hB0) hB1) (by decide) (by decide +kernel)
  have m6 : cMul 86028121 k := cMul_nn (by omega) (by omega) (by omega) (by omega)
  have m7 : ∀ x : Int, cMul (x % 2305843009213693951 + 86028121 * (k : Int) + 59) 69621 := fun x => cMul_nn (by omega) (by omega) (by omega) (by omega)
  have m8 : cMul (86028121 * (k : Int) + 59) 69621 := cMul_nn (by omega) (by omega) (by omega) (by omega)
  have fin : ∀ (g m : Int), 0 ≤ g → 0 ≤ m → m < 2 ^ 62 → Well S (S ++ [.lst [.int g, .int m, .int 0]]) S.length 0 := fun g m h1 h2 h3 => ⟨⟨by rw [List.length_append]; omega, fun i hi _ => List.getElem?_append_left hi⟩, g, m, 0, List.getElem?_concat_length, h1, h2, h3, by omega, by omega⟩
  unfold m_l_urn b_l_urn
  by_cases hc : k < ns.length
  · have ea : atI ns ((k : Nat) : Int) = some ns[k] := atI_nat (List.getElem?_eq_getElem hc)
    by_cases hg : (1000000000000000000 : Int) ≤ (ns[k].natAbs : Int)
    · simp [mDef_eq, hc, ea, abs_if, p1, p2, m1, m2, m3, m4, m50, m51, m6, m7, big, hp, hp2, hg]
      exact fin _ _ (Int.emod_nonneg _ (by decide)) (Int.emod_nonneg _ (by decide)) (by omega)
    · simp [mDef_eq, hc, ea, abs_if, p1, p2, m1, m2, m3, m4, m50, m51, m6, m7, big, hp, hp2, hg]
      exact fin _ _ (Int.le_refl _) (Int.emod_nonneg _ (by decide)) (by omega)
  · have m9 : cMul 0 0 := by decide +kernel
    simp [mDef_eq, hc, abs_if, p1, p2, m1, m2, m3, m4, m50, m51, m6, m7, m8, m9, big, hp, hp2]
    exact fin _ _ (Int.le_refl _) (Int.emod_nonneg _ (by decide)) (by omega)
end K34
set_option maxRecDepth 100000
set_option maxHeartbeats 4000000
namespace K34
open Mo L2 PySem
/-- things of the law -/
def Th (S : Store) (d : D) : Prop := d ∈ [D.non, .bl true, .bl false, .str "", .str "0", .tup [], .lst [], .tup [.int 0], .lst [.int 0], .int (-1), .int 0, .int 7, .str "ask", .tup [.int 1, .int 0], .int 100000000000] ∨ ∃ f, d = .loc f ∧ (S[f]? = some (.dK []) ∨ S[f]? = some (.dK [(.inr "a", .int 1)]))
theorem Th.stay {S S' : Store} {d : D} (h : Th S d) (k : DStay S S') : Th S' d := by
  rcases h with h | ⟨f, e, h | h⟩
  · exact .inl h
  · exact .inr ⟨f, e, .inl (k _ _ h)⟩
  · exact .inr ⟨f, e, .inr (k _ _ h)⟩
theorem thing_ok {Z S : Store} {n : Nat} {b : Int} (h : Well Z S n b) (hb : b < 2 ^ 39) : ∃ d S', m_l_thing [.loc n] S = .ok d S' ∧ Th S' d ∧ Well Z S' n (b + 1) := by
  have w0 : Well S (S ++ [.dK []]) n b := h.now.keep (Keeps.app _ _)
  have w1 : Well S (S ++ [.dK []] ++ [.dK [(.inr "a", .int 1)]]) n b := w0.keep (Keeps.app _ _)
  obtain ⟨d, S', e, hd, w2⟩ := of_ok (l := [D.non, .bl true, .bl false, .str "", .str "0", .tup [], .lst [], .loc S.length, .tup [.int 0], .lst [.int 0], .int (-1), .int 0, .int 7, .str "ask", .tup [.int 1, .int 0], .loc (S.length + 1), .int 100000000000]) w1.now (by omega) (by simp) (by simp)
  have hl := h.lt
  have g1 : (S ++ [Cell.dK []] ++ [Cell.dK [(.inr "a", .int 1)]])[S.length]? = some (.dK []) := by
    rw [List.getElem?_append_left (by rw [List.length_append]; simp), List.getElem?_concat_length]
  have g2 : (S ++ [Cell.dK []] ++ [Cell.dK [(.inr "a", .int 1)]])[S.length + 1]? = some (.dK [(.inr "a", .int 1)]) := by
    have := List.getElem?_concat_length (l := S ++ [Cell.dK []]) (a := Cell.dK [(.inr "a", .int 1)])
    rw [List.length_append] at this
    exact this
  have d0 : Th S' d := by
    have ht : Th (S ++ [Cell.dK []] ++ [Cell.dK [(.inr "a", .int 1)]]) d := by
      simp only [List.mem_cons, List.not_mem_nil, or_false] at hd
      rcases hd with e | e | e | e | e | e | e | e | e | e | e | e | e | e | e | e | e
      all_goals subst e
      all_goals first
        | exact .inr ⟨_, rfl, .inl g1⟩
        | exact .inr ⟨_, rfl, .inr g2⟩
        | exact .inl (by simp)
    exact ht.stay (w2.stay w1)
  refine ⟨d, S', ?_, d0, (w2.from w1).from h⟩
  have pw : cPowW 10 11 := by decide +kernel
  have p11 : (10 : Int) ^ Int.toNat 11 = 100000000000 := by decide +kernel
  have es : (S ++ [Cell.dK []] ++ [Cell.dK []]).set (S.length + 1) (.dK (mergeD [] [(.inr "a", .int 1)])) = S ++ [.dK []] ++ [.dK [(.inr "a", .int 1)]] := by
    rw [List.set_append_right _ _ (by rw [List.length_append]; simp)]
    have : S.length + 1 - (S ++ [Cell.dK []]).length = 0 := by rw [List.length_append]; simp
    rw [this]; rfl
  have es2 : (S ++ [Cell.dK []] ++ [Cell.dK []])[S.length + 1]? = some (.dK []) := by
    have := List.getElem?_concat_length (l := S ++ [Cell.dK []]) (a := (Cell.dK [] : Cell))
    rw [List.length_append] at this
    exact this
  unfold m_l_thing b_l_thing
  simp only [bind_ok_eq, bind_bad_eq, mVar_eq, mC_eq, m2_eq, mNil_eq, mPass_eq, mSeq_eq, mSet_eq, mRet_eq, mDrop_eq, mIf_eq, mB_eq, isB_eq, mAndT_eq, mOrT_eq, mNotT_eq, mAnd_eq, mOr_eq, mNot_eq, mIfE_eq, mChain_eq, aNil_eq, aCons_eq, mTup_eq, mDisp_eq, mLst_eq, mLoc_eq, mOwnL_eq, mCall_eq, mCallK_eq, mAsg_eq, mFor_eq, iSeq_eq, iSeqD_lst, iSeqD_tup, iLst_eq, seqD_lst, iLoc_eq, locD_eq, iScr_eq, scrD_eq, iRange1_eq, iRange2_eq, iEnumM_eq, mLc_eq, mYes_eq, mQ_eq, mQL_eq, mA_eq, mB1_eq, hLen_eq, hTup_eq, hList_eq, hAbs_eq, hInt_eq, hIntB_eq, hMax2_eq, hMin2_eq, gNeg_eq, gI_eq, gI0_eq, gIx_tup, gIx_lst, gIx_scr, gIx_loc, mSetC_eq, putC_eq, mApp_eq, mAppC_eq, qOwn_eq, gLen_tup, gLen_lst, gLen_scr, mDNewK_eq, mDGet2_eq, mDPut_eq, mDSet_eq, dictAt_eq, dictR_eq, keyD_int, keyD_str, mPar_eq, sNil_eq, sVal_eq, sOwnL_eq, setSl_nil, setSl_cons, setD_nil, setD_cons, pat_nm, pat_tp, pats_nil, pats_cons, wipeM_nil, wipeM_cons, forL_nil, lcL_nil, n2_eq, atI0, atI1, atI2, gNe_strs, gEq_strs, gNe_ints, gEq_ints, sz_1, sz_2, sz_3, sz_4, sz_5, sz_6, sz_7, sz_8, sz_9, sz_10, sz_11, sz_12, sz_13, sz_14, sz_15, sz_16, sz_17, sz_18, sz_19, sz_20, mLock_eq, nLock_eq, dictVar_eq, iKeysF_eq, keyV_inl, mRest_eq, restAt_eq, mExt_eq, iTup_eq, tupD_tup, mRetO_eq, gIsB_eq, gNotB_eq, gIsN_non, gIsN_int, gIsN_bl, gIsN_str, gIsN_tup, gIsN_lst, gIsN_loc, gNotN_non, gNotN_int, gNotN_bl, gNotN_str, gNotN_tup, gNotN_lst, gNotN_loc, iZip_eq, mAsg2_eq, mAug_eq, hSortedR_eq, mV_eq, mVL_eq, anyD_lst, anyD_tup, anyD_scr, anyD_loc, mIxO_eq, mSetO_eq, oNone_eq, oSome_eq, mSlT_eq, mSlQ_eq, mTruQ_eq, iRg1_eq, iRg2_eq, mNNew_eq, dictT_eq, mNGet1_eq, mNGet2_eq, gNGet_eq, gNIn_eq, putT_eq, setT_eq, mNPut_eq, mNSet_eq, mDGet1_eq, aStar_eq, mDCopy_eq, gDIn_eq, mIns_eq, mRevQ_eq, mKeysL_eq, mItemsL_eq, mDPop_eq, mBad_eq, mAsgS_eq, mAsgSS_eq, hStrI_eq, gReprA_loc, gReprA_tup, gReprA_lst, gReprA_non, gReprA_bl, gReprA_int, gReprA_str, mRevT_eq, mUp_eq, mSeqX_eq, mIfX_eq, mRaise1_eq, mCallX_eq, mDropX_eq, mSetX_eq, mRetX_eq, mTryF_eq, mLc2_eq, hSortedDB_eq, mSortSet_eq, mCallXK_eq, mListRg_eq, mKeepB_eq, hSortedN_eq, nLockT_eq, dictVarT_eq, iKeysG_eq, gNGetG_eq, dictW_eq, hSortedDL_eq, mEntries_nil, mEntries_cons, mDDisp_eq, gNum_int, gNum_bl, gNumR_int, gNumR_bl, mCallF_eq, gEq0_eq, mExc_eq, mFld_eq, mIsE_eq, mCntB_eq, Nat.zero_le, Nat.zero_add, Nat.reduceAdd, and_self, mDef_eq, List.getElem?_cons_zero, List.getElem?_cons_succ, List.set, List.length_cons, List.length_nil, List.map_cons, List.map_nil, List.replicate, List.cons_append, List.nil_append, List.append_nil, if_true, if_false, ite_true, ite_false, Bool.false_eq_true, Bool.true_eq_false, Bool.not_true, Bool.not_false, List.zip_cons_cons, List.zip_nil_left, pw, p11, es, es2, e, List.length_append]
theorem things {Z : Store} {n : Nat} : ∀ (js : List Int) {S : Store} {b : Int} {x1 x2 x3 x4 x5 : Option Slot} {x6 : Option Slot}, Well Z S n b → b + js.length < 2 ^ 39 →
    ∃ rs S', mLcL (.nm 6) mYes e_l_right_2 (js.map .int) [some (.val (.loc n)), x1, x2, x3, x4, x5, x6] S = .ok rs S' ∧ rs.length = js.length ∧ (∀ d ∈ rs, Th S' d) ∧ Well Z S' n (b + js.length)
  | [], S, b, _, _, _, _, _, _, h, _ => ⟨[], S, rfl, rfl, (fun d hd => absurd hd List.not_mem_nil), h.mono (by simp)⟩
  | j :: js, S, b, x1, x2, x3, x4, x5, x6, h, hb => by
    have hlen : ((j :: js).length : Int) = js.length + 1 := by simp
    obtain ⟨d, S1, e1, p1, w1⟩ := thing_ok h (by omega)
    obtain ⟨rs, S2, e2, n2, p2, w2⟩ := things js (S := S1) (b := b + 1) (x1 := x1) (x2 := x2) (x3 := x3) (x4 := x4) (x5 := x5) (x6 := x6) w1.now (by omega)
    refine ⟨d :: rs, S2, ?_, by simp [n2], fun y hy => ?_, (w2.from w1).mono (by omega)⟩
    · rw [List.map_cons, lcL_cons]
      simp only [pat_nm, setD_cons, setD_nil, List.set, mYes_eq, bind_ok_eq, if_true]
      have e3 : e_l_right_2 [some (.val (.loc n)), x1, x2, x3, x4, x5, some (.val (.int j))] S = .ok d S1 := by
        unfold e_l_right_2
        simp only [bind_ok_eq, bind_bad_eq, mVar_eq, mC_eq, m2_eq, mNil_eq, mPass_eq, mSeq_eq, mSet_eq, mRet_eq, mDrop_eq, mIf_eq, mB_eq, isB_eq, mAndT_eq, mOrT_eq, mNotT_eq, mAnd_eq, mOr_eq, mNot_eq, mIfE_eq, mChain_eq, aNil_eq, aCons_eq, mTup_eq, mDisp_eq, mLst_eq, mLoc_eq, mOwnL_eq, mCall_eq, mCallK_eq, mAsg_eq, mFor_eq, iSeq_eq, iSeqD_lst, iSeqD_tup, iLst_eq, seqD_lst, iLoc_eq, locD_eq, iScr_eq, scrD_eq, iRange1_eq, iRange2_eq, iEnumM_eq, mLc_eq, mYes_eq, mQ_eq, mQL_eq, mA_eq, mB1_eq, hLen_eq, hTup_eq, hList_eq, hAbs_eq, hInt_eq, hIntB_eq, hMax2_eq, hMin2_eq, gNeg_eq, gI_eq, gI0_eq, gIx_tup, gIx_lst, gIx_scr, gIx_loc, mSetC_eq, putC_eq, mApp_eq, mAppC_eq, qOwn_eq, gLen_tup, gLen_lst, gLen_scr, mDNewK_eq, mDGet2_eq, mDPut_eq, mDSet_eq, dictAt_eq, dictR_eq, keyD_int, keyD_str, mPar_eq, sNil_eq, sVal_eq, sOwnL_eq, setSl_nil, setSl_cons, setD_nil, setD_cons, pat_nm, pat_tp, pats_nil, pats_cons, wipeM_nil, wipeM_cons, forL_nil, lcL_nil, n2_eq, atI0, atI1, atI2, gNe_strs, gEq_strs, gNe_ints, gEq_ints, sz_1, sz_2, sz_3, sz_4, sz_5, sz_6, sz_7, sz_8, sz_9, sz_10, sz_11, sz_12, sz_13, sz_14, sz_15, sz_16, sz_17, sz_18, sz_19, sz_20, mLock_eq, nLock_eq, dictVar_eq, iKeysF_eq, keyV_inl, mRest_eq, restAt_eq, mExt_eq, iTup_eq, tupD_tup, mRetO_eq, gIsB_eq, gNotB_eq, gIsN_non, gIsN_int, gIsN_bl, gIsN_str, gIsN_tup, gIsN_lst, gIsN_loc, gNotN_non, gNotN_int, gNotN_bl, gNotN_str, gNotN_tup, gNotN_lst, gNotN_loc, iZip_eq, mAsg2_eq, mAug_eq, hSortedR_eq, mV_eq, mVL_eq, anyD_lst, anyD_tup, anyD_scr, anyD_loc, mIxO_eq, mSetO_eq, oNone_eq, oSome_eq, mSlT_eq, mSlQ_eq, mTruQ_eq, iRg1_eq, iRg2_eq, mNNew_eq, dictT_eq, mNGet1_eq, mNGet2_eq, gNGet_eq, gNIn_eq, putT_eq, setT_eq, mNPut_eq, mNSet_eq, mDGet1_eq, aStar_eq, mDCopy_eq, gDIn_eq, mIns_eq, mRevQ_eq, mKeysL_eq, mItemsL_eq, mDPop_eq, mBad_eq, mAsgS_eq, mAsgSS_eq, hStrI_eq, gReprA_loc, gReprA_tup, gReprA_lst, gReprA_non, gReprA_bl, gReprA_int, gReprA_str, mRevT_eq, mUp_eq, mSeqX_eq, mIfX_eq, mRaise1_eq, mCallX_eq, mDropX_eq, mSetX_eq, mRetX_eq, mTryF_eq, mLc2_eq, hSortedDB_eq, mSortSet_eq, mCallXK_eq, mListRg_eq, mKeepB_eq, hSortedN_eq, nLockT_eq, dictVarT_eq, iKeysG_eq, gNGetG_eq, dictW_eq, hSortedDL_eq, mEntries_nil, mEntries_cons, mDDisp_eq, gNum_int, gNum_bl, gNumR_int, gNumR_bl, mCallF_eq, gEq0_eq, mExc_eq, mFld_eq, mIsE_eq, mCntB_eq, Nat.zero_le, Nat.zero_add, Nat.reduceAdd, and_self, mDef_eq, List.getElem?_cons_zero, List.getElem?_cons_succ, List.set, List.length_cons, List.length_nil, List.map_cons, List.map_nil, List.replicate, List.cons_append, List.nil_append, List.append_nil, if_true, if_false, ite_true, ite_false, Bool.false_eq_true, Bool.true_eq_false, Bool.not_true, Bool.not_false, List.zip_cons_cons, List.zip_nil_left, e1]
      rw [e3, bind_ok_eq, e2, bind_ok_eq]
    · rcases List.mem_cons.mp hy with z | z
      · rw [z]
        exact p1.stay (w2.stay w1)
      · exact p2 y z
end K34
set_option maxRecDepth 100000
set_option maxHeartbeats 4000000
namespace K34
open Mo L2 PySem
theorem thing_text {S : Store} {d : D} (h : Th S d) : ∃ p, toPF S 59 d = some p ∧ p.showable = true ∧ p.depth ≤ 2 ∧ p.shown.length + 2 ≤ 20 := by
  rcases h with hd | ⟨f, rfl, h | h⟩
  · simp only [List.mem_cons, List.not_mem_nil, or_false] at hd
    rcases hd with e | e | e | e | e | e | e | e | e | e | e | e | e | e | e
    all_goals subst e
    all_goals exact ⟨_, rfl, by decide +kernel, by decide +kernel, by decide +kernel⟩
  · exact ⟨.dict [], by simp only [toPF, h]; rfl, by decide +kernel, by decide +kernel, by decide +kernel⟩
  · exact ⟨.dict [(.str "a", .int 1)], by simp only [toPF, h]; rfl, by decide +kernel, by decide +kernel, by decide +kernel⟩
theorem texts {S : Store} : ∀ l : List D, (∀ d ∈ l, Th S d) → ∃ ps, allO (toPF S 59) l = some ps ∧ PyData.showableAll ps = true ∧ PyData.depthAll ps ≤ 2 ∧ piled (PyData.shownAll ps) ≤ 20 * l.length
  | [], _ => ⟨[], rfl, rfl, by simp [PyData.depthAll], by simp [PyData.shownAll, piled]⟩
  | d :: l, h => by
    obtain ⟨p, e, s, de, le⟩ := thing_text (h d List.mem_cons_self)
    obtain ⟨ps, es, ss, ds, ls⟩ := texts l fun x hx => h x (List.mem_cons_of_mem _ hx)
    refine ⟨p :: ps, by rw [allO, e, es], by rw [PyData.showableAll, s, ss]; rfl, by rw [PyData.depthAll]; omega, ?_⟩
    rw [PyData.shownAll, List.length_cons]
    show p.shown.length + 2 + piled (PyData.shownAll ps) ≤ _
    omega
theorem repr_ok {S : Store} {l : List D} (h : ∀ d ∈ l, Th S d) (hl : l.length ≤ 1000) : ∃ x, gReprS (.lst l) S = .ok (.str x) S := by
  obtain ⟨ps, e, s, de, le⟩ := texts l h
  have hw := listText_len le
  have et : toPF S 60 (.lst l) = some (.list ps) := by
    show (allO (toPF S 59) l).map PyData.list = _
    rw [e]; rfl
  have ok : shownOk (.list ps) := ⟨by rw [PyData.showable]; exact s, by rw [PyData.depth]; omega, by
    rw [PyData.shown]
    exact Nat.le_trans (show (listText (PyData.shownAll ps)).length ≤ 100000 by omega) (show 100000 ≤ PySem.sizeLine by decide)⟩
  refine ⟨(PyData.list ps).shown, ?_⟩
  unfold gReprS
  rw [et]
  dsimp only
  rw [if_pos ok]
/-! ### the nineteen -/
def exs : List (Str × Str × Bool) → List D → List D
  | (c, f, _) :: t, d :: l => .ex c f d :: exs t l
  | _, _ => []
theorem cut19 {l : List D} (h : l.length = 19) : ∃ d0 d1 d2 d3 d4 d5 d6 d7 d8 d9 d10 d11 d12 d13 d14 d15 d16 d17 d18, l = [d0, d1, d2, d3, d4, d5, d6, d7, d8, d9, d10, d11, d12, d13, d14, d15, d16, d17, d18] := by
  match l, h with
  | [d0, d1, d2, d3, d4, d5, d6, d7, d8, d9, d10, d11, d12, d13, d14, d15, d16, d17, d18], _ => exact ⟨_, _, _, _, _, _, _, _, _, _, _, _, _, _, _, _, _, _, _, rfl⟩
theorem made_ok {l : List D} (hl : l.length = 19) (S : Store) : m_l_made [.lst l] S = .ok (.lst (exs exTab l)) S := by
  obtain ⟨d0, d1, d2, d3, d4, d5, d6, d7, d8, d9, d10, d11, d12, d13, d14, d15, d16, d17, d18, rfl⟩ := cut19 hl
  unfold m_l_made b_l_made
  simp [mDef_eq]
  rfl
end K34
set_option maxRecDepth 100000
set_option maxHeartbeats 4000000
namespace K34
open Mo L2 PySem
theorem fld_run {c f : Str} {d : D} {me : ME} {ρ : MEnv} {S S' : Store} (h : me ρ S = .ok (.ex c f d) S') (hc : (c, f, true) ∈ exTab ∨ (c, f, false) ∈ exTab) : mFld exTab f me ρ S = .ok d S' := by
  rw [mFld_eq, h, bind_ok_eq]
  dsimp only
  rw [if_pos ⟨rfl, hc⟩]
theorem values_ok {l : List D} (hl : l.length = 19) (S : Store) : m_l_values [.lst (exs exTab l)] S = .ok (.lst l) S := by
  obtain ⟨d0, d1, d2, d3, d4, d5, d6, d7, d8, d9, d10, d11, d12, d13, d14, d15, d16, d17, d18, rfl⟩ := cut19 hl
  have fx : ∀ (i : Nat) (c f : Str) (d : D), (exs exTab [d0, d1, d2, d3, d4, d5, d6, d7, d8, d9, d10, d11, d12, d13, d14, d15, d16, d17, d18])[i]? = some (.ex c f d) → ((c, f, true) ∈ exTab ∨ (c, f, false) ∈ exTab) → mFld exTab f (m2 gIx (mVar 0) (mC (.int (i : Nat)))) [some (.val (.lst (exs exTab [d0, d1, d2, d3, d4, d5, d6, d7, d8, d9, d10, d11, d12, d13, d14, d15, d16, d17, d18])))] S = .ok d S := fun i c f d h hc => by
    refine fld_run ?_ hc
    have ea := atI_nat h
    simp only [bind_ok_eq, bind_bad_eq, mVar_eq, mC_eq, m2_eq, mNil_eq, mPass_eq, mSeq_eq, mSet_eq, mRet_eq, mDrop_eq, mIf_eq, mB_eq, isB_eq, mAndT_eq, mOrT_eq, mNotT_eq, mAnd_eq, mOr_eq, mNot_eq, mIfE_eq, mChain_eq, aNil_eq, aCons_eq, mTup_eq, mDisp_eq, mLst_eq, mLoc_eq, mOwnL_eq, mCall_eq, mCallK_eq, mAsg_eq, mFor_eq, iSeq_eq, iSeqD_lst, iSeqD_tup, iLst_eq, seqD_lst, iLoc_eq, locD_eq, iScr_eq, scrD_eq, iRange1_eq, iRange2_eq, iEnumM_eq, mLc_eq, mYes_eq, mQ_eq, mQL_eq, mA_eq, mB1_eq, hLen_eq, hTup_eq, hList_eq, hAbs_eq, hInt_eq, hIntB_eq, hMax2_eq, hMin2_eq, gNeg_eq, gI_eq, gI0_eq, gIx_tup, gIx_lst, gIx_scr, gIx_loc, mSetC_eq, putC_eq, mApp_eq, mAppC_eq, qOwn_eq, gLen_tup, gLen_lst, gLen_scr, mDNewK_eq, mDGet2_eq, mDPut_eq, mDSet_eq, dictAt_eq, dictR_eq, keyD_int, keyD_str, mPar_eq, sNil_eq, sVal_eq, sOwnL_eq, setSl_nil, setSl_cons, setD_nil, setD_cons, pat_nm, pat_tp, pats_nil, pats_cons, wipeM_nil, wipeM_cons, forL_nil, lcL_nil, n2_eq, atI0, atI1, atI2, gNe_strs, gEq_strs, gNe_ints, gEq_ints, sz_1, sz_2, sz_3, sz_4, sz_5, sz_6, sz_7, sz_8, sz_9, sz_10, sz_11, sz_12, sz_13, sz_14, sz_15, sz_16, sz_17, sz_18, sz_19, sz_20, mLock_eq, nLock_eq, dictVar_eq, iKeysF_eq, keyV_inl, mRest_eq, restAt_eq, mExt_eq, iTup_eq, tupD_tup, mRetO_eq, gIsB_eq, gNotB_eq, gIsN_non, gIsN_int, gIsN_bl, gIsN_str, gIsN_tup, gIsN_lst, gIsN_loc, gNotN_non, gNotN_int, gNotN_bl, gNotN_str, gNotN_tup, gNotN_lst, gNotN_loc, iZip_eq, mAsg2_eq, mAug_eq, hSortedR_eq, mV_eq, mVL_eq, anyD_lst, anyD_tup, anyD_scr, anyD_loc, mIxO_eq, mSetO_eq, oNone_eq, oSome_eq, mSlT_eq, mSlQ_eq, mTruQ_eq, iRg1_eq, iRg2_eq, mNNew_eq, dictT_eq, mNGet1_eq, mNGet2_eq, gNGet_eq, gNIn_eq, putT_eq, setT_eq, mNPut_eq, mNSet_eq, mDGet1_eq, aStar_eq, mDCopy_eq, gDIn_eq, mIns_eq, mRevQ_eq, mKeysL_eq, mItemsL_eq, mDPop_eq, mBad_eq, mAsgS_eq, mAsgSS_eq, hStrI_eq, gReprA_loc, gReprA_tup, gReprA_lst, gReprA_non, gReprA_bl, gReprA_int, gReprA_str, mRevT_eq, mUp_eq, mSeqX_eq, mIfX_eq, mRaise1_eq, mCallX_eq, mDropX_eq, mSetX_eq, mRetX_eq, mTryF_eq, mLc2_eq, hSortedDB_eq, mSortSet_eq, mCallXK_eq, mListRg_eq, mKeepB_eq, hSortedN_eq, nLockT_eq, dictVarT_eq, iKeysG_eq, gNGetG_eq, dictW_eq, hSortedDL_eq, mEntries_nil, mEntries_cons, mDDisp_eq, gNum_int, gNum_bl, gNumR_int, gNumR_bl, mCallF_eq, gEq0_eq, mExc_eq, mFld_eq, mIsE_eq, mCntB_eq, Nat.zero_le, Nat.zero_add, Nat.reduceAdd, and_self, mDef_eq, List.getElem?_cons_zero, List.getElem?_cons_succ, List.set, List.length_cons, List.length_nil, List.map_cons, List.map_nil, List.replicate, List.cons_append, List.nil_append, List.append_nil, if_true, if_false, ite_true, ite_false, Bool.false_eq_true, Bool.true_eq_false, Bool.not_true, Bool.not_false, List.zip_cons_cons, List.zip_nil_left, ea]
  have a0 : mFld exTab "many" (m2 gIx (mVar 0) (mC (.int 0))) [some (.val (.lst (exs exTab [d0, d1, d2, d3, d4, d5, d6, d7, d8, d9, d10, d11, d12, d13, d14, d15, d16, d17, d18])))] S = .ok d0 S := fx 0 "TooMany" "many" d0 rfl (by decide +kernel)
  have a1 : mFld exTab "point" (m2 gIx (mVar 0) (mC (.int 1))) [some (.val (.lst (exs exTab [d0, d1, d2, d3, d4, d5, d6, d7, d8, d9, d10, d11, d12, d13, d14, d15, d16, d17, d18])))] S = .ok d1 S := fx 1 "Twice" "point" d1 rfl (by decide +kernel)
  have a2 : mFld exTab "number" (m2 gIx (mVar 0) (mC (.int 2))) [some (.val (.lst (exs exTab [d0, d1, d2, d3, d4, d5, d6, d7, d8, d9, d10, d11, d12, d13, d14, d15, d16, d17, d18])))] S = .ok d2 S := fx 2 "OldBallot" "number" d2 rfl (by decide +kernel)
  have a3 : mFld exTab "name" (m2 gIx (mVar 0) (mC (.int 3))) [some (.val (.lst (exs exTab [d0, d1, d2, d3, d4, d5, d6, d7, d8, d9, d10, d11, d12, d13, d14, d15, d16, d17, d18])))] S = .ok d3 S := fx 3 "NotMost" "name" d3 rfl (by decide +kernel)
  have a4 : mFld exTab "row" (m2 gIx (mVar 0) (mC (.int 4))) [some (.val (.lst (exs exTab [d0, d1, d2, d3, d4, d5, d6, d7, d8, d9, d10, d11, d12, d13, d14, d15, d16, d17, d18])))] S = .ok d4 S := fx 4 "Known" "row" d4 rfl (by decide +kernel)
  have a5 : mFld exTab "row" (m2 gIx (mVar 0) (mC (.int 5))) [some (.val (.lst (exs exTab [d0, d1, d2, d3, d4, d5, d6, d7, d8, d9, d10, d11, d12, d13, d14, d15, d16, d17, d18])))] S = .ok d5 S := fx 5 "FarRow" "row" d5 rfl (by decide +kernel)
  have a6 : mFld exTab "thing" (m2 gIx (mVar 0) (mC (.int 6))) [some (.val (.lst (exs exTab [d0, d1, d2, d3, d4, d5, d6, d7, d8, d9, d10, d11, d12, d13, d14, d15, d16, d17, d18])))] S = .ok d6 S := fx 6 "NoLot" "thing" d6 rfl (by decide +kernel)
  have a7 : mFld exTab "point" (m2 gIx (mVar 0) (mC (.int 7))) [some (.val (.lst (exs exTab [d0, d1, d2, d3, d4, d5, d6, d7, d8, d9, d10, d11, d12, d13, d14, d15, d16, d17, d18])))] S = .ok d7 S := fx 7 "NotHeld" "point" d7 rfl (by decide +kernel)
  have a8 : mFld exTab "name" (m2 gIx (mVar 0) (mC (.int 8))) [some (.val (.lst (exs exTab [d0, d1, d2, d3, d4, d5, d6, d7, d8, d9, d10, d11, d12, d13, d14, d15, d16, d17, d18])))] S = .ok d8 S := fx 8 "Fallen" "name" d8 rfl (by decide +kernel)
  have a9 : mFld exTab "name" (m2 gIx (mVar 0) (mC (.int 9))) [some (.val (.lst (exs exTab [d0, d1, d2, d3, d4, d5, d6, d7, d8, d9, d10, d11, d12, d13, d14, d15, d16, d17, d18])))] S = .ok d9 S := fx 9 "Standing" "name" d9 rfl (by decide +kernel)
  have a10 : mFld exTab "thing" (m2 gIx (mVar 0) (mC (.int 10))) [some (.val (.lst (exs exTab [d0, d1, d2, d3, d4, d5, d6, d7, d8, d9, d10, d11, d12, d13, d14, d15, d16, d17, d18])))] S = .ok d10 S := fx 10 "NotMine" "thing" d10 rfl (by decide +kernel)
  have a11 : mFld exTab "thing" (m2 gIx (mVar 0) (mC (.int 11))) [some (.val (.lst (exs exTab [d0, d1, d2, d3, d4, d5, d6, d7, d8, d9, d10, d11, d12, d13, d14, d15, d16, d17, d18])))] S = .ok d11 S := fx 11 "BadWorld" "thing" d11 rfl (by decide +kernel)
  have a12 : mFld exTab "thing" (m2 gIx (mVar 0) (mC (.int 12))) [some (.val (.lst (exs exTab [d0, d1, d2, d3, d4, d5, d6, d7, d8, d9, d10, d11, d12, d13, d14, d15, d16, d17, d18])))] S = .ok d12 S := fx 12 "NoDeed" "thing" d12 rfl (by decide +kernel)
  have a13 : mFld exTab "thing" (m2 gIx (mVar 0) (mC (.int 13))) [some (.val (.lst (exs exTab [d0, d1, d2, d3, d4, d5, d6, d7, d8, d9, d10, d11, d12, d13, d14, d15, d16, d17, d18])))] S = .ok d13 S := fx 13 "NoWord" "thing" d13 rfl (by decide +kernel)
  have a14 : mFld exTab "row" (m2 gIx (mVar 0) (mC (.int 14))) [some (.val (.lst (exs exTab [d0, d1, d2, d3, d4, d5, d6, d7, d8, d9, d10, d11, d12, d13, d14, d15, d16, d17, d18])))] S = .ok d14 S := fx 14 "NoText" "row" d14 rfl (by decide +kernel)
  have a15 : mFld exTab "thing" (m2 gIx (mVar 0) (mC (.int 15))) [some (.val (.lst (exs exTab [d0, d1, d2, d3, d4, d5, d6, d7, d8, d9, d10, d11, d12, d13, d14, d15, d16, d17, d18])))] S = .ok d15 S := fx 15 "NoLine" "thing" d15 rfl (by decide +kernel)
  have a16 : mFld exTab "thing" (m2 gIx (mVar 0) (mC (.int 16))) [some (.val (.lst (exs exTab [d0, d1, d2, d3, d4, d5, d6, d7, d8, d9, d10, d11, d12, d13, d14, d15, d16, d17, d18])))] S = .ok d16 S := fx 16 "NoHand" "thing" d16 rfl (by decide +kernel)
  have a17 : mFld exTab "thing" (m2 gIx (mVar 0) (mC (.int 17))) [some (.val (.lst (exs exTab [d0, d1, d2, d3, d4, d5, d6, d7, d8, d9, d10, d11, d12, d13, d14, d15, d16, d17, d18])))] S = .ok d17 S := fx 17 "NoLetter" "thing" d17 rfl (by decide +kernel)
  have a18 : mFld exTab "point" (m2 gIx (mVar 0) (mC (.int 18))) [some (.val (.lst (exs exTab [d0, d1, d2, d3, d4, d5, d6, d7, d8, d9, d10, d11, d12, d13, d14, d15, d16, d17, d18])))] S = .ok d18 S := fx 18 "NoPoint" "point" d18 rfl (by decide +kernel)
  unfold m_l_values b_l_values
  rw [mDef_eq]
  have z : (19 : Nat) ≤ PySem.sizeLine := by decide
  simp only [bind_ok_eq, bind_bad_eq, mVar_eq, mC_eq, m2_eq, mNil_eq, mPass_eq, mSeq_eq, mSet_eq, mRet_eq, mDrop_eq, mIf_eq, mB_eq, isB_eq, mAndT_eq, mOrT_eq, mNotT_eq, mAnd_eq, mOr_eq, mNot_eq, mIfE_eq, mChain_eq, aNil_eq, aCons_eq, mTup_eq, mDisp_eq, mLst_eq, mLoc_eq, mOwnL_eq, mCall_eq, mCallK_eq, mAsg_eq, mFor_eq, iSeq_eq, iSeqD_lst, iSeqD_tup, iLst_eq, seqD_lst, iLoc_eq, locD_eq, iScr_eq, scrD_eq, iRange1_eq, iRange2_eq, iEnumM_eq, mLc_eq, mYes_eq, mQ_eq, mQL_eq, mA_eq, mB1_eq, hLen_eq, hTup_eq, hList_eq, hAbs_eq, hInt_eq, hIntB_eq, hMax2_eq, hMin2_eq, gNeg_eq, gI_eq, gI0_eq, gIx_tup, gIx_lst, gIx_scr, gIx_loc, mSetC_eq, putC_eq, mApp_eq, mAppC_eq, qOwn_eq, gLen_tup, gLen_lst, gLen_scr, mDNewK_eq, mDGet2_eq, mDPut_eq, mDSet_eq, dictAt_eq, dictR_eq, keyD_int, keyD_str, mPar_eq, sNil_eq, sVal_eq, sOwnL_eq, setSl_nil, setSl_cons, setD_nil, setD_cons, pat_nm, pat_tp, pats_nil, pats_cons, wipeM_nil, wipeM_cons, forL_nil, lcL_nil, n2_eq, atI0, atI1, atI2, gNe_strs, gEq_strs, gNe_ints, gEq_ints, sz_1, sz_2, sz_3, sz_4, sz_5, sz_6, sz_7, sz_8, sz_9, sz_10, sz_11, sz_12, sz_13, sz_14, sz_15, sz_16, sz_17, sz_18, sz_19, sz_20, mLock_eq, nLock_eq, dictVar_eq, iKeysF_eq, keyV_inl, mRest_eq, restAt_eq, mExt_eq, iTup_eq, tupD_tup, mRetO_eq, gIsB_eq, gNotB_eq, gIsN_non, gIsN_int, gIsN_bl, gIsN_str, gIsN_tup, gIsN_lst, gIsN_loc, gNotN_non, gNotN_int, gNotN_bl, gNotN_str, gNotN_tup, gNotN_lst, gNotN_loc, iZip_eq, mAsg2_eq, mAug_eq, hSortedR_eq, mV_eq, mVL_eq, anyD_lst, anyD_tup, anyD_scr, anyD_loc, mIxO_eq, mSetO_eq, oNone_eq, oSome_eq, mSlT_eq, mSlQ_eq, mTruQ_eq, iRg1_eq, iRg2_eq, mNNew_eq, dictT_eq, mNGet1_eq, mNGet2_eq, gNGet_eq, gNIn_eq, putT_eq, setT_eq, mNPut_eq, mNSet_eq, mDGet1_eq, aStar_eq, mDCopy_eq, gDIn_eq, mIns_eq, mRevQ_eq, mKeysL_eq, mItemsL_eq, mDPop_eq, mBad_eq, mAsgS_eq, mAsgSS_eq, hStrI_eq, gReprA_loc, gReprA_tup, gReprA_lst, gReprA_non, gReprA_bl, gReprA_int, gReprA_str, mRevT_eq, mUp_eq, mSeqX_eq, mIfX_eq, mRaise1_eq, mCallX_eq, mDropX_eq, mSetX_eq, mRetX_eq, mTryF_eq, mLc2_eq, hSortedDB_eq, mSortSet_eq, mCallXK_eq, mListRg_eq, mKeepB_eq, hSortedN_eq, nLockT_eq, dictVarT_eq, iKeysG_eq, gNGetG_eq, dictW_eq, hSortedDL_eq, mEntries_nil, mEntries_cons, mDDisp_eq, gNum_int, gNum_bl, gNumR_int, gNumR_bl, mCallF_eq, gEq0_eq, mExc_eq, mIsE_eq, mCntB_eq, Nat.zero_le, Nat.zero_add, Nat.reduceAdd, and_self, mDef_eq, List.getElem?_cons_zero, List.getElem?_cons_succ, List.set, List.length_cons, List.length_nil, List.map_cons, List.map_nil, List.replicate, List.cons_append, List.nil_append, List.append_nil, if_true, if_false, ite_true, ite_false, Bool.false_eq_true, Bool.true_eq_false, Bool.not_true, Bool.not_false, List.zip_cons_cons, List.zip_nil_left, Nat.reduceSub, Nat.sub_self, List.replicate_zero, a0, a1, a2, a3, a4, a5, a6, a7, a8, a9, a10, a11, a12, a13, a14, a15, a16, a17, a18, z]
/-! ### marks -/
def names : List Str := exTab.map (·.1)
theorem isE_run {c n a : Str} {ms : Bool} {d : D} {me : ME} {ρ : MEnv} {S S' : Store} (h : me ρ S = .ok (.ex c n d) S') (hin : (c, n, ms) ∈ exTab) : mIsE exTab a me ρ S = .ok (.bl (isEx ms c a)) S' := by
  have one : ∀ p ∈ exTab, (p.1, p.2.1, !p.2.2) ∉ exTab := by decide +kernel
  rw [mIsE_eq, h, bind_ok_eq]
  dsimp only
  cases ms
  · have h1 : (c, n, true) ∉ exTab := one _ hin
    rw [if_neg h1, if_pos hin]
  · rw [if_pos hin]
theorem marks_ok {c n : Str} {ms : Bool} (hin : (c, n, ms) ∈ exTab) (d : D) (S : Store) : m_l_marks [.ex c n d] S = .ok (.lst (names.map fun a => .bl (isEx ms c a))) S := by
  have hE : ∀ (a : Str) (x : Option Slot), mIsE exTab a (mVar 0) [some (.val (.ex c n d)), x] S = .ok (.bl (isEx ms c a)) S := fun a x => isE_run rfl hin
  unfold m_l_marks b_l_marks
  rw [mDef_eq]
  have z : (19 : Nat) ≤ PySem.sizeLine := by decide
  simp only [bind_ok_eq, bind_bad_eq, mVar_eq, mC_eq, m2_eq, mNil_eq, mPass_eq, mSeq_eq, mSet_eq, mRet_eq, mDrop_eq, mIf_eq, mB_eq, isB_eq, mAndT_eq, mOrT_eq, mNotT_eq, mAnd_eq, mOr_eq, mNot_eq, mIfE_eq, mChain_eq, aNil_eq, aCons_eq, mTup_eq, mDisp_eq, mLst_eq, mLoc_eq, mOwnL_eq, mCall_eq, mCallK_eq, mAsg_eq, mFor_eq, iSeq_eq, iSeqD_lst, iSeqD_tup, iLst_eq, seqD_lst, iLoc_eq, locD_eq, iScr_eq, scrD_eq, iRange1_eq, iRange2_eq, iEnumM_eq, mLc_eq, mYes_eq, mQ_eq, mQL_eq, mA_eq, mB1_eq, hLen_eq, hTup_eq, hList_eq, hAbs_eq, hInt_eq, hIntB_eq, hMax2_eq, hMin2_eq, gNeg_eq, gI_eq, gI0_eq, gIx_tup, gIx_lst, gIx_scr, gIx_loc, mSetC_eq, putC_eq, mApp_eq, mAppC_eq, qOwn_eq, gLen_tup, gLen_lst, gLen_scr, mDNewK_eq, mDGet2_eq, mDPut_eq, mDSet_eq, dictAt_eq, dictR_eq, keyD_int, keyD_str, mPar_eq, sNil_eq, sVal_eq, sOwnL_eq, setSl_nil, setSl_cons, setD_nil, setD_cons, pat_nm, pat_tp, pats_nil, pats_cons, wipeM_nil, wipeM_cons, forL_nil, lcL_nil, n2_eq, atI0, atI1, atI2, gNe_strs, gEq_strs, gNe_ints, gEq_ints, sz_1, sz_2, sz_3, sz_4, sz_5, sz_6, sz_7, sz_8, sz_9, sz_10, sz_11, sz_12, sz_13, sz_14, sz_15, sz_16, sz_17, sz_18, sz_19, sz_20, mLock_eq, nLock_eq, dictVar_eq, iKeysF_eq, keyV_inl, mRest_eq, restAt_eq, mExt_eq, iTup_eq, tupD_tup, mRetO_eq, gIsB_eq, gNotB_eq, gIsN_non, gIsN_int, gIsN_bl, gIsN_str, gIsN_tup, gIsN_lst, gIsN_loc, gNotN_non, gNotN_int, gNotN_bl, gNotN_str, gNotN_tup, gNotN_lst, gNotN_loc, iZip_eq, mAsg2_eq, mAug_eq, hSortedR_eq, mV_eq, mVL_eq, anyD_lst, anyD_tup, anyD_scr, anyD_loc, mIxO_eq, mSetO_eq, oNone_eq, oSome_eq, mSlT_eq, mSlQ_eq, mTruQ_eq, iRg1_eq, iRg2_eq, mNNew_eq, dictT_eq, mNGet1_eq, mNGet2_eq, gNGet_eq, gNIn_eq, putT_eq, setT_eq, mNPut_eq, mNSet_eq, mDGet1_eq, aStar_eq, mDCopy_eq, gDIn_eq, mIns_eq, mRevQ_eq, mKeysL_eq, mItemsL_eq, mDPop_eq, mBad_eq, mAsgS_eq, mAsgSS_eq, hStrI_eq, gReprA_loc, gReprA_tup, gReprA_lst, gReprA_non, gReprA_bl, gReprA_int, gReprA_str, mRevT_eq, mUp_eq, mSeqX_eq, mIfX_eq, mRaise1_eq, mCallX_eq, mDropX_eq, mSetX_eq, mRetX_eq, mTryF_eq, mLc2_eq, hSortedDB_eq, mSortSet_eq, mCallXK_eq, mListRg_eq, mKeepB_eq, hSortedN_eq, nLockT_eq, dictVarT_eq, iKeysG_eq, gNGetG_eq, dictW_eq, hSortedDL_eq, mEntries_nil, mEntries_cons, mDDisp_eq, gNum_int, gNum_bl, gNumR_int, gNumR_bl, mCallF_eq, gEq0_eq, mExc_eq, mFld_eq, mCntB_eq, Nat.zero_le, Nat.zero_add, Nat.reduceAdd, and_self, mDef_eq, List.getElem?_cons_zero, List.getElem?_cons_succ, List.set, List.length_cons, List.length_nil, List.map_cons, List.map_nil, List.replicate, List.cons_append, List.nil_append, List.append_nil, if_true, if_false, ite_true, ite_false, Bool.false_eq_true, Bool.true_eq_false, Bool.not_true, Bool.not_false, List.zip_cons_cons, List.zip_nil_left, Nat.reduceSub, List.replicate_succ, List.replicate_zero, hE, z]
  rfl
theorem family_ok {c n : Str} {ms : Bool} (hin : (c, n, ms) ∈ exTab) (d : D) (S : Store) {k : Int} (hk : decide (16 ≤ k) = ms) : m_l_family_right [.ex c n d, .int k] S = .ok (.bl true) S := by
  have hE : ∀ (a : Str) (x y : Option Slot), mIsE exTab a (mVar 0) [some (.val (.ex c n d)), x, y] S = .ok (.bl (isEx ms c a)) S := fun a x y => isE_run rfl hin
  have i1 : isEx ms c "VoteError" = !ms := by unfold isEx; rw [if_pos (by decide)]
  have i2 : isEx ms c "ValueError" = !ms := by unfold isEx; rw [if_pos (by decide)]
  have i3 : isEx ms c "Missing" = ms := by unfold isEx; rw [if_neg (by decide), if_pos (by decide)]
  have i4 : isEx ms c "LookupError" = ms := by unfold isEx; rw [if_neg (by decide), if_pos (by decide)]
  have q1 : gEqA (.bl (!ms)) (.bl ms) S = .ok (.bl false) S := by cases ms <;> rfl
  have q2 : gEqA (.bl ms) (.bl ms) S = .ok (.bl true) S := by cases ms <;> rfl
  unfold m_l_family_right b_l_family_right
  rw [mDef_eq]
  simp only [bind_ok_eq, bind_bad_eq, mVar_eq, mC_eq, m2_eq, mNil_eq, mPass_eq, mSeq_eq, mSet_eq, mRet_eq, mDrop_eq, mIf_eq, mB_eq, isB_eq, mAndT_eq, mOrT_eq, mNotT_eq, mAnd_eq, mOr_eq, mNot_eq, mIfE_eq, mChain_eq, aNil_eq, aCons_eq, mTup_eq, mDisp_eq, mLst_eq, mLoc_eq, mOwnL_eq, mCall_eq, mCallK_eq, mAsg_eq, mFor_eq, iSeq_eq, iSeqD_lst, iSeqD_tup, iLst_eq, seqD_lst, iLoc_eq, locD_eq, iScr_eq, scrD_eq, iRange1_eq, iRange2_eq, iEnumM_eq, mLc_eq, mYes_eq, mQ_eq, mQL_eq, mA_eq, mB1_eq, hLen_eq, hTup_eq, hList_eq, hAbs_eq, hInt_eq, hIntB_eq, hMax2_eq, hMin2_eq, gNeg_eq, gI_eq, gI0_eq, gIx_tup, gIx_lst, gIx_scr, gIx_loc, mSetC_eq, putC_eq, mApp_eq, mAppC_eq, qOwn_eq, gLen_tup, gLen_lst, gLen_scr, mDNewK_eq, mDGet2_eq, mDPut_eq, mDSet_eq, dictAt_eq, dictR_eq, keyD_int, keyD_str, mPar_eq, sNil_eq, sVal_eq, sOwnL_eq, setSl_nil, setSl_cons, setD_nil, setD_cons, pat_nm, pat_tp, pats_nil, pats_cons, wipeM_nil, wipeM_cons, forL_nil, lcL_nil, n2_eq, atI0, atI1, atI2, gNe_strs, gEq_strs, gNe_ints, gEq_ints, sz_1, sz_2, sz_3, sz_4, sz_5, sz_6, sz_7, sz_8, sz_9, sz_10, sz_11, sz_12, sz_13, sz_14, sz_15, sz_16, sz_17, sz_18, sz_19, sz_20, mLock_eq, nLock_eq, dictVar_eq, iKeysF_eq, keyV_inl, mRest_eq, restAt_eq, mExt_eq, iTup_eq, tupD_tup, mRetO_eq, gIsB_eq, gNotB_eq, gIsN_non, gIsN_int, gIsN_bl, gIsN_str, gIsN_tup, gIsN_lst, gIsN_loc, gNotN_non, gNotN_int, gNotN_bl, gNotN_str, gNotN_tup, gNotN_lst, gNotN_loc, iZip_eq, mAsg2_eq, mAug_eq, hSortedR_eq, mV_eq, mVL_eq, anyD_lst, anyD_tup, anyD_scr, anyD_loc, mIxO_eq, mSetO_eq, oNone_eq, oSome_eq, mSlT_eq, mSlQ_eq, mTruQ_eq, iRg1_eq, iRg2_eq, mNNew_eq, dictT_eq, mNGet1_eq, mNGet2_eq, gNGet_eq, gNIn_eq, putT_eq, setT_eq, mNPut_eq, mNSet_eq, mDGet1_eq, aStar_eq, mDCopy_eq, gDIn_eq, mIns_eq, mRevQ_eq, mKeysL_eq, mItemsL_eq, mDPop_eq, mBad_eq, mAsgS_eq, mAsgSS_eq, hStrI_eq, gReprA_loc, gReprA_tup, gReprA_lst, gReprA_non, gReprA_bl, gReprA_int, gReprA_str, mRevT_eq, mUp_eq, mSeqX_eq, mIfX_eq, mRaise1_eq, mCallX_eq, mDropX_eq, mSetX_eq, mRetX_eq, mTryF_eq, mLc2_eq, hSortedDB_eq, mSortSet_eq, mCallXK_eq, mListRg_eq, mKeepB_eq, hSortedN_eq, nLockT_eq, dictVarT_eq, iKeysG_eq, gNGetG_eq, dictW_eq, hSortedDL_eq, mEntries_nil, mEntries_cons, mDDisp_eq, gNum_int, gNum_bl, gNumR_int, gNumR_bl, mCallF_eq, gEq0_eq, mExc_eq, mFld_eq, mCntB_eq, Nat.zero_le, Nat.zero_add, Nat.reduceAdd, and_self, mDef_eq, List.getElem?_cons_zero, List.getElem?_cons_succ, List.set, List.length_cons, List.length_nil, List.map_cons, List.map_nil, List.replicate, List.cons_append, List.nil_append, List.append_nil, if_true, if_false, ite_true, ite_false, Bool.false_eq_true, Bool.true_eq_false, Bool.not_true, Bool.not_false, List.zip_cons_cons, List.zip_nil_left, Nat.reduceSub, List.replicate_succ, List.replicate_zero, hE, i1, i2, i3, i4, hk, q1, q2]
end K34
set_option maxRecDepth 100000
set_option maxHeartbeats 2000000
/-! slips, runs with slips, rows knitted: as typed things and as data -/
namespace Mo
open L2 PySem
theorem eqvAll_map {α : Type} [DecidableEq α] {f : α → PyData} (h : ∀ x y, PyData.eqv (f x) (f y) = decide (x = y)) : ∀ xs ys : List α, PyData.eqvAll (xs.map f) (ys.map f) = decide (xs = ys)
  | [], [] => by simp [PyData.eqvAll]
  | [], _ :: _ => by simp [PyData.eqvAll]
  | _ :: _, [] => by simp [PyData.eqvAll]
  | x :: xs, y :: ys => by
    rw [List.map_cons, List.map_cons, PyData.eqvAll, h, eqvAll_map h xs ys]
    by_cases e1 : x = y <;> by_cases e2 : xs = ys <;> simp [e1, e2]
theorem canLayAll_map {α : Type} {f : α → PyData} (h : ∀ x, (f x).canLay0 = true) : ∀ xs : List α, PyData.canLayAll0 (xs.map f) = true
  | [] => rfl
  | x :: xs => by rw [List.map_cons, PyData.canLayAll0, h, canLayAll_map h xs]; rfl
theorem nums_int {i : Int} (h : i.natAbs < 2 ^ 64) : nums (.int i) = true := by rw [nums]; exact decide_eq_true (log_lt h)
abbrev Bal := Int × Int
abbrev Row := Int × Bal × Int
abbrev Slip := Bal × List Row
abbrev Run := Int × Int × Slip
def dB (b : Bal) : D := .tup [.int b.1, .int b.2]
def dR (t : Row) : D := .tup [.int t.1, dB t.2.1, .int t.2.2]
def dS (s : Slip) : D := .tup [dB s.1, .tup (s.2.map dR)]
def dN (r : Run) : D := .tup [.int r.1, .int r.2.1, dS r.2.2]
def qB (b : Bal) : PyData := .tuple [.int b.1, .int b.2]
def qR (t : Row) : PyData := .tuple [.int t.1, qB t.2.1, .int t.2.2]
def qS (s : Slip) : PyData := .tuple [qB s.1, .tuple (s.2.map qR)]
def qN (r : Run) : PyData := .tuple [.int r.1, .int r.2.1, qS r.2.2]
theorem toP_B (b : Bal) : toP (dB b) = some (qB b) := rfl
theorem toP_R (t : Row) : toP (dR t) = some (qR t) := rfl
theorem toP_S (s : Slip) : toP (dS s) = some (qS s) := by unfold dS qS; simp only [toP, toPs, toP_B, toPs_map toP_R, Option.map_some]
theorem toP_N (r : Run) : toP (dN r) = some (qN r) := by unfold dN qN; simp only [toP, toPs, toP_S, Option.map_some]
theorem eqv_B (a b : Bal) : PyData.eqv (qB a) (qB b) = decide (a = b) := by
  obtain ⟨a1, a2⟩ := a; obtain ⟨b1, b2⟩ := b
  simp only [qB, PyData.eqv, PyData.eqvAll, Bool.and_true]
  by_cases e1 : a1 = b1 <;> by_cases e2 : a2 = b2 <;> simp [e1, e2]
theorem eqv_R (a b : Row) : PyData.eqv (qR a) (qR b) = decide (a = b) := by
  obtain ⟨a1, a2, a3⟩ := a; obtain ⟨b1, b2, b3⟩ := b
  simp only [qR, PyData.eqv, PyData.eqvAll, Bool.and_true, eqv_B]
  by_cases e1 : a1 = b1 <;> by_cases e2 : a2 = b2 <;> by_cases e3 : a3 = b3 <;> simp [e1, e2, e3]
theorem eqv_S (a b : Slip) : PyData.eqv (qS a) (qS b) = decide (a = b) := by
  obtain ⟨a1, a2⟩ := a; obtain ⟨b1, b2⟩ := b
  simp only [qS, PyData.eqv, PyData.eqvAll, Bool.and_true, eqv_B, eqvAll_map eqv_R]
  by_cases e1 : a1 = b1 <;> by_cases e2 : a2 = b2 <;> simp [e1, e2]
theorem lay_B (b : Bal) : (qB b).canLay0 = true := by simp [qB, PyData.canLay0, PyData.canLayAll0]
theorem lay_R (t : Row) : (qR t).canLay0 = true := by simp [qR, PyData.canLay0, PyData.canLayAll0, lay_B]
theorem lay_S (s : Slip) : (qS s).canLay0 = true := by simp [qS, PyData.canLay0, PyData.canLayAll0, lay_B, canLayAll_map lay_R]
theorem depth_B (b : Bal) : (qB b).depth ≤ 3 := by simp [qB, PyData.depth, PyData.depthAll]
theorem depth_R (t : Row) : (qR t).depth ≤ 6 := by
  have := depth_B t.2.1
  simp only [qR, PyData.depth, PyData.depthAll]; omega
theorem depth_S (s : Slip) : (qS s).depth ≤ 10 := by
  have := depthAll_map (g := qR) (k := 6) (xs := s.2) fun t _ => depth_R t
  have := depth_B s.1
  simp only [qS, PyData.depth, PyData.depthAll]; omega
theorem depth_N (r : Run) : (qN r).depth ≤ 14 := by
  have := depth_S r.2.2
  simp only [qN, PyData.depth, PyData.depthAll]; omega
theorem shaped_of {p : PyData} (h : p.canLay0 = true) (hd : p.depth ≤ 64) : SeqAt.shaped p = true := by
  unfold SeqAt.shaped; rw [h, decide_eq_true hd]; rfl
theorem eqD_of2 {x y : D} {p q : PyData} {k : Bool} (h1 : toP x = some p) (h2 : toP y = some q) (s1 : SeqAt.shaped p = true) (s2 : SeqAt.shaped q = true) (e : PyData.eqv p q = k) : eqD x y = some k := by
  unfold eqD
  rw [h1, h2]
  dsimp only
  rw [if_pos ⟨s1, s2⟩, e]
theorem eqD_S (a b : Slip) : eqD (dS a) (dS b) = some (decide (a = b)) := eqD_of2 (toP_S a) (toP_S b) (shaped_of (lay_S a) (by have := depth_S a; omega)) (shaped_of (lay_S b) (by have := depth_S b; omega)) (eqv_S a b)
theorem eqD_B (a b : Bal) : eqD (dB a) (dB b) = some (decide (a = b)) := eqD_of2 (toP_B a) (toP_B b) (shaped_of (lay_B a) (by have := depth_B a; omega)) (shaped_of (lay_B b) (by have := depth_B b; omega)) (eqv_B a b)
/-- (slip,) == (slip,) -/
theorem eqD_S1 (a b : Slip) : eqD (.tup [dS a]) (.tup [dS b]) = some (decide (a = b)) := by
  refine eqD_of2 (p := .tuple [qS a]) (q := .tuple [qS b]) ?_ ?_ ?_ ?_ ?_
  · simp only [toP, toPs, toP_S, Option.map_some]
  · simp only [toP, toPs, toP_S, Option.map_some]
  · have := depth_S a
    exact shaped_of (by simp [PyData.canLay0, PyData.canLayAll0, lay_S]) (by simp only [PyData.depth, PyData.depthAll]; omega)
  · have := depth_S b
    exact shaped_of (by simp [PyData.canLay0, PyData.canLayAll0, lay_S]) (by simp only [PyData.depth, PyData.depthAll]; omega)
  · simp only [PyData.eqv, PyData.eqvAll, eqv_S, Bool.and_true]
theorem gEqA_tup {l m : List D} {k : Bool} (h : eqD (.tup l) (.tup m) = some k) (S : Store) : gEqA (.tup l) (.tup m) S = .ok (.bl k) S := by
  show gEq (.tup l) (.tup m) S = _
  unfold gEq; rw [h]
theorem gNeA_tup {l m : List D} {k : Bool} (h : eqD (.tup l) (.tup m) = some k) (S : Store) : gNeA (.tup l) (.tup m) S = .ok (.bl (!k)) S := by
  show gNe (.tup l) (.tup m) S = _
  unfold gNe; rw [h]
theorem gEqA_lst {l m : List D} {k : Bool} (h : eqD (.lst l) (.lst m) = some k) (S : Store) : gEqA (.lst l) (.lst m) S = .ok (.bl k) S := by
  show gEq (.lst l) (.lst m) S = _
  unfold gEq; rw [h]
theorem eqS (a b : Slip) (S : Store) : gEqA (dS a) (dS b) S = .ok (.bl (decide (a = b))) S := gEqA_tup (eqD_S a b) S
theorem eqS1 (a b : Slip) (S : Store) : gEqA (.tup [dS a]) (.tup [dS b]) S = .ok (.bl (decide (a = b))) S := gEqA_tup (eqD_S1 a b) S
theorem eqB (a b : Bal) (S : Store) : gEqA (dB a) (dB b) S = .ok (.bl (decide (a = b))) S := gEqA_tup (eqD_B a b) S
theorem neB (a b : Bal) (S : Store) : gNeA (dB a) (dB b) S = .ok (.bl (!decide (a = b))) S := gNeA_tup (eqD_B a b) S
/-- a list of data is [] -/
theorem eqD_nil {α : Type} {f : α → D} {g : α → PyData} (h : ∀ x, toP (f x) = some (g x)) (hl : ∀ x, (g x).canLay0 = true) (hd : ∀ x, (g x).depth ≤ 60) (l : List α) : eqD (.lst (l.map f)) (.lst []) = some l.isEmpty := by
  refine eqD_of2 (p := .list (l.map g)) (q := .list []) ?_ rfl ?_ ?_ ?_
  · rw [toP, toPs_map h]; rfl
  · have := depthAll_map (g := g) (k := 60) (xs := l) fun x _ => hd x
    exact shaped_of (by simp [PyData.canLay0, canLayAll_map hl]) (by simp only [PyData.depth]; omega)
  · exact shaped_of (by simp [PyData.canLay0, PyData.canLayAll0]) (by simp [PyData.depth, PyData.depthAll])
  · cases l <;> simp [PyData.eqv, PyData.eqvAll]
theorem lay_N (r : Run) : (qN r).canLay0 = true := by simp [qN, PyData.canLay0, PyData.canLayAll0, lay_S]
theorem eqN_nil (l : List Run) : eqD (.lst (l.map dN)) (.lst []) = some l.isEmpty := eqD_nil toP_N lay_N (fun x => by have := depth_N x; omega) l
theorem eqB_nil (l : List Bal) : eqD (.lst (l.map dB)) (.lst []) = some l.isEmpty := eqD_nil toP_B lay_B (fun x => by have := depth_B x; omega) l
/-! ### the greater of two ballots -/
def ltB (a b : Bal) : Bool := decide (a.1 < b.1 ∨ a.1 = b.1 ∧ a.2 < b.2)
theorem two_B (a b : Bal) : two? (dB a) (dB b) = some (qB a, qB b) := by
  unfold two?
  rw [toP_B, toP_B]
  dsimp only
  rw [if_pos]
  refine ⟨?_, ?_⟩
  · simp [alikeB, notNoneP, qB, PySem.W.alike, PySem.W.alikeAll]
  · have := depth_B a
    have := depth_B b
    simp only [PyData.depthAll]; omega
theorem max2B (a b : Bal) (S : Store) : hMax2D [dB a, dB b] S = .ok (dB (if ltB a b = true then b else a)) S := by
  show (match two? (dB a) (dB b) with
    | some (p, q) => R.ok (if PySem.W.dataLt p q = true then dB b else dB a) S
    | none => .bad) = _
  rw [two_B]
  dsimp only
  rw [show PySem.W.dataLt (qB a) (qB b) = ltB a b from PySem.W.dataLt_ii ..]
  cases ltB a b <;> rfl
theorem min2B (a b : Bal) (S : Store) : hMin2D [dB a, dB b] S = .ok (dB (if ltB b a = true then b else a)) S := by
  show (match two? (dB a) (dB b) with
    | some (p, q) => R.ok (if PySem.W.dataLt q p = true then dB b else dB a) S
    | none => .bad) = _
  rw [two_B]
  dsimp only
  rw [show PySem.W.dataLt (qB b) (qB a) = ltB b a from PySem.W.dataLt_ii ..]
  cases ltB b a <;> rfl
/-! ### rows knitted -/
section knit
variable {σ : Type} [DecidableEq σ]
/-- one row behind those that are knitted already -/
def kn (A : List (Int × Int × σ)) (x : Int × Int × σ) : List (Int × Int × σ) := match A.getLast? with
  | some r => if r.2.1 + 1 = x.1 ∧ r.2.2 = x.2.2 then A.dropLast ++ [(r.1, x.2.1, x.2.2)] else A ++ [x]
  | none => A ++ [x]
def knit (xs : List (Int × Int × σ)) : List (Int × Int × σ) := xs.foldl kn []
theorem knit_add (xs : List (Int × Int × σ)) (x : Int × Int × σ) : knit (xs ++ [x]) = kn (knit xs) x := by unfold knit; rw [List.foldl_append]; rfl
theorem kn_nil (x : Int × Int × σ) : kn [] x = [x] := rfl
theorem kn_snoc (A : List (Int × Int × σ)) (r x : Int × Int × σ) : kn (A ++ [r]) x = if r.2.1 + 1 = x.1 ∧ r.2.2 = x.2.2 then A ++ [(r.1, x.2.1, x.2.2)] else A ++ [r] ++ [x] := by
  unfold kn
  rw [List.getLast?_concat, List.dropLast_concat]
theorem snoc_cases (A : List (Int × Int × σ)) : A = [] ∨ ∃ B r, A = B ++ [r] := by
  rcases A.eq_nil_or_concat with h | ⟨B, r, h⟩
  · exact .inl h
  · exact .inr ⟨B, r, by simpa using h⟩
/-- a row that goes on the one ahead -/
theorem kn_kn (A : List (Int × Int × σ)) (f l l' : Int) (s : σ) : kn (kn A (f, l, s)) (l + 1, l', s) = kn A (f, l', s) := by
  rcases snoc_cases A with h | ⟨B, r, h⟩
  · subst h
    rw [kn_nil, kn_nil]
    show kn ([] ++ [(f, l, s)]) _ = _
    rw [kn_snoc, if_pos ⟨rfl, rfl⟩]
    rfl
  · subst h
    rw [kn_snoc, kn_snoc]
    by_cases hc : r.2.1 + 1 = f ∧ r.2.2 = s
    · rw [if_pos hc, if_pos hc, kn_snoc, if_pos ⟨rfl, rfl⟩]
    · rw [if_neg hc, if_neg hc, kn_snoc, if_pos ⟨rfl, rfl⟩]
theorem knit_cases (xs : List (Int × Int × σ)) (x : Int × Int × σ) : (∃ A r, knit xs = A ++ [r] ∧ r.2.1 + 1 = x.1 ∧ r.2.2 = x.2.2 ∧ knit (xs ++ [x]) = A ++ [(r.1, x.2.1, x.2.2)]) ∨ ((∀ A r, knit xs = A ++ [r] → ¬ (r.2.1 + 1 = x.1 ∧ r.2.2 = x.2.2)) ∧ knit (xs ++ [x]) = knit xs ++ [x]) := by
  rw [knit_add]
  rcases snoc_cases (knit xs) with h | ⟨B, r, h⟩
  · refine .inr ⟨fun A r e => ?_, ?_⟩
    · rw [h] at e; simp at e
    · rw [h]; rfl
  · rw [h, kn_snoc]
    by_cases hc : r.2.1 + 1 = x.1 ∧ r.2.2 = x.2.2
    · exact .inl ⟨B, r, rfl, hc.1, hc.2, by rw [if_pos hc]⟩
    · refine .inr ⟨fun A r' e => ?_, by rw [if_neg hc]⟩
      have := List.append_inj' e rfl
      cases this.2
      exact hc
theorem snoc_induct {α : Type} {P : List α → Prop} (h0 : P []) (h1 : ∀ l x, P l → P (l ++ [x])) (l : List α) : P l := by
  suffices ∀ r : List α, P r.reverse by have := this l.reverse; rwa [List.reverse_reverse] at this
  intro r
  induction r with
  | nil => exact h0
  | cons x r ih => rw [List.reverse_cons]; exact h1 _ _ ih
def onS {τ : Type} (h : σ → τ) (r : Int × Int × σ) : Int × Int × τ := (r.1, r.2.1, h r.2.2)
theorem knit_map {τ : Type} [DecidableEq τ] (h : σ → τ) (xs : List (Int × Int × σ)) : knit ((knit xs).map (onS h)) = knit (xs.map (onS h)) := by
  refine snoc_induct (P := fun xs => knit ((knit xs).map (onS h)) = knit (xs.map (onS h))) rfl (fun xs x ih => ?_) xs
  rw [List.map_append, List.map_singleton, knit_add (xs.map (onS h))]
  rcases knit_cases xs x with ⟨A, r, e1, e2, e3, e4⟩ | ⟨_, e4⟩
  · rw [e4, List.map_append, List.map_singleton, knit_add, ← ih, e1, List.map_append, List.map_singleton, knit_add]
    have := kn_kn (knit (A.map (onS h))) r.1 r.2.1 x.2.1 (h x.2.2)
    rw [e2, ← e3] at this
    unfold onS
    rw [← e3]
    exact this.symm
  · rw [e4, List.map_append, List.map_singleton, knit_add, ih]
/-- rows that rise -/
def Rise (xs : List (Int × Int × σ)) : Prop := xs.Pairwise (fun a b => a.2.1 < b.1) ∧ ∀ a ∈ xs, a.1 ≤ a.2.1
theorem Rise.init {xs : List (Int × Int × σ)} {x : Int × Int × σ} (h : Rise (xs ++ [x])) : Rise xs ∧ (∀ a ∈ xs, a.2.1 < x.1) ∧ x.1 ≤ x.2.1 := by
  obtain ⟨h1, h2⟩ := h
  rw [List.pairwise_append] at h1
  exact ⟨⟨h1.1, fun a ha => h2 a (List.mem_append_left _ ha)⟩, fun a ha => h1.2.2 a ha x (List.mem_singleton.mpr rfl), h2 x (by simp)⟩
/-- what is knitted ends where what it was knitted of ends -/
theorem knit_end {xs : List (Int × Int × σ)} {c : Int} (h : Rise xs) (hc : ∀ a ∈ xs, a.2.1 < c) : Rise (knit xs) ∧ ∀ a ∈ knit xs, a.2.1 < c := by
  revert c
  refine snoc_induct (P := fun xs => Rise xs → ∀ {c : Int}, (∀ a ∈ xs, a.2.1 < c) → Rise (knit xs) ∧ ∀ a ∈ knit xs, a.2.1 < c) (fun _ c _ => ⟨⟨.nil, fun a h => nomatch h⟩, fun a h => nomatch h⟩) (fun xs x ih h c hc => ?_) xs h
  obtain ⟨h1, h2, h3⟩ := h.init
  obtain ⟨r1, r2⟩ := ih h1 h2
  have hcx := hc x (by simp)
  rcases knit_cases xs x with ⟨A, r, e1, e2, e3, e4⟩ | ⟨_, e4⟩
  · rw [e4]
    rw [e1] at r1 r2
    obtain ⟨q1, q2, q3⟩ := r1.init
    refine ⟨⟨?_, fun a ha => ?_⟩, fun a ha => ?_⟩
    · rw [List.pairwise_append]
      exact ⟨q1.1, List.pairwise_singleton _ _, fun a ha b hb => by rw [List.mem_singleton.mp hb]; exact q2 a ha⟩
    · rcases List.mem_append.mp ha with m | m
      · exact q1.2 a m
      · rw [List.mem_singleton.mp m]; dsimp only; omega
    · rcases List.mem_append.mp ha with m | m
      · have := q2 a m; have := r2 r (by simp); omega
      · rw [List.mem_singleton.mp m]; exact hcx
  · rw [e4]
    refine ⟨⟨?_, fun a ha => ?_⟩, fun a ha => ?_⟩
    · rw [List.pairwise_append]
      exact ⟨r1.1, List.pairwise_singleton _ _, fun a ha b hb => by rw [List.mem_singleton.mp hb]; exact r2 a ha⟩
    · rcases List.mem_append.mp ha with m | m
      · exact r1.2 a m
      · rw [List.mem_singleton.mp m]; exact h3
    · rcases List.mem_append.mp ha with m | m
      · have := r2 a m; omega
      · rw [List.mem_singleton.mp m]; exact hcx
theorem knit_filter (p : σ → Bool) {xs : List (Int × Int × σ)} (h : Rise xs) : (knit xs).filter (fun r => p r.2.2) = knit (xs.filter fun r => p r.2.2) := by
  refine snoc_induct (P := fun xs => Rise xs → (knit xs).filter (fun r => p r.2.2) = knit (xs.filter fun r => p r.2.2)) (fun _ => rfl) (fun xs x ih h => ?_) xs h
  obtain ⟨h1, h2, h3⟩ := h.init
  have ih := ih h1
  obtain ⟨r1, r2⟩ := knit_end h1 h2
  rw [List.filter_append]
  cases hp : p x.2.2 with
  | false =>
    have e0 : [x].filter (fun r => p r.2.2) = [] := by simp [hp]
    rw [e0, List.append_nil, ← ih]
    rcases knit_cases xs x with ⟨A, r, e1, e2, e3, e4⟩ | ⟨_, e4⟩
    · have hr : p r.2.2 = false := by rw [e3]; exact hp
      rw [e4, e1, List.filter_append, List.filter_append]
      simp [hp, hr]
    · rw [e4, List.filter_append, e0, List.append_nil]
  | true =>
    have e0 : [x].filter (fun r => p r.2.2) = [x] := by simp [hp]
    rw [e0, knit_add (xs.filter fun r => p r.2.2), ← ih]
    rcases knit_cases xs x with ⟨A, r, e1, e2, e3, e4⟩ | ⟨hn, e4⟩
    · have hr : p r.2.2 = true := by rw [e3]; exact hp
      rw [e4, e1, List.filter_append, List.filter_append]
      have f1 : [r].filter (fun r => p r.2.2) = [r] := by simp [hr]
      have f2 : [(r.1, x.2.1, x.2.2)].filter (fun r => p r.2.2) = [(r.1, x.2.1, x.2.2)] := by simp [hp]
      rw [f1, f2, kn_snoc, if_pos ⟨e2, e3⟩]
    · rw [e4, List.filter_append, e0]
      rcases snoc_cases ((knit xs).filter fun r => p r.2.2) with g | ⟨B, r', g⟩
      · rw [g]; rfl
      · rw [g, kn_snoc, if_neg]
        rintro ⟨k1, k2⟩
        have hm : r' ∈ knit xs := by
          have : r' ∈ (knit xs).filter fun r => p r.2.2 := by rw [g]; simp
          exact (List.mem_filter.mp this).1
        rcases snoc_cases (knit xs) with u | ⟨C, z, u⟩
        · rw [u] at hm; cases hm
        · have hz := hn C z u
          rw [u] at r1 r2 hm
          obtain ⟨q1, q2, q3⟩ := r1.init
          rcases List.mem_append.mp hm with m | m
          · have := q2 r' m; have := r2 z (by simp); omega
          · rw [List.mem_singleton.mp m] at k1 k2
            exact hz ⟨k1, k2⟩
end knit
end Mo
set_option maxRecDepth 100000
set_option maxHeartbeats 2000000
/-! rows of slips in order -/
namespace Mo
open L2 PySem
/-- the order of rows -/
def ltR (a b : Row) : Bool := decide (a.1 < b.1 ∨ a.1 = b.1 ∧ ((a.2.1.1 < b.2.1.1 ∨ a.2.1.1 = b.2.1.1 ∧ a.2.1.2 < b.2.1.2) ∨ a.2.1 = b.2.1 ∧ a.2.2 < b.2.2))
theorem alike_R (a b : Row) : PySem.W.alike (qR a) (qR b) = true := by simp [qR, qB, PySem.W.alike, PySem.W.alikeAll]
theorem lt_qR (a b : Row) : PySem.W.dataLt (qR a) (qR b) = ltR a b := by
  unfold qR
  rw [PySem.W.dataLt_tuple, PySem.W.dataLt_cons (by simp [PySem.W.alike]), PySem.W.dataLt_cons (by simp [qB, PySem.W.alike, PySem.W.alikeAll]), PySem.W.dataLt_cons (by simp [PySem.W.alike])]
  have e0 := PyProof.Rows.lex_irrefl (O := PyProof.Rows.itemOrd) (PySem.W.keyToksAll [])
  rw [e0]
  rw [show PySem.W.dataLt (qB a.2.1) (qB b.2.1) = _ from PySem.W.dataLt_ii .., PySem.W.dataLt_int, PySem.W.dataLt_int]
  simp only [PyData.eqv, eqv_B, beq_iff_eq, decide_eq_true_eq]
  unfold ltR
  by_cases h1 : a.1 = b.1 <;> by_cases h2 : a.2.1 = b.2.1 <;> by_cases h3 : a.2.2 = b.2.2 <;> simp [h1, h2, h3]
def leR (a b : Row) : Bool := !ltR b a
def sortR (l : List Row) : List Row := l.mergeSort leR
theorem leR_iff {a b : Row} : leR a b = true ↔ ¬ (b.1 < a.1 ∨ b.1 = a.1 ∧ ((b.2.1.1 < a.2.1.1 ∨ b.2.1.1 = a.2.1.1 ∧ b.2.1.2 < a.2.1.2) ∨ b.2.1 = a.2.1 ∧ b.2.2 < a.2.2)) := by
  unfold leR ltR
  rw [Bool.not_eq_true', decide_eq_false_iff_not]
theorem pair_eq {a b : Bal} : a = b ↔ a.1 = b.1 ∧ a.2 = b.2 := Prod.ext_iff
theorem leR_total (a b : Row) : (leR a b || leR b a) = true := by
  rw [Bool.or_eq_true, leR_iff, leR_iff, pair_eq, pair_eq]; omega
theorem leR_trans (a b c : Row) (h1 : leR a b = true) (h2 : leR b c = true) : leR a c = true := by
  rw [leR_iff, pair_eq] at *; omega
theorem leR_anti {a b : Row} (h1 : leR a b = true) (h2 : leR b a = true) : a = b := by
  rw [leR_iff, pair_eq] at *
  obtain ⟨a1, ⟨a2, a3⟩, a4⟩ := a
  obtain ⟨b1, ⟨b2, b3⟩, b4⟩ := b
  dsimp only at *
  have e1 : a1 = b1 := by omega
  have e2 : a2 = b2 := by omega
  have e3 : a3 = b3 := by omega
  have e4 : a4 = b4 := by omega
  rw [e1, e2, e3, e4]
theorem sortR_sorted (l : List Row) : (sortR l).Pairwise fun a b => leR a b = true := List.pairwise_mergeSort leR_trans leR_total l
theorem sortR_perm (l : List Row) : (sortR l).Perm l := List.mergeSort_perm _ _
theorem sortR_eq {l m : List Row} (h : l.Perm m) (hm : m.Pairwise fun a b => leR a b = true) : sortR l = m :=
  ((sortR_perm l).trans h).eq_of_pairwise (fun a b _ _ h h' => leR_anti h h') (sortR_sorted l) hm
theorem sortR_congr {l m : List Row} (h : l.Perm m) : sortR l = sortR m := sortR_eq (h.trans (sortR_perm m).symm) (sortR_sorted m)
theorem sortR_mem {l : List Row} {t : Row} : t ∈ sortR l ↔ t ∈ l := List.mem_mergeSort
theorem sortR_len (l : List Row) : (sortR l).length = l.length := (sortR_perm l).length_eq
theorem encD_R (t : Row) : encD (dR t) = qR t := by unfold encD; rw [toP_R]; rfl
theorem sorted_R (l : List Row) (S : Store) : hSorted (l.map dR) S = .ok ((sortR l).map dR) S := by
  unfold hSorted
  rw [toPs_map toP_R]
  dsimp only
  have h1 : (l.map qR).all (fun x => (l.map qR).all (PySem.W.alike x)) = true := by
    rw [List.all_eq_true]
    intro x hx
    rw [List.all_eq_true]
    intro y hy
    obtain ⟨a, _, ea⟩ := List.mem_map.mp hx
    obtain ⟨b, _, eb⟩ := List.mem_map.mp hy
    rw [← ea, ← eb, alike_R]
  have h2 : sortableB (l.map qR) = true := by
    unfold sortableB
    rw [Bool.or_eq_true, List.all_eq_true]
    refine .inl fun x hx => ?_
    obtain ⟨a, _, ea⟩ := List.mem_map.mp hx
    rw [← ea]; rfl
  have h3 : PyData.depthAll (l.map qR) ≤ 60 := depthAll_map fun t _ => by have := depth_R t; omega
  rw [if_pos ⟨h1, h2, h3⟩]
  congr 1
  unfold sortD sortR
  refine (List.map_mergeSort fun a _ b _ => ?_).symm
  show leR a b = !PySem.W.dataLt (encD (dR b)) (encD (dR a))
  rw [encD_R, encD_R, lt_qR]
  rfl
/-! ### a row in rows -/
theorem in_R (t : Row) (l : List Row) (S : Store) : gInA false (dR t) (.tup (l.map dR)) S = .ok (.bl (decide (t ∈ l))) S := by
  unfold gInA
  rw [toP_R, toP, toPs_map toP_R]
  dsimp only [Option.map]
  simp only [seqP]
  have h1 : SeqAt.shaped (qR t) = true := shaped_of (lay_R t) (by have := depth_R t; omega)
  have h2 : SeqAt.shaped (.tuple (l.map qR)) = true := by
    have := depthAll_map (g := qR) (k := 6) (xs := l) fun t _ => depth_R t
    exact shaped_of (by simp [PyData.canLay0, canLayAll_map lay_R]) (by simp only [PyData.depth]; omega)
  rw [if_pos ⟨h1, h2⟩]
  congr 2
  rw [Bool.bne_false, List.any_map]
  induction l with
  | nil => simp
  | cons a l ih =>
    rw [List.any_cons]
    have h2' : SeqAt.shaped (.tuple (l.map qR)) = true := by
      have := depthAll_map (g := qR) (k := 6) (xs := l) fun t _ => depth_R t
      exact shaped_of (by simp [PyData.canLay0, canLayAll_map lay_R]) (by simp only [PyData.depth]; omega)
    rw [ih h2']
    show (PyData.eqv (qR a) (qR t) || decide (t ∈ l)) = _
    rw [eqv_R]
    by_cases e : a = t
    · subst e; simp
    · have : ¬ t = a := fun z => e z.symm
      simp [e, this]
end Mo
set_option maxRecDepth 100000
set_option maxHeartbeats 1000000
/-! Mo: sums, orders of numbers, types told. -/
namespace Mo
open PySem L2
theorem intsD_map : ∀ ns : List Int, intsD (ns.map .int) = some ns
  | [] => rfl
  | n :: ns => by rw [List.map_cons, intsD, intsD_map ns]; rfl
theorem blsD_map : ∀ ns : List Bool, blsD (ns.map .bl) = some ns
  | [] => rfl
  | n :: ns => by rw [List.map_cons, blsD, blsD_map ns]; rfl
theorem hSum_ints (ns : List Int) (S : Store) : hSum (ns.map .int) S = .ok (.int ns.sum) S := by unfold hSum; rw [intsD_map]
theorem hAll_bls (bs : List Bool) (S : Store) : hAll (bs.map .bl) S = .ok (.bl (bs.all id)) S := by unfold hAll; rw [blsD_map]
/-- numbers from 0 -/
def dN' (n : Nat) : D := .int (n : Int)
theorem map_nat (ns : List Nat) : ns.map (fun n : Nat => D.int (n : Int)) = (ns.map (fun n : Nat => (n : Int))).map .int := by rw [List.map_map]; rfl
theorem sum_nat : ∀ ns : List Nat, (ns.map (fun n : Nat => (n : Int))).sum = ((ns.sum : Nat) : Int)
  | [] => rfl
  | n :: ns => by rw [List.map_cons, List.sum_cons, List.sum_cons, sum_nat ns, Int.natCast_add]
theorem hSum_nat (ns : List Nat) (S : Store) : hSum (ns.map fun n : Nat => D.int (n : Int)) S = .ok (.int ((ns.sum : Nat) : Int)) S := by rw [map_nat, hSum_ints, sum_nat]
/-- isinstance, told -/
theorem k_int_int : kitB "int" "int" = some true := by decide +kernel
theorem k_int_bool : kitB "int" "bool" = some false := by decide +kernel
theorem k_int_tuple : kitB "int" "tuple" = some false := by decide +kernel
theorem k_int_str : kitB "int" "str" = some false := by decide +kernel
theorem k_bool_int : kitB "bool" "int" = some true := by decide +kernel
theorem k_bool_bool : kitB "bool" "bool" = some true := by decide +kernel
theorem k_bool_tuple : kitB "bool" "tuple" = some false := by decide +kernel
theorem k_bool_str : kitB "bool" "str" = some false := by decide +kernel
theorem k_str_int : kitB "str" "int" = some false := by decide +kernel
theorem k_str_bool : kitB "str" "bool" = some false := by decide +kernel
theorem k_str_tuple : kitB "str" "tuple" = some false := by decide +kernel
theorem k_str_str : kitB "str" "str" = some true := by decide +kernel
theorem k_non_int : kitB "NoneType" "int" = some false := by decide +kernel
theorem k_non_bool : kitB "NoneType" "bool" = some false := by decide +kernel
theorem k_non_tuple : kitB "NoneType" "tuple" = some false := by decide +kernel
theorem k_non_str : kitB "NoneType" "str" = some false := by decide +kernel
theorem k_tup_int : kitB "tuple" "int" = some false := by decide +kernel
theorem k_tup_bool : kitB "tuple" "bool" = some false := by decide +kernel
theorem k_tup_tuple : kitB "tuple" "tuple" = some true := by decide +kernel
theorem k_tup_str : kitB "tuple" "str" = some false := by decide +kernel
theorem k_lst_int : kitB "list" "int" = some false := by decide +kernel
theorem k_lst_bool : kitB "list" "bool" = some false := by decide +kernel
theorem k_lst_tuple : kitB "list" "tuple" = some false := by decide +kernel
theorem k_lst_str : kitB "list" "str" = some false := by decide +kernel
theorem k_dct_int : kitB "dict" "int" = some false := by decide +kernel
theorem k_dct_bool : kitB "dict" "bool" = some false := by decide +kernel
theorem k_dct_tuple : kitB "dict" "tuple" = some false := by decide +kernel
theorem k_dct_str : kitB "dict" "str" = some false := by decide +kernel
/-- what isinstance tells, by kinds -/
def isTy : D → String → Bool
  | .int _, t => t == "int"
  | .bl _, t => t == "int" || t == "bool"
  | .str _, t => t == "str"
  | .tup _, t => t == "tuple"
  | _, _ => false
def tyKnown : D → Store → Bool
  | .raw _, _ => false
  | .scr _, _ => false
  | .loc n, S => match S[n]? with
    | some (.dT _) => false
    | some (.dG _) => false
    | some _ => true
    | none => false
  | .ex _ _ _, _ => false
  | _, _ => true
theorem hIsi_of (d : D) (t : String) (S : Store) (ht : t = "int" ∨ t = "bool" ∨ t = "tuple" ∨ t = "str") (h : tyKnown d S = true) : hIsi [d, .raw (.ty t)] S = .ok (.bl (isTy d t)) S := by
  unfold hIsi
  dsimp only
  have go : ∀ a : String, tyD d S = some a → kitB a t = some (isTy d t) → (match tyD d S with
    | some t_1 => match kitB t_1 t with
      | some b => R.ok (D.bl b) S
      | none => R.bad
    | none => R.bad) = R.ok (D.bl (isTy d t)) S := fun a h1 h2 => by rw [h1]; dsimp only; rw [h2]
  cases d with
  | non => refine go "NoneType" rfl ?_; rcases ht with rfl | rfl | rfl | rfl <;> first | exact k_non_int | exact k_non_bool | exact k_non_tuple | exact k_non_str
  | bl x => refine go "bool" rfl ?_; rcases ht with rfl | rfl | rfl | rfl <;> first | exact k_bool_int | exact k_bool_bool | exact k_bool_tuple | exact k_bool_str
  | int x => refine go "int" rfl ?_; rcases ht with rfl | rfl | rfl | rfl <;> first | exact k_int_int | exact k_int_bool | exact k_int_tuple | exact k_int_str
  | str x => refine go "str" rfl ?_; rcases ht with rfl | rfl | rfl | rfl <;> first | exact k_str_int | exact k_str_bool | exact k_str_tuple | exact k_str_str
  | tup x => refine go "tuple" rfl ?_; rcases ht with rfl | rfl | rfl | rfl <;> first | exact k_tup_int | exact k_tup_bool | exact k_tup_tuple | exact k_tup_str
  | lst x => refine go "list" rfl ?_; rcases ht with rfl | rfl | rfl | rfl <;> first | exact k_lst_int | exact k_lst_bool | exact k_lst_tuple | exact k_lst_str
  | raw x => cases h
  | scr x => cases h
  | ex _ _ _ => cases h
  | loc n =>
    cases e : S[n]? with
    | none => simp only [tyKnown, e] at h; cases h
    | some c =>
      cases c with
      | lst x => refine go "list" (by simp only [tyD, e]) ?_; rcases ht with rfl | rfl | rfl | rfl <;> first | exact k_lst_int | exact k_lst_bool | exact k_lst_tuple | exact k_lst_str
      | dK x => refine go "dict" (by simp only [tyD, e]) ?_; rcases ht with rfl | rfl | rfl | rfl <;> first | exact k_dct_int | exact k_dct_bool | exact k_dct_tuple | exact k_dct_str
      | dT x => simp only [tyKnown, e] at h; cases h
      | dF x => refine go "dict" (by simp only [tyD, e]) ?_; rcases ht with rfl | rfl | rfl | rfl <;> first | exact k_dct_int | exact k_dct_bool | exact k_dct_tuple | exact k_dct_str
      | dG x => simp only [tyKnown, e] at h; cases h
/-- sorted numbers -/
def leI (i j : Int) : Bool := decide (i ≤ j)
def ordI (b : Bool) (i j : Int) : Bool := if b then decide (j ≤ i) else decide (i ≤ j)
theorem dataLe_int (b : Bool) (i j : Int) : PySem.W.dataLe b encD (.int i) (.int j) = ordI b i j := by
  cases b with
  | false =>
    show (!PySem.W.dataLt (.int j) (.int i)) = _
    rw [PySem.W.dataLt_int]
    simp [ordI, ← decide_not]
  | true =>
    show (!PySem.W.dataLt (.int i) (.int j)) = _
    rw [PySem.W.dataLt_int]
    simp [ordI, ← decide_not]
theorem sortDR_int (b : Bool) (ns : List Int) : sortDR b (ns.map .int) = (ns.mergeSort (ordI b)).map .int := by
  unfold sortDR
  exact (List.map_mergeSort (r := ordI b) (s := PySem.W.dataLe b encD) (f := D.int) (fun i _ j _ => (dataLe_int b i j).symm)).symm
theorem toPs_ints (ns : List Int) : toPs (ns.map .int) = some (ns.map .int) := toPs_map (g := PyData.int) (fun _ => rfl) ns
theorem depth_ints : ∀ ns : List Int, PyData.depthAll (ns.map PyData.int) ≤ 1
  | [] => by simp [PyData.depthAll]
  | n :: ns => by have := depth_ints ns; simp [PyData.depthAll, PyData.depth]; exact this
theorem hSortedB_int (b : Bool) (ns : List Int) (S : Store) : hSortedB b (ns.map .int) S = .ok ((ns.mergeSort (ordI b)).map .int) S := by
  unfold hSortedB
  rw [toPs_ints]
  dsimp only
  rw [if_pos, sortDR_int]
  refine ⟨?_, ?_, ?_⟩
  · simp [List.all_eq_true, PySem.W.alike]
  · simp [sortableB]
  · have := depth_ints ns; omega
/-- numbers sorted one by one -/
def insI (b : Bool) (x : Int) : List Int → List Int
  | [] => [x]
  | y :: ys => if ordI b x y = true then x :: y :: ys else y :: insI b x ys
def isI (b : Bool) : List Int → List Int
  | [] => []
  | x :: xs => insI b x (isI b xs)
theorem insI_perm (b : Bool) (x : Int) : ∀ ys, (insI b x ys).Perm (x :: ys)
  | [] => .refl _
  | y :: ys => by
    unfold insI
    split
    · exact .refl _
    · exact ((insI_perm b x ys).cons y).trans (.swap x y ys)
theorem isI_perm (b : Bool) : ∀ ys, (isI b ys).Perm ys
  | [] => .refl _
  | y :: ys => (insI_perm b y _).trans ((isI_perm b ys).cons y)
theorem ordI_trans {b : Bool} {x y z : Int} (h1 : ordI b x y = true) (h2 : ordI b y z = true) : ordI b x z = true := by
  cases b <;> simp [ordI] at * <;> omega
theorem ordI_total (b : Bool) (x y : Int) : ordI b x y = true ∨ ordI b y x = true := by
  cases b <;> simp [ordI] <;> omega
theorem ordI_anti {b : Bool} {x y : Int} (h1 : ordI b x y = true) (h2 : ordI b y x = true) : x = y := by
  cases b <;> simp [ordI] at * <;> omega
theorem insI_ord (b : Bool) (x : Int) : ∀ ys, ys.Pairwise (fun i j => ordI b i j = true) → (insI b x ys).Pairwise fun i j => ordI b i j = true
  | [], _ => by simp [insI]
  | y :: ys, h => by
    rw [List.pairwise_cons] at h
    unfold insI
    split
    · rename_i hxy
      refine List.pairwise_cons.mpr ⟨fun z hz => ?_, List.pairwise_cons.mpr h⟩
      rcases List.mem_cons.mp hz with e | hz
      · rw [e]; exact hxy
      · exact ordI_trans hxy (h.1 z hz)
    · rename_i hxy
      refine List.pairwise_cons.mpr ⟨fun z hz => ?_, insI_ord b x ys h.2⟩
      rcases List.mem_cons.mp ((insI_perm b x ys).mem_iff.mp hz) with e | hz
      · rw [e]; exact (ordI_total b x y).resolve_left hxy
      · exact h.1 z hz
theorem isI_ord (b : Bool) : ∀ ys, (isI b ys).Pairwise fun i j => ordI b i j = true
  | [] => .nil
  | y :: ys => insI_ord b y _ (isI_ord b ys)
theorem perm_ord {b : Bool} : ∀ {xs ys : List Int}, xs.Perm ys → (xs.Pairwise fun i j => ordI b i j = true) → (ys.Pairwise fun i j => ordI b i j = true) → xs = ys
  | [], ys, h, _, _ => (List.perm_nil.mp h.symm).symm
  | x :: xs, [], h, _, _ => nomatch h.length_eq
  | x :: xs, y :: ys, h, hx, hy => by
    rw [List.pairwise_cons] at hx hy
    have e : x = y := by
      have h1 : x ∈ y :: ys := h.mem_iff.mp List.mem_cons_self
      have h2 : y ∈ x :: xs := h.mem_iff.mpr List.mem_cons_self
      rcases List.mem_cons.mp h1 with q | q
      · exact q
      · rcases List.mem_cons.mp h2 with q2 | q2
        · exact q2.symm
        · exact ordI_anti (hx.1 y q2) (hy.1 x q)
    subst e
    rw [perm_ord (List.Perm.cons_inv h) hx.2 hy.2]
theorem merge_is (b : Bool) (ns : List Int) : ns.mergeSort (ordI b) = isI b ns := by
  refine perm_ord (b := b) ((List.mergeSort_perm ns (ordI b)).trans (isI_perm b ns).symm) ?_ (isI_ord b ns)
  exact List.pairwise_mergeSort (le := ordI b) (fun x y z h1 h2 => ordI_trans h1 h2) (fun x y => Bool.or_eq_true_iff.mpr (ordI_total b x y)) ns
theorem sorted_int (b : Bool) (ns : List Int) (S : Store) : hSortedB b (ns.map .int) S = .ok ((isI b ns).map .int) S := by rw [hSortedB_int, merge_is]
/-- .. from 0 -/
def ordN (b : Bool) (i j : Nat) : Bool := if b then Nat.ble j i else Nat.ble i j
def insN (b : Bool) (x : Nat) : List Nat → List Nat
  | [] => [x]
  | y :: ys => if ordN b x y = true then x :: y :: ys else y :: insN b x ys
def isN (b : Bool) : List Nat → List Nat
  | [] => []
  | x :: xs => insN b x (isN b xs)
theorem ordN_eq (b : Bool) (i j : Nat) : ordN b i j = ordI b (i : Int) (j : Int) := by
  rw [Bool.eq_iff_iff]
  cases b <;> simp [ordN, ordI, Nat.ble_eq]
theorem insN_eq (b : Bool) (x : Nat) : ∀ ys, (insN b x ys).map (fun n : Nat => (n : Int)) = insI b x (ys.map fun n : Nat => (n : Int))
  | [] => rfl
  | y :: ys => by
    rw [List.map_cons, insN, insI, ordN_eq]
    split
    · rfl
    · rw [List.map_cons, insN_eq b x ys]
theorem isN_eq (b : Bool) : ∀ ys, (isN b ys).map (fun n : Nat => (n : Int)) = isI b (ys.map fun n : Nat => (n : Int))
  | [] => rfl
  | y :: ys => by rw [List.map_cons, isN, insN_eq, isN_eq b ys]; rfl
theorem sorted_nat (b : Bool) (ns : List Nat) (S : Store) : hSortedB b (ns.map fun n : Nat => D.int (n : Int)) S = .ok ((isN b ns).map fun n : Nat => D.int (n : Int)) S := by
  rw [map_nat, sorted_int, ← isN_eq, ← map_nat]
theorem insN_len (b : Bool) (x : Nat) : ∀ ys, (insN b x ys).length = ys.length + 1
  | [] => rfl
  | y :: ys => by rw [insN]; split <;> simp [insN_len b x ys]
theorem isN_len (b : Bool) : ∀ ys, (isN b ys).length = ys.length
  | [] => rfl
  | y :: ys => by rw [isN, insN_len, isN_len b ys, List.length_cons]
end Mo
namespace Mo
open PySem L2
theorem sub_nat {a b c : Int} (S : Store) (h : a - b = c) : gSubI (.int a) (.int b) S = .ok (.int c) S := by rw [← h]; rfl
theorem add_nat {a b c : Int} (S : Store) (h : a + b = c) : gAddI (.int a) (.int b) S = .ok (.int c) S := by rw [← h]; rfl
theorem range_nat (n : Nat) : rangeD 0 (n : Int) = (List.range n).map fun k : Nat => D.int (0 + (k : Nat)) := by unfold rangeD; rw [Int.sub_zero, Int.toNat_natCast]
end Mo
namespace Mo
open PySem L2
theorem iRange1_nat {l : MA} {ρ : MEnv} {S S1 : Store} {n : Nat} (h : l ρ S = .ok [.int (n : Int)] S1) (hn : n < 2 ^ 60) : iRg1 l ρ S = .ok ((List.range n).map fun k : Nat => D.int (0 + (k : Nat))) S1 := by
  unfold iRg1
  rw [h, bind_ok_eq, ← range_nat]
  exact if_pos ((b62_iff _).mpr ⟨by omega, by omega⟩)
theorem iRange1_lit {l : MA} {ρ : MEnv} {S S1 : Store} {j : Int} (n : Nat) (h : l ρ S = .ok [.int j] S1) (e : j = (n : Int)) (hn : n < 2 ^ 60) : iRg1 l ρ S = .ok ((List.range n).map fun k : Nat => D.int (0 + (k : Nat))) S1 := by
  subst e
  exact iRange1_nat h hn
end Mo
namespace Mo
open PySem L2
theorem mem_le_sum : ∀ {s : List Nat} {x : Nat}, x ∈ s → x ≤ s.sum
  | [], _, h => nomatch h
  | y :: s, x, h => by
    rw [List.sum_cons]
    rcases List.mem_cons.mp h with e | h
    · omega
    · have := mem_le_sum h; omega
theorem insN_sum (b : Bool) (x : Nat) : ∀ ys, (insN b x ys).sum = x + ys.sum
  | [] => by simp [insN]
  | y :: ys => by
    rw [insN]
    split
    · rw [List.sum_cons]
    · rw [List.sum_cons, insN_sum b x ys, List.sum_cons]; omega
theorem isN_sum (b : Bool) : ∀ ys, (isN b ys).sum = ys.sum
  | [] => rfl
  | y :: ys => by rw [isN, insN_sum, isN_sum b ys, List.sum_cons]
theorem take_sum_le (n : Nat) (s : List Nat) : (s.take n).sum ≤ s.sum := by
  have h3 := congrArg List.sum (List.take_append_drop n s)
  rw [List.sum_append] at h3
  omega
theorem mul_of {i j k : Int} (S : Store) (c : cMul i j) (e : i * j = k) : gMulI (.int i) (.int j) S = .ok (.int k) S := by
  unfold gMulI
  rw [gI_eq, if_pos c, e]
theorem gt_of {i j : Int} {k : Bool} (S : Store) (e : decide (j < i) = k) : gGt (.int i) (.int j) S = .ok (.bl k) S := by rw [← e]; rfl
theorem lt_of {i j : Int} {k : Bool} (S : Store) (e : decide (i < j) = k) : gLt (.int i) (.int j) S = .ok (.bl k) S := by rw [← e]; rfl
theorem ge_of {i j : Int} {k : Bool} (S : Store) (e : decide (j ≤ i) = k) : gGe (.int i) (.int j) S = .ok (.bl k) S := by rw [← e]; rfl
theorem le_of {i j : Int} {k : Bool} (S : Store) (e : decide (i ≤ j) = k) : gLe (.int i) (.int j) S = .ok (.bl k) S := by rw [← e]; rfl
end Mo
namespace Mo
open PySem L2
theorem gRep_nat (l : List D) (h : Nat) (S : Store) (hl : l.length * h ≤ 1000000) (hh : h < 2 ^ 60) : gRp (.lst l) (.int (h : Int)) S = .ok (List.replicate h l).flatten S := by
  have e : (List.replicate h l).flatten = (List.replicate (h : Int).toNat l).flatten := by rw [Int.toNat_natCast]
  rw [e]
  unfold gRp
  exact if_pos ⟨(b63_iff _).mpr ⟨by omega, by omega⟩, by rw [Int.toNat_natCast]; exact small_le hl⟩
theorem flat_rep (d : D) : ∀ h : Nat, (List.replicate h [d]).flatten = List.replicate h d
  | 0 => rfl
  | h + 1 => by rw [List.replicate_succ, List.flatten_cons, flat_rep d h, List.replicate_succ]; rfl
end Mo
namespace Mo
open PySem L2
theorem catL_ok (a b : List D) (S : Store) (h : a.length + b.length ≤ 1000000) : gCatL (.lst a) (.lst b) S = .ok (a ++ b) S := by
  have e0 : gCatL (.lst a) (.lst b) S = if a.length + b.length ≤ sizeLine then .ok (a ++ b) S else .bad := rfl
  rw [e0, if_pos (small_le h)]
theorem catT_ok (a b : List D) (S : Store) (h : a.length + b.length ≤ 1000000) : gCatT (.tup a) (.tup b) S = .ok (.tup (a ++ b)) S := by
  have e0 : gCatT (.tup a) (.tup b) S = if a.length + b.length ≤ sizeLine then .ok (.tup (a ++ b)) S else .bad := rfl
  rw [e0, if_pos (small_le h)]
end Mo
set_option maxRecDepth 100000
set_option maxHeartbeats 4000000
namespace K34
open Mo L2 PySem
theorem bools_map (f : Str → Bool) : ∀ l : List Str, boolsD (l.map fun a => D.bl (f a)) = some (l.map f)
  | [] => rfl
  | a :: l => by rw [List.map_cons, boolsD, bools_map f l]; rfl
theorem count_one : ∀ p ∈ exTab, (names.map (isEx p.2.2 p.1)).count true = 1 ∧ isEx p.2.2 p.1 p.1 = true := by decide +kernel
theorem sixteen : ∀ i : Nat, i < 19 → ∀ p, exTab[i]? = some p → decide (16 ≤ (i : Int)) = p.2.2 := by
  intro i hi p h
  have all : ∀ q ∈ exTab.zipIdx, decide (16 ≤ ((q.2 : Nat) : Int)) = q.1.2.2 := by decide +kernel
  have hm : (p, i) ∈ exTab.zipIdx := List.mem_iff_getElem?.mpr ⟨i, by rw [List.getElem?_zipIdx, h]; simp⟩
  exact all _ hm
theorem turn {i : Nat} {c n : Str} {ms : Bool} (h : exTab[i]? = some (c, n, ms)) (d : D) {x0 x1 x2 x5 x6 : Option Slot} (S : Store) :
    b_l_right_3 [x0, x1, x2, some (.val (.int (i : Nat))), some (.val (.ex c n d)), x5, x6] S = .ok (.nx [x0, x1, x2, some (.val (.int (i : Nat))), some (.val (.ex c n d)), some (.val (.lst (names.map fun a => .bl (isEx ms c a)))), x6]) S := by
  have hin : (c, n, ms) ∈ exTab := List.mem_of_getElem? h
  have hi : i < 19 := lt_of_get h
  obtain ⟨k1, k2⟩ := count_one _ hin
  dsimp only at k1 k2
  have hn : names[i]? = some c := by unfold names; rw [List.getElem?_map, h]; rfl
  have ea : atI (names.map fun a => D.bl (isEx ms c a)) ((i : Nat) : Int) = some (.bl true) := atI_nat (by rw [List.getElem?_map, hn, ← k2]; rfl)
  have hb := bools_map (isEx ms c) names
  have e1 := marks_ok hin d S
  have e2 := family_ok hin d S (k := (i : Int)) (sixteen i hi _ h)
  unfold b_l_right_3
  simp only [bind_ok_eq, bind_bad_eq, mVar_eq, mC_eq, m2_eq, mNil_eq, mPass_eq, mSeq_eq, mSet_eq, mRet_eq, mDrop_eq, mIf_eq, mB_eq, isB_eq, mAndT_eq, mOrT_eq, mNotT_eq, mAnd_eq, mOr_eq, mNot_eq, mIfE_eq, mChain_eq, aNil_eq, aCons_eq, mTup_eq, mDisp_eq, mLst_eq, mLoc_eq, mOwnL_eq, mCall_eq, mCallK_eq, mAsg_eq, mFor_eq, iSeq_eq, iSeqD_lst, iSeqD_tup, iLst_eq, seqD_lst, iLoc_eq, locD_eq, iScr_eq, scrD_eq, iRange1_eq, iRange2_eq, iEnumM_eq, mLc_eq, mYes_eq, mQ_eq, mQL_eq, mA_eq, mB1_eq, hLen_eq, hTup_eq, hList_eq, hAbs_eq, hInt_eq, hIntB_eq, hMax2_eq, hMin2_eq, gNeg_eq, gI_eq, gI0_eq, gIx_tup, gIx_lst, gIx_scr, gIx_loc, mSetC_eq, putC_eq, mApp_eq, mAppC_eq, qOwn_eq, gLen_tup, gLen_lst, gLen_scr, mDNewK_eq, mDGet2_eq, mDPut_eq, mDSet_eq, dictAt_eq, dictR_eq, keyD_int, keyD_str, mPar_eq, sNil_eq, sVal_eq, sOwnL_eq, setSl_nil, setSl_cons, setD_nil, setD_cons, pat_nm, pat_tp, pats_nil, pats_cons, wipeM_nil, wipeM_cons, forL_nil, lcL_nil, n2_eq, atI0, atI1, atI2, gNe_strs, gEq_strs, gNe_ints, gEq_ints, sz_1, sz_2, sz_3, sz_4, sz_5, sz_6, sz_7, sz_8, sz_9, sz_10, sz_11, sz_12, sz_13, sz_14, sz_15, sz_16, sz_17, sz_18, sz_19, sz_20, mLock_eq, nLock_eq, dictVar_eq, iKeysF_eq, keyV_inl, mRest_eq, restAt_eq, mExt_eq, iTup_eq, tupD_tup, mRetO_eq, gIsB_eq, gNotB_eq, gIsN_non, gIsN_int, gIsN_bl, gIsN_str, gIsN_tup, gIsN_lst, gIsN_loc, gNotN_non, gNotN_int, gNotN_bl, gNotN_str, gNotN_tup, gNotN_lst, gNotN_loc, iZip_eq, mAsg2_eq, mAug_eq, hSortedR_eq, mV_eq, mVL_eq, anyD_lst, anyD_tup, anyD_scr, anyD_loc, mIxO_eq, mSetO_eq, oNone_eq, oSome_eq, mSlT_eq, mSlQ_eq, mTruQ_eq, iRg1_eq, iRg2_eq, mNNew_eq, dictT_eq, mNGet1_eq, mNGet2_eq, gNGet_eq, gNIn_eq, putT_eq, setT_eq, mNPut_eq, mNSet_eq, mDGet1_eq, aStar_eq, mDCopy_eq, gDIn_eq, mIns_eq, mRevQ_eq, mKeysL_eq, mItemsL_eq, mDPop_eq, mBad_eq, mAsgS_eq, mAsgSS_eq, hStrI_eq, gReprA_loc, gReprA_tup, gReprA_lst, gReprA_non, gReprA_bl, gReprA_int, gReprA_str, mRevT_eq, mUp_eq, mSeqX_eq, mIfX_eq, mRaise1_eq, mCallX_eq, mDropX_eq, mSetX_eq, mRetX_eq, mTryF_eq, mLc2_eq, hSortedDB_eq, mSortSet_eq, mCallXK_eq, mListRg_eq, mKeepB_eq, hSortedN_eq, nLockT_eq, dictVarT_eq, iKeysG_eq, gNGetG_eq, dictW_eq, hSortedDL_eq, mEntries_nil, mEntries_cons, mDDisp_eq, gNum_int, gNum_bl, gNumR_int, gNumR_bl, mCallF_eq, gEq0_eq, mExc_eq, mFld_eq, mIsE_eq, mCntB_eq, Nat.zero_le, Nat.zero_add, Nat.reduceAdd, and_self, mDef_eq, List.getElem?_cons_zero, List.getElem?_cons_succ, List.set, List.length_cons, List.length_nil, List.map_cons, List.map_nil, List.replicate, List.cons_append, List.nil_append, List.append_nil, if_true, if_false, ite_true, ite_false, Bool.false_eq_true, Bool.true_eq_false, Bool.not_true, Bool.not_false, List.zip_cons_cons, List.zip_nil_left, e1, ea, hb, k1, e2, Int.natCast_one, show (!((1 : Int) == 1)) = false from rfl]
end K34
set_option maxRecDepth 100000
set_option maxHeartbeats 4000000
namespace K34
open Mo L2 PySem
theorem loop {x0 x1 x2 x6 : Option Slot} {S : Store} : ∀ (t : List (Str × Str × Bool)) (ds : List D) (i : Nat) (x3 x4 x5 : Option Slot), exTab.drop i = t → ds.length = t.length →
    ∃ y3 y4 y5, mForL (.tp [.nm 3, .nm 4]) b_l_right_3 (enumD i (exs t ds)) [x0, x1, x2, x3, x4, x5, x6] S = .ok (.nx [x0, x1, x2, y3, y4, y5, x6]) S
  | [], _, _, x3, x4, x5, _, _ => ⟨x3, x4, x5, by cases ‹List D› <;> rfl⟩
  | (c, f, ms) :: t, [], _, _, _, _, _, h => by cases h
  | (c, f, ms) :: t, d :: ds, i, x3, x4, x5, ht, hl => by
    have hi : exTab[i]? = some (c, f, ms) := by
      have := List.getElem?_drop (xs := exTab) (i := i) (j := 0)
      rw [ht] at this
      simpa using this.symm
    have ht' : exTab.drop (i + 1) = t := by
      rw [← List.drop_drop, ht]; rfl
    obtain ⟨y3, y4, y5, e⟩ := loop t ds (i + 1) (some (.val (.int (i : Nat)))) (some (.val (.ex c f d))) (some (.val (.lst (names.map fun a => .bl (isEx ms c a))))) ht' (by simpa using hl)
    refine ⟨y3, y4, y5, ?_⟩
    have pb : (Pat.tp [.nm 3, .nm 4]).bind (.tup [.int (i : Nat), .ex c f d]) = some [(3, .int (i : Nat)), (4, .ex c f d)] := rfl
    rw [exs, enumD, forL_cons, pb]
    dsimp only
    simp only [setD_cons, setD_nil, List.set]
    rw [turn hi d S, bind_ok_eq]
    exact e
theorem right_ok {Z S : Store} {n : Nat} {b : Int} (h : Well Z S n b) (hb : b < 2 ^ 38) : ∃ S', m_l_right [.loc n] S = .ok (.bl true) S' := by
  have hr : ∀ (y1 y2 y3 y4 y5 y6 : Option Slot), i_l_right_1 [some (.val (.loc n)), y1, y2, y3, y4, y5, y6] S = .ok ((List.range 19).map (fun k : Nat => D.int (0 + (k : Nat)))) S := fun y1 y2 y3 y4 y5 y6 => iRange1_lit (j := 19) 19 (by simp only [bind_ok_eq, bind_bad_eq, mVar_eq, mC_eq, m2_eq, mNil_eq, mPass_eq, mSeq_eq, mSet_eq, mRet_eq, mDrop_eq, mIf_eq, mB_eq, isB_eq, mAndT_eq, mOrT_eq, mNotT_eq, mAnd_eq, mOr_eq, mNot_eq, mIfE_eq, mChain_eq, aNil_eq, aCons_eq, mTup_eq, mDisp_eq, mLst_eq, mLoc_eq, mOwnL_eq, mCall_eq, mCallK_eq, mAsg_eq, mFor_eq, iSeq_eq, iSeqD_lst, iSeqD_tup, iLst_eq, seqD_lst, iLoc_eq, locD_eq, iScr_eq, scrD_eq, iEnumM_eq, mLc_eq, mYes_eq, mQ_eq, mQL_eq, mA_eq, mB1_eq, hLen_eq, hTup_eq, hList_eq, hAbs_eq, hInt_eq, hIntB_eq, gNeg_eq, gIx_tup, gIx_lst, gIx_scr, gIx_loc, mSetC_eq, putC_eq, mApp_eq, mAppC_eq, qOwn_eq, gLen_tup, gLen_lst, gLen_scr, mDNewK_eq, mDGet2_eq, mDPut_eq, mDSet_eq, dictAt_eq, dictR_eq, keyD_int, keyD_str, mPar_eq, sNil_eq, sVal_eq, sOwnL_eq, setSl_nil, setSl_cons, setD_nil, setD_cons, pat_nm, pat_tp, pats_nil, pats_cons, wipeM_nil, wipeM_cons, forL_nil, lcL_nil, n2_eq, atI0, atI1, atI2, gNe_strs, gEq_strs, gNe_ints, gEq_ints, sz_1, sz_2, sz_3, sz_4, sz_5, sz_6, sz_7, sz_8, sz_9, sz_10, sz_11, sz_12, sz_13, sz_14, sz_15, sz_16, sz_17, sz_18, sz_19, sz_20, mLock_eq, nLock_eq, dictVar_eq, iKeysF_eq, keyV_inl, mRest_eq, restAt_eq, mExt_eq, iTup_eq, tupD_tup, mRetO_eq, gIsB_eq, gNotB_eq, gIsN_non, gIsN_int, gIsN_bl, gIsN_str, gIsN_tup, gIsN_lst, gIsN_loc, gNotN_non, gNotN_int, gNotN_bl, gNotN_str, gNotN_tup, gNotN_lst, gNotN_loc, mAsg2_eq, mAug_eq, hSortedR_eq, mV_eq, mVL_eq, anyD_lst, anyD_tup, anyD_scr, anyD_loc, mIxO_eq, mSetO_eq, oNone_eq, oSome_eq, mSlT_eq, mSlQ_eq, mTruQ_eq, mNNew_eq, dictT_eq, mNGet1_eq, mNGet2_eq, gNGet_eq, gNIn_eq, putT_eq, setT_eq, mNPut_eq, mNSet_eq, mDGet1_eq, aStar_eq, mDCopy_eq, gDIn_eq, mIns_eq, mRevQ_eq, mKeysL_eq, mItemsL_eq, mDPop_eq, mBad_eq, mAsgS_eq, mAsgSS_eq, hStrI_eq, gReprA_loc, gReprA_tup, gReprA_lst, gReprA_non, gReprA_bl, gReprA_int, gReprA_str, mRevT_eq, mUp_eq, mSeqX_eq, mIfX_eq, mRaise1_eq, mCallX_eq, mDropX_eq, mSetX_eq, mRetX_eq, mTryF_eq, mLc2_eq, hSortedDB_eq, mSortSet_eq, mCallXK_eq, mListRg_eq, mKeepB_eq, hSortedN_eq, nLockT_eq, dictVarT_eq, iKeysG_eq, gNGetG_eq, dictW_eq, hSortedDL_eq, mEntries_nil, mEntries_cons, mDDisp_eq, gNum_int, gNum_bl, gNumR_int, gNumR_bl, mCallF_eq, gEq0_eq, mExc_eq, mFld_eq, mIsE_eq, mCntB_eq, Nat.zero_le, Nat.zero_add, Nat.reduceAdd, and_self, mDef_eq, List.getElem?_cons_zero, List.getElem?_cons_succ, List.set, List.length_cons, List.length_nil, List.map_cons, List.map_nil, List.replicate, List.cons_append, List.nil_append, List.append_nil, if_true, if_false, ite_true, ite_false, Bool.false_eq_true, Bool.true_eq_false, Bool.not_true, Bool.not_false, List.zip_cons_cons, List.zip_nil_left]) rfl (by omega)
  obtain ⟨rs, S1, e1, n1, t1, w1⟩ := things (n := n) ((List.range 19).map (fun k : Nat => (0 : Int) + (k : Nat))) (x1 := none) (x2 := none) (x3 := none) (x4 := none) (x5 := none) (x6 := none) h (by simp; omega)
  rw [List.map_map] at e1
  have hn : rs.length = 19 := by rw [n1]; simp
  have e2 := made_ok hn S1
  have e3 := values_ok hn S1
  obtain ⟨x, e4⟩ := repr_ok t1 (by omega)
  obtain ⟨y3, y4, y5, e5⟩ := loop (x0 := some (.val (.loc n))) (x1 := some (.val (.lst rs))) (x2 := some (.val (.lst (exs exTab rs)))) (x6 := none) (S := S1) exTab rs 0 none none none rfl hn
  have z : (19 : Nat) ≤ PySem.sizeLine := by decide
  refine ⟨S1, ?_⟩
  have e1' : mLcL (.nm 6) mYes e_l_right_2 ((List.range 19).map (fun k : Nat => D.int (0 + (k : Nat)))) [some (.val (.loc n)), none, none, none, none, none, none] S = .ok rs S1 := e1
  unfold m_l_right b_l_right
  rw [mDef_eq]
  simp only [bind_ok_eq, bind_bad_eq, mVar_eq, mC_eq, m2_eq, mNil_eq, mPass_eq, mSeq_eq, mSet_eq, mRet_eq, mDrop_eq, mIf_eq, mB_eq, isB_eq, mAndT_eq, mOrT_eq, mNotT_eq, mAnd_eq, mOr_eq, mNot_eq, mIfE_eq, mChain_eq, aNil_eq, aCons_eq, mTup_eq, mDisp_eq, mLst_eq, mLoc_eq, mOwnL_eq, mCall_eq, mCallK_eq, mAsg_eq, mFor_eq, iSeq_eq, iSeqD_lst, iSeqD_tup, iLst_eq, seqD_lst, iLoc_eq, locD_eq, iScr_eq, scrD_eq, iRange1_eq, iRange2_eq, iEnumM_eq, mLc_eq, mYes_eq, mQ_eq, mQL_eq, mA_eq, mB1_eq, hLen_eq, hTup_eq, hList_eq, hAbs_eq, hInt_eq, hIntB_eq, hMax2_eq, hMin2_eq, gNeg_eq, gI_eq, gI0_eq, gIx_tup, gIx_lst, gIx_scr, gIx_loc, mSetC_eq, putC_eq, mApp_eq, mAppC_eq, qOwn_eq, gLen_tup, gLen_lst, gLen_scr, mDNewK_eq, mDGet2_eq, mDPut_eq, mDSet_eq, dictAt_eq, dictR_eq, keyD_int, keyD_str, mPar_eq, sNil_eq, sVal_eq, sOwnL_eq, setSl_nil, setSl_cons, setD_nil, setD_cons, pat_nm, pat_tp, pats_nil, pats_cons, wipeM_nil, wipeM_cons, forL_nil, lcL_nil, n2_eq, atI0, atI1, atI2, gNe_strs, gEq_strs, gNe_ints, gEq_ints, sz_1, sz_2, sz_3, sz_4, sz_5, sz_6, sz_7, sz_8, sz_9, sz_10, sz_11, sz_12, sz_13, sz_14, sz_15, sz_16, sz_17, sz_18, sz_19, sz_20, mLock_eq, nLock_eq, dictVar_eq, iKeysF_eq, keyV_inl, mRest_eq, restAt_eq, mExt_eq, iTup_eq, tupD_tup, mRetO_eq, gIsB_eq, gNotB_eq, gIsN_non, gIsN_int, gIsN_bl, gIsN_str, gIsN_tup, gIsN_lst, gIsN_loc, gNotN_non, gNotN_int, gNotN_bl, gNotN_str, gNotN_tup, gNotN_lst, gNotN_loc, iZip_eq, mAsg2_eq, mAug_eq, hSortedR_eq, mV_eq, mVL_eq, anyD_lst, anyD_tup, anyD_scr, anyD_loc, mIxO_eq, mSetO_eq, oNone_eq, oSome_eq, mSlT_eq, mSlQ_eq, mTruQ_eq, iRg1_eq, iRg2_eq, mNNew_eq, dictT_eq, mNGet1_eq, mNGet2_eq, gNGet_eq, gNIn_eq, putT_eq, setT_eq, mNPut_eq, mNSet_eq, mDGet1_eq, aStar_eq, mDCopy_eq, gDIn_eq, mIns_eq, mRevQ_eq, mKeysL_eq, mItemsL_eq, mDPop_eq, mBad_eq, mAsgS_eq, mAsgSS_eq, hStrI_eq, gReprA_loc, gReprA_tup, gReprA_lst, gReprA_non, gReprA_bl, gReprA_int, gReprA_str, mRevT_eq, mUp_eq, mSeqX_eq, mIfX_eq, mRaise1_eq, mCallX_eq, mDropX_eq, mSetX_eq, mRetX_eq, mTryF_eq, mLc2_eq, hSortedDB_eq, mSortSet_eq, mCallXK_eq, mListRg_eq, mKeepB_eq, hSortedN_eq, nLockT_eq, dictVarT_eq, iKeysG_eq, gNGetG_eq, dictW_eq, hSortedDL_eq, mEntries_nil, mEntries_cons, mDDisp_eq, gNum_int, gNum_bl, gNumR_int, gNumR_bl, mCallF_eq, gEq0_eq, mExc_eq, mFld_eq, mIsE_eq, mCntB_eq, Nat.zero_le, Nat.zero_add, Nat.reduceAdd, and_self, mDef_eq, List.getElem?_cons_zero, List.getElem?_cons_succ, List.set, List.length_cons, List.length_nil, List.map_cons, List.map_nil, List.replicate, List.cons_append, List.nil_append, List.append_nil, if_true, if_false, ite_true, ite_false, Bool.false_eq_true, Bool.true_eq_false, Bool.not_true, Bool.not_false, List.zip_cons_cons, List.zip_nil_left, Nat.reduceSub, List.replicate_succ, List.replicate_zero, wipeM, hr, e1', hn, z, e2, e3, e4, e5, decide_true]
theorem rights (ns : List Int) : ∀ (js : List Nat) {S : Store} {x1 : Option Slot}, (∀ j ∈ js, j < 100) →
    ∃ S', mLcL (.nm 1) mYes e_p_law_2 (js.map fun k : Nat => D.int (0 + (k : Nat))) [some (.val (.scr ns)), x1] S = .ok ((js.map fun _ => true).map .bl) S'
  | [], S, _, _ => ⟨S, rfl⟩
  | j :: js, S, x1, hj => by
    obtain ⟨S1, e1, w1⟩ := urn_ok ns j (hj j List.mem_cons_self) S
    obtain ⟨S2, e2⟩ := right_ok w1 (by decide)
    obtain ⟨S3, e3⟩ := rights ns js (S := S2) (x1 := x1) fun k hk => hj k (List.mem_cons_of_mem _ hk)
    refine ⟨S3, ?_⟩
    rw [List.map_cons, lcL_cons]
    simp only [pat_nm, setD_cons, setD_nil, List.set, mYes_eq, bind_ok_eq, if_true]
    have e4 : e_p_law_2 [some (.val (.scr ns)), some (.val (.int (0 + (j : Nat))))] S = .ok (.bl true) S2 := by
      unfold e_p_law_2
      simp only [bind_ok_eq, bind_bad_eq, mVar_eq, mC_eq, m2_eq, mNil_eq, mPass_eq, mSeq_eq, mSet_eq, mRet_eq, mDrop_eq, mIf_eq, mB_eq, isB_eq, mAndT_eq, mOrT_eq, mNotT_eq, mAnd_eq, mOr_eq, mNot_eq, mIfE_eq, mChain_eq, aNil_eq, aCons_eq, mTup_eq, mDisp_eq, mLst_eq, mLoc_eq, mOwnL_eq, mCall_eq, mCallK_eq, mAsg_eq, mFor_eq, iSeq_eq, iSeqD_lst, iSeqD_tup, iLst_eq, seqD_lst, iLoc_eq, locD_eq, iScr_eq, scrD_eq, iRange1_eq, iRange2_eq, iEnumM_eq, mLc_eq, mYes_eq, mQ_eq, mQL_eq, mA_eq, mB1_eq, hLen_eq, hTup_eq, hList_eq, hAbs_eq, hInt_eq, hIntB_eq, hMax2_eq, hMin2_eq, gNeg_eq, gI_eq, gI0_eq, gIx_tup, gIx_lst, gIx_scr, gIx_loc, mSetC_eq, putC_eq, mApp_eq, mAppC_eq, qOwn_eq, gLen_tup, gLen_lst, gLen_scr, mDNewK_eq, mDGet2_eq, mDPut_eq, mDSet_eq, dictAt_eq, dictR_eq, keyD_int, keyD_str, mPar_eq, sNil_eq, sVal_eq, sOwnL_eq, setSl_nil, setSl_cons, setD_nil, setD_cons, pat_nm, pat_tp, pats_nil, pats_cons, wipeM_nil, wipeM_cons, forL_nil, lcL_nil, n2_eq, atI0, atI1, atI2, gNe_strs, gEq_strs, gNe_ints, gEq_ints, sz_1, sz_2, sz_3, sz_4, sz_5, sz_6, sz_7, sz_8, sz_9, sz_10, sz_11, sz_12, sz_13, sz_14, sz_15, sz_16, sz_17, sz_18, sz_19, sz_20, mLock_eq, nLock_eq, dictVar_eq, iKeysF_eq, keyV_inl, mRest_eq, restAt_eq, mExt_eq, iTup_eq, tupD_tup, mRetO_eq, gIsB_eq, gNotB_eq, gIsN_non, gIsN_int, gIsN_bl, gIsN_str, gIsN_tup, gIsN_lst, gIsN_loc, gNotN_non, gNotN_int, gNotN_bl, gNotN_str, gNotN_tup, gNotN_lst, gNotN_loc, iZip_eq, mAsg2_eq, mAug_eq, hSortedR_eq, mV_eq, mVL_eq, anyD_lst, anyD_tup, anyD_scr, anyD_loc, mIxO_eq, mSetO_eq, oNone_eq, oSome_eq, mSlT_eq, mSlQ_eq, mTruQ_eq, iRg1_eq, iRg2_eq, mNNew_eq, dictT_eq, mNGet1_eq, mNGet2_eq, gNGet_eq, gNIn_eq, putT_eq, setT_eq, mNPut_eq, mNSet_eq, mDGet1_eq, aStar_eq, mDCopy_eq, gDIn_eq, mIns_eq, mRevQ_eq, mKeysL_eq, mItemsL_eq, mDPop_eq, mBad_eq, mAsgS_eq, mAsgSS_eq, hStrI_eq, gReprA_loc, gReprA_tup, gReprA_lst, gReprA_non, gReprA_bl, gReprA_int, gReprA_str, mRevT_eq, mUp_eq, mSeqX_eq, mIfX_eq, mRaise1_eq, mCallX_eq, mDropX_eq, mSetX_eq, mRetX_eq, mTryF_eq, mLc2_eq, hSortedDB_eq, mSortSet_eq, mCallXK_eq, mListRg_eq, mKeepB_eq, hSortedN_eq, nLockT_eq, dictVarT_eq, iKeysG_eq, gNGetG_eq, dictW_eq, hSortedDL_eq, mEntries_nil, mEntries_cons, mDDisp_eq, gNum_int, gNum_bl, gNumR_int, gNumR_bl, mCallF_eq, gEq0_eq, mExc_eq, mFld_eq, mIsE_eq, mCntB_eq, Nat.zero_le, Nat.zero_add, Nat.reduceAdd, and_self, mDef_eq, List.getElem?_cons_zero, List.getElem?_cons_succ, List.set, List.length_cons, List.length_nil, List.map_cons, List.map_nil, List.replicate, List.cons_append, List.nil_append, List.append_nil, if_true, if_false, ite_true, ite_false, Bool.false_eq_true, Bool.true_eq_false, Bool.not_true, Bool.not_false, List.zip_cons_cons, List.zip_nil_left, Int.zero_add, e1, e2]
    rw [e4, bind_ok_eq, e3, bind_ok_eq]
    rfl
theorem law_true (ns : List Int) (hn : ns.length ≤ 63) : ∃ S', m_p_law [.scr ns] [] = .ok (.bl true) S' := by
  have r1 : ∃ K : Nat, K ≤ 4 ∧ ∀ y1 S, i_p_law_1 [some (.val (.scr ns)), y1] S = .ok ((List.range K).map (fun k : Nat => D.int (0 + (k : Nat)))) S := by
    refine ⟨max 1 (min 4 ns.length), by omega, fun y1 S => ?_⟩
    refine iRange1_lit (j := ((max 1 (min 4 ns.length) : Nat) : Int)) _ ?_ rfl (by omega)
    have h1 : (if (ns.length : Int) < 4 then (ns.length : Int) else 4) = ((min 4 ns.length : Nat) : Int) := by split <;> omega
    have h2 : (if (((min 4 ns.length : Nat) : Int)) > 1 then ((min 4 ns.length : Nat) : Int) else 1) = ((max 1 (min 4 ns.length) : Nat) : Int) := by split <;> omega
    simp only [bind_ok_eq, bind_bad_eq, mVar_eq, mC_eq, m2_eq, mNil_eq, mPass_eq, mSeq_eq, mSet_eq, mRet_eq, mDrop_eq, mIf_eq, mB_eq, isB_eq, mAndT_eq, mOrT_eq, mNotT_eq, mAnd_eq, mOr_eq, mNot_eq, mIfE_eq, mChain_eq, aNil_eq, aCons_eq, mTup_eq, mDisp_eq, mLst_eq, mLoc_eq, mOwnL_eq, mCall_eq, mCallK_eq, mAsg_eq, mFor_eq, iSeq_eq, iSeqD_lst, iSeqD_tup, iLst_eq, seqD_lst, iLoc_eq, locD_eq, iScr_eq, scrD_eq, iRange1_eq, iRange2_eq, iEnumM_eq, mLc_eq, mYes_eq, mQ_eq, mQL_eq, mA_eq, mB1_eq, hLen_eq, hTup_eq, hList_eq, hAbs_eq, hInt_eq, hIntB_eq, hMax2_eq, hMin2_eq, gNeg_eq, gI_eq, gI0_eq, gIx_tup, gIx_lst, gIx_scr, gIx_loc, mSetC_eq, putC_eq, mApp_eq, mAppC_eq, qOwn_eq, gLen_tup, gLen_lst, gLen_scr, mDNewK_eq, mDGet2_eq, mDPut_eq, mDSet_eq, dictAt_eq, dictR_eq, keyD_int, keyD_str, mPar_eq, sNil_eq, sVal_eq, sOwnL_eq, setSl_nil, setSl_cons, setD_nil, setD_cons, pat_nm, pat_tp, pats_nil, pats_cons, wipeM_nil, wipeM_cons, forL_nil, lcL_nil, n2_eq, atI0, atI1, atI2, gNe_strs, gEq_strs, gNe_ints, gEq_ints, sz_1, sz_2, sz_3, sz_4, sz_5, sz_6, sz_7, sz_8, sz_9, sz_10, sz_11, sz_12, sz_13, sz_14, sz_15, sz_16, sz_17, sz_18, sz_19, sz_20, mLock_eq, nLock_eq, dictVar_eq, iKeysF_eq, keyV_inl, mRest_eq, restAt_eq, mExt_eq, iTup_eq, tupD_tup, mRetO_eq, gIsB_eq, gNotB_eq, gIsN_non, gIsN_int, gIsN_bl, gIsN_str, gIsN_tup, gIsN_lst, gIsN_loc, gNotN_non, gNotN_int, gNotN_bl, gNotN_str, gNotN_tup, gNotN_lst, gNotN_loc, iZip_eq, mAsg2_eq, mAug_eq, hSortedR_eq, mV_eq, mVL_eq, anyD_lst, anyD_tup, anyD_scr, anyD_loc, mIxO_eq, mSetO_eq, oNone_eq, oSome_eq, mSlT_eq, mSlQ_eq, mTruQ_eq, iRg1_eq, iRg2_eq, mNNew_eq, dictT_eq, mNGet1_eq, mNGet2_eq, gNGet_eq, gNIn_eq, putT_eq, setT_eq, mNPut_eq, mNSet_eq, mDGet1_eq, aStar_eq, mDCopy_eq, gDIn_eq, mIns_eq, mRevQ_eq, mKeysL_eq, mItemsL_eq, mDPop_eq, mBad_eq, mAsgS_eq, mAsgSS_eq, hStrI_eq, gReprA_loc, gReprA_tup, gReprA_lst, gReprA_non, gReprA_bl, gReprA_int, gReprA_str, mRevT_eq, mUp_eq, mSeqX_eq, mIfX_eq, mRaise1_eq, mCallX_eq, mDropX_eq, mSetX_eq, mRetX_eq, mTryF_eq, mLc2_eq, hSortedDB_eq, mSortSet_eq, mCallXK_eq, mListRg_eq, mKeepB_eq, hSortedN_eq, nLockT_eq, dictVarT_eq, iKeysG_eq, gNGetG_eq, dictW_eq, hSortedDL_eq, mEntries_nil, mEntries_cons, mDDisp_eq, gNum_int, gNum_bl, gNumR_int, gNumR_bl, mCallF_eq, gEq0_eq, mExc_eq, mFld_eq, mIsE_eq, mCntB_eq, Nat.zero_le, Nat.zero_add, Nat.reduceAdd, and_self, mDef_eq, List.getElem?_cons_zero, List.getElem?_cons_succ, List.set, List.length_cons, List.length_nil, List.map_cons, List.map_nil, List.replicate, List.cons_append, List.nil_append, List.append_nil, if_true, if_false, ite_true, ite_false, Bool.false_eq_true, Bool.true_eq_false, Bool.not_true, Bool.not_false, List.zip_cons_cons, List.zip_nil_left, gLen_scr, h1, h2]
  obtain ⟨K, hK, r1⟩ := r1
  obtain ⟨S', e⟩ := rights ns (List.range K) (S := []) (x1 := none) fun j hj => by have := List.mem_range.mp hj; omega
  refine ⟨S', ?_⟩
  have hl : (((List.range K).map fun _ => true).map D.bl).length ≤ PySem.sizeLine := small_le (by simp; omega)
  have ha : ((List.range K).map fun _ => true).all id = true := by simp
  have hq := hAll_bls ((List.range K).map fun _ => true) S'
  rw [ha] at hq
  unfold m_p_law b_p_law
  rw [mDef_eq]
  simp only [bind_ok_eq, bind_bad_eq, mVar_eq, mC_eq, m2_eq, mNil_eq, mPass_eq, mSeq_eq, mSet_eq, mRet_eq, mDrop_eq, mIf_eq, mB_eq, isB_eq, mAndT_eq, mOrT_eq, mNotT_eq, mAnd_eq, mOr_eq, mNot_eq, mIfE_eq, mChain_eq, aNil_eq, aCons_eq, mTup_eq, mDisp_eq, mLst_eq, mLoc_eq, mOwnL_eq, mCall_eq, mCallK_eq, mAsg_eq, mFor_eq, iSeq_eq, iSeqD_lst, iSeqD_tup, iLst_eq, seqD_lst, iLoc_eq, locD_eq, iScr_eq, scrD_eq, iRange1_eq, iRange2_eq, iEnumM_eq, mLc_eq, mYes_eq, mQ_eq, mQL_eq, mA_eq, mB1_eq, hLen_eq, hTup_eq, hList_eq, hAbs_eq, hInt_eq, hIntB_eq, hMax2_eq, hMin2_eq, gNeg_eq, gI_eq, gI0_eq, gIx_tup, gIx_lst, gIx_scr, gIx_loc, mSetC_eq, putC_eq, mApp_eq, mAppC_eq, qOwn_eq, gLen_tup, gLen_lst, gLen_scr, mDNewK_eq, mDGet2_eq, mDPut_eq, mDSet_eq, dictAt_eq, dictR_eq, keyD_int, keyD_str, mPar_eq, sNil_eq, sVal_eq, sOwnL_eq, setSl_nil, setSl_cons, setD_nil, setD_cons, pat_nm, pat_tp, pats_nil, pats_cons, wipeM_nil, wipeM_cons, forL_nil, lcL_nil, n2_eq, atI0, atI1, atI2, gNe_strs, gEq_strs, gNe_ints, gEq_ints, sz_1, sz_2, sz_3, sz_4, sz_5, sz_6, sz_7, sz_8, sz_9, sz_10, sz_11, sz_12, sz_13, sz_14, sz_15, sz_16, sz_17, sz_18, sz_19, sz_20, mLock_eq, nLock_eq, dictVar_eq, iKeysF_eq, keyV_inl, mRest_eq, restAt_eq, mExt_eq, iTup_eq, tupD_tup, mRetO_eq, gIsB_eq, gNotB_eq, gIsN_non, gIsN_int, gIsN_bl, gIsN_str, gIsN_tup, gIsN_lst, gIsN_loc, gNotN_non, gNotN_int, gNotN_bl, gNotN_str, gNotN_tup, gNotN_lst, gNotN_loc, iZip_eq, mAsg2_eq, mAug_eq, hSortedR_eq, mV_eq, mVL_eq, anyD_lst, anyD_tup, anyD_scr, anyD_loc, mIxO_eq, mSetO_eq, oNone_eq, oSome_eq, mSlT_eq, mSlQ_eq, mTruQ_eq, iRg1_eq, iRg2_eq, mNNew_eq, dictT_eq, mNGet1_eq, mNGet2_eq, gNGet_eq, gNIn_eq, putT_eq, setT_eq, mNPut_eq, mNSet_eq, mDGet1_eq, aStar_eq, mDCopy_eq, gDIn_eq, mIns_eq, mRevQ_eq, mKeysL_eq, mItemsL_eq, mDPop_eq, mBad_eq, mAsgS_eq, mAsgSS_eq, hStrI_eq, gReprA_loc, gReprA_tup, gReprA_lst, gReprA_non, gReprA_bl, gReprA_int, gReprA_str, mRevT_eq, mUp_eq, mSeqX_eq, mIfX_eq, mRaise1_eq, mCallX_eq, mDropX_eq, mSetX_eq, mRetX_eq, mTryF_eq, mLc2_eq, hSortedDB_eq, mSortSet_eq, mCallXK_eq, mListRg_eq, mKeepB_eq, hSortedN_eq, nLockT_eq, dictVarT_eq, iKeysG_eq, gNGetG_eq, dictW_eq, hSortedDL_eq, mEntries_nil, mEntries_cons, mDDisp_eq, gNum_int, gNum_bl, gNumR_int, gNumR_bl, mCallF_eq, gEq0_eq, mExc_eq, mFld_eq, mIsE_eq, mCntB_eq, Nat.zero_le, Nat.zero_add, Nat.reduceAdd, and_self, mDef_eq, List.getElem?_cons_zero, List.getElem?_cons_succ, List.set, List.length_cons, List.length_nil, List.map_cons, List.map_nil, List.replicate, List.cons_append, List.nil_append, List.append_nil, if_true, if_false, ite_true, ite_false, Bool.false_eq_true, Bool.true_eq_false, Bool.not_true, Bool.not_false, List.zip_cons_cons, List.zip_nil_left, Nat.reduceSub, List.replicate_succ, List.replicate_zero, wipeM, r1]
  rw [e]
  rw [bind_ok_eq, if_pos hl, bind_ok_eq]
  rw [hq]
  rfl
end K34
set_option maxRecDepth 100000
set_option maxHeartbeats 4000000
namespace K34
open PySem PySem.Spec PyProof.Rows L2 Mo
theorem all_mk {l : PySem.W.OpenLaw} {w : World} {K : PySem.W.Frag} {h : Heap} {mg : Str → Option Value} {fa f0 f1 f2 f3 f4 f5 f6 f7 f8 f9 : Addr} (X : K.In h) (G : h.Ns mainGlobals mg) (hfa : mg "law" = some (.ref fa))
    {od0 an0 od1 an1 od2 an2 od3 an3 od4 an4 od5 an5 od6 an6 od7 an7 od8 an8 od9 an9 : Option Addr} {sl0 sl1 sl2 sl3 sl4 sl5 sl6 sl7 sl8 sl9 : Array (Option Value)} {oc0 kV0 dc0 pm0 cd0 ct0 oc1 kV1 dc1 pm1 cd1 ct1 oc2 kV2 dc2 pm2 cd2 ct2 oc3 kV3 dc3 pm3 cd3 ct3 oc4 kV4 dc4 pm4 cd4 ct4 oc5 kV5 dc5 pm5 cd5 ct5 oc6 kV6 dc6 pm6 cd6 ct6 oc7 kV7 dc7 pm7 cd7 ct7 oc8 kV8 dc8 pm8 cd8 ct8 oc9 kV9 dc9 pm9 cd9 ct9 : Value}
    (a0 : PySem.W.nsIn K mainGlobals "_law_made" = some (some (.ref f0))) (l0 : K.lookup f0 = some ⟨oc0, od0, .func (PySem.W.fnOf "_law_made" "_law_made" (defArgs s_l_made) (defBody s_l_made) (defScope s_l_made) .none kV0 dc0 pm0 an0 cd0 ct0), sl0⟩)
    (c0 : PySem.W.codeIn K cd0 "_law_made" = true) (k0 : PySem.W.keepIn K (.ref f0) = true)
    (a1 : PySem.W.nsIn K mainGlobals "_law_take" = some (some (.ref f1))) (l1 : K.lookup f1 = some ⟨oc1, od1, .func (PySem.W.fnOf "_law_take" "_law_take" (defArgs s_l_take) (defBody s_l_take) (defScope s_l_take) .none kV1 dc1 pm1 an1 cd1 ct1), sl1⟩)
    (c1 : PySem.W.codeIn K cd1 "_law_take" = true) (k1 : PySem.W.keepIn K (.ref f1) = true)
    (a2 : PySem.W.nsIn K mainGlobals "_law_of" = some (some (.ref f2))) (l2 : K.lookup f2 = some ⟨oc2, od2, .func (PySem.W.fnOf "_law_of" "_law_of" (defArgs s_l_of) (defBody s_l_of) (defScope s_l_of) .none kV2 dc2 pm2 an2 cd2 ct2), sl2⟩)
    (c2 : PySem.W.codeIn K cd2 "_law_of" = true) (k2 : PySem.W.keepIn K (.ref f2) = true)
    (a3 : PySem.W.nsIn K mainGlobals "_law_thing" = some (some (.ref f3))) (l3 : K.lookup f3 = some ⟨oc3, od3, .func (PySem.W.fnOf "_law_thing" "_law_thing" (defArgs s_l_thing) (defBody s_l_thing) (defScope s_l_thing) .none kV3 dc3 pm3 an3 cd3 ct3), sl3⟩)
    (c3 : PySem.W.codeIn K cd3 "_law_thing" = true) (k3 : PySem.W.keepIn K (.ref f3) = true)
    (a4 : PySem.W.nsIn K mainGlobals "_law_marks" = some (some (.ref f4))) (l4 : K.lookup f4 = some ⟨oc4, od4, .func (PySem.W.fnOf "_law_marks" "_law_marks" (defArgs s_l_marks) (defBody s_l_marks) (defScope s_l_marks) .none kV4 dc4 pm4 an4 cd4 ct4), sl4⟩)
    (c4 : PySem.W.codeIn K cd4 "_law_marks" = true) (k4 : PySem.W.keepIn K (.ref f4) = true)
    (a5 : PySem.W.nsIn K mainGlobals "_law_values" = some (some (.ref f5))) (l5 : K.lookup f5 = some ⟨oc5, od5, .func (PySem.W.fnOf "_law_values" "_law_values" (defArgs s_l_values) (defBody s_l_values) (defScope s_l_values) .none kV5 dc5 pm5 an5 cd5 ct5), sl5⟩)
    (c5 : PySem.W.codeIn K cd5 "_law_values" = true) (k5 : PySem.W.keepIn K (.ref f5) = true)
    (a6 : PySem.W.nsIn K mainGlobals "_law_family_right" = some (some (.ref f6))) (l6 : K.lookup f6 = some ⟨oc6, od6, .func (PySem.W.fnOf "_law_family_right" "_law_family_right" (defArgs s_l_family_right) (defBody s_l_family_right) (defScope s_l_family_right) .none kV6 dc6 pm6 an6 cd6 ct6), sl6⟩)
    (c6 : PySem.W.codeIn K cd6 "_law_family_right" = true) (k6 : PySem.W.keepIn K (.ref f6) = true)
    (a7 : PySem.W.nsIn K mainGlobals "_law_right" = some (some (.ref f7))) (l7 : K.lookup f7 = some ⟨oc7, od7, .func (PySem.W.fnOf "_law_right" "_law_right" (defArgs s_l_right) (defBody s_l_right) (defScope s_l_right) .none kV7 dc7 pm7 an7 cd7 ct7), sl7⟩)
    (c7 : PySem.W.codeIn K cd7 "_law_right" = true) (k7 : PySem.W.keepIn K (.ref f7) = true)
    (a8 : PySem.W.nsIn K mainGlobals "_law_urn" = some (some (.ref f8))) (l8 : K.lookup f8 = some ⟨oc8, od8, .func (PySem.W.fnOf "_law_urn" "_law_urn" (defArgs s_l_urn) (defBody s_l_urn) (defScope s_l_urn) .none kV8 dc8 pm8 an8 cd8 ct8), sl8⟩)
    (c8 : PySem.W.codeIn K cd8 "_law_urn" = true) (k8 : PySem.W.keepIn K (.ref f8) = true)
    (a9 : PySem.W.nsIn K mainGlobals "law" = some (some (.ref f9))) (l9 : K.lookup f9 = some ⟨oc9, od9, .func (PySem.W.fnOf "law" "law" (defArgs s_p_law) (defBody s_p_law) (defScope s_p_law) .none kV9 dc9 pm9 an9 cd9 ct9), sl9⟩)
    (c9 : PySem.W.codeIn K cd9 "law" = true) (k9 : PySem.W.keepIn K (.ref f9) = true)
    {A_V A_M : Addr} (xaV : PySem.W.nsIn K mainGlobals "VoteError" = some (some (.ref A_V))) (xaM : PySem.W.nsIn K mainGlobals "Missing" = some (some (.ref A_M)))
    (xtV : PySem.W.typeIn K (.ref A_V) = some (.type "type")) (xtM : PySem.W.typeIn K (.ref A_M) = some (.type "type")) (xhV : PySem.W.hasDictIn K A_V = true) (xhM : PySem.W.hasDictIn K A_M = true)
    (dn : PySem.W.specialIn K (.builtin "object.__class__") "__get__" = some (some (.builtin "getset_descriptor.__get__"))) (dt : PySem.W.takesIn K (.builtin "object.__class__") = some true)
    {C_TooMany I_TooMany : Addr} {nm_TooMany q_TooMany : Str} {N_TooMany : Addr} {bs_TooMany : List Value} {sn_TooMany : List Str} {sb_TooMany : List Value} {ab_TooMany : Bool} {co_TooMany : Option Bool} {dd_TooMany : Option Addr} {ma_TooMany mb_TooMany mc_TooMany md_TooMany me_TooMany : Option Value}
    {oc_TooMany kV_TooMany dc_TooMany pm_TooMany cd_TooMany ct_TooMany : Value} {od_TooMany an_TooMany : Option Addr} {sl_TooMany : Array (Option Value)}
    (ca_TooMany : PySem.W.nsIn K mainGlobals "TooMany" = some (some (.ref C_TooMany)))
    (cl_TooMany : K.lookup C_TooMany = some (excClassObj nm_TooMany q_TooMany C_TooMany N_TooMany bs_TooMany [.ref A_V, .type "ValueError", .type "Exception", .type "BaseException", .type "object"] true sn_TooMany sb_TooMany ab_TooMany co_TooMany dd_TooMany ma_TooMany mb_TooMany mc_TooMany md_TooMany me_TooMany "ValueError.__new__"))
    (cs_TooMany : PySem.W.findIn K (.ref C_TooMany) "__setattr__" = some (some (.builtin "object.__setattr__"))) (ck_TooMany : PySem.W.keepIn K (.ref C_TooMany) = true)
    (ci_TooMany : PySem.W.findIn K (.ref C_TooMany) "__init__" = some (some (.ref I_TooMany))) (cf_TooMany : PySem.W.typeIn K (.ref I_TooMany) = some (.type "function"))
    (cg_TooMany : K.lookup I_TooMany = some ⟨oc_TooMany, od_TooMany, .func (PySem.W.fnOf "__init__" "TooMany.__init__" (defArgs si_TooMany) (defBody si_TooMany) (defScope si_TooMany) .none kV_TooMany dc_TooMany pm_TooMany an_TooMany cd_TooMany ct_TooMany), sl_TooMany⟩) (cc_TooMany : PySem.W.codeIn K cd_TooMany "TooMany.__init__" = true)
    (cp_TooMany : PySem.W.findIn K (.ref C_TooMany) "__getattribute__" = some (some (.builtin "BaseException.__getattribute__"))) (cq_TooMany : PySem.W.findIn K (.ref C_TooMany) "__getattr__" = some none) (cn_TooMany : PySem.W.findIn K (.ref C_TooMany) "many" = some none) (da_TooMany : PySem.W.findIn K (.ref C_TooMany) "__class__" = some (some (.builtin "object.__class__")))
    {C_Twice I_Twice : Addr} {nm_Twice q_Twice : Str} {N_Twice : Addr} {bs_Twice : List Value} {sn_Twice : List Str} {sb_Twice : List Value} {ab_Twice : Bool} {co_Twice : Option Bool} {dd_Twice : Option Addr} {ma_Twice mb_Twice mc_Twice md_Twice me_Twice : Option Value}
    {oc_Twice kV_Twice dc_Twice pm_Twice cd_Twice ct_Twice : Value} {od_Twice an_Twice : Option Addr} {sl_Twice : Array (Option Value)}
    (ca_Twice : PySem.W.nsIn K mainGlobals "Twice" = some (some (.ref C_Twice)))
    (cl_Twice : K.lookup C_Twice = some (excClassObj nm_Twice q_Twice C_Twice N_Twice bs_Twice [.ref A_V, .type "ValueError", .type "Exception", .type "BaseException", .type "object"] true sn_Twice sb_Twice ab_Twice co_Twice dd_Twice ma_Twice mb_Twice mc_Twice md_Twice me_Twice "ValueError.__new__"))
    (cs_Twice : PySem.W.findIn K (.ref C_Twice) "__setattr__" = some (some (.builtin "object.__setattr__"))) (ck_Twice : PySem.W.keepIn K (.ref C_Twice) = true)
    (ci_Twice : PySem.W.findIn K (.ref C_Twice) "__init__" = some (some (.ref I_Twice))) (cf_Twice : PySem.W.typeIn K (.ref I_Twice) = some (.type "function"))
    (cg_Twice : K.lookup I_Twice = some ⟨oc_Twice, od_Twice, .func (PySem.W.fnOf "__init__" "Twice.__init__" (defArgs si_Twice) (defBody si_Twice) (defScope si_Twice) .none kV_Twice dc_Twice pm_Twice an_Twice cd_Twice ct_Twice), sl_Twice⟩) (cc_Twice : PySem.W.codeIn K cd_Twice "Twice.__init__" = true)
    (cp_Twice : PySem.W.findIn K (.ref C_Twice) "__getattribute__" = some (some (.builtin "BaseException.__getattribute__"))) (cq_Twice : PySem.W.findIn K (.ref C_Twice) "__getattr__" = some none) (cn_Twice : PySem.W.findIn K (.ref C_Twice) "point" = some none) (da_Twice : PySem.W.findIn K (.ref C_Twice) "__class__" = some (some (.builtin "object.__class__")))
    {C_OldBallot I_OldBallot : Addr} {nm_OldBallot q_OldBallot : Str} {N_OldBallot : Addr} {bs_OldBallot : List Value} {sn_OldBallot : List Str} {sb_OldBallot : List Value} {ab_OldBallot : Bool} {co_OldBallot : Option Bool} {dd_OldBallot : Option Addr} {ma_OldBallot mb_OldBallot mc_OldBallot md_OldBallot me_OldBallot : Option Value}
    {oc_OldBallot kV_OldBallot dc_OldBallot pm_OldBallot cd_OldBallot ct_OldBallot : Value} {od_OldBallot an_OldBallot : Option Addr} {sl_OldBallot : Array (Option Value)}
    (ca_OldBallot : PySem.W.nsIn K mainGlobals "OldBallot" = some (some (.ref C_OldBallot)))
    (cl_OldBallot : K.lookup C_OldBallot = some (excClassObj nm_OldBallot q_OldBallot C_OldBallot N_OldBallot bs_OldBallot [.ref A_V, .type "ValueError", .type "Exception", .type "BaseException", .type "object"] true sn_OldBallot sb_OldBallot ab_OldBallot co_OldBallot dd_OldBallot ma_OldBallot mb_OldBallot mc_OldBallot md_OldBallot me_OldBallot "ValueError.__new__"))
    (cs_OldBallot : PySem.W.findIn K (.ref C_OldBallot) "__setattr__" = some (some (.builtin "object.__setattr__"))) (ck_OldBallot : PySem.W.keepIn K (.ref C_OldBallot) = true)
    (ci_OldBallot : PySem.W.findIn K (.ref C_OldBallot) "__init__" = some (some (.ref I_OldBallot))) (cf_OldBallot : PySem.W.typeIn K (.ref I_OldBallot) = some (.type "function"))
    (cg_OldBallot : K.lookup I_OldBallot = some ⟨oc_OldBallot, od_OldBallot, .func (PySem.W.fnOf "__init__" "OldBallot.__init__" (defArgs si_OldBallot) (defBody si_OldBallot) (defScope si_OldBallot) .none kV_OldBallot dc_OldBallot pm_OldBallot an_OldBallot cd_OldBallot ct_OldBallot), sl_OldBallot⟩) (cc_OldBallot : PySem.W.codeIn K cd_OldBallot "OldBallot.__init__" = true)
    (cp_OldBallot : PySem.W.findIn K (.ref C_OldBallot) "__getattribute__" = some (some (.builtin "BaseException.__getattribute__"))) (cq_OldBallot : PySem.W.findIn K (.ref C_OldBallot) "__getattr__" = some none) (cn_OldBallot : PySem.W.findIn K (.ref C_OldBallot) "number" = some none) (da_OldBallot : PySem.W.findIn K (.ref C_OldBallot) "__class__" = some (some (.builtin "object.__class__")))
    {C_NotMost I_NotMost : Addr} {nm_NotMost q_NotMost : Str} {N_NotMost : Addr} {bs_NotMost : List Value} {sn_NotMost : List Str} {sb_NotMost : List Value} {ab_NotMost : Bool} {co_NotMost : Option Bool} {dd_NotMost : Option Addr} {ma_NotMost mb_NotMost mc_NotMost md_NotMost me_NotMost : Option Value}
    {oc_NotMost kV_NotMost dc_NotMost pm_NotMost cd_NotMost ct_NotMost : Value} {od_NotMost an_NotMost : Option Addr} {sl_NotMost : Array (Option Value)}
    (ca_NotMost : PySem.W.nsIn K mainGlobals "NotMost" = some (some (.ref C_NotMost)))
    (cl_NotMost : K.lookup C_NotMost = some (excClassObj nm_NotMost q_NotMost C_NotMost N_NotMost bs_NotMost [.ref A_V, .type "ValueError", .type "Exception", .type "BaseException", .type "object"] true sn_NotMost sb_NotMost ab_NotMost co_NotMost dd_NotMost ma_NotMost mb_NotMost mc_NotMost md_NotMost me_NotMost "ValueError.__new__"))
    (cs_NotMost : PySem.W.findIn K (.ref C_NotMost) "__setattr__" = some (some (.builtin "object.__setattr__"))) (ck_NotMost : PySem.W.keepIn K (.ref C_NotMost) = true)
    (ci_NotMost : PySem.W.findIn K (.ref C_NotMost) "__init__" = some (some (.ref I_NotMost))) (cf_NotMost : PySem.W.typeIn K (.ref I_NotMost) = some (.type "function"))
    (cg_NotMost : K.lookup I_NotMost = some ⟨oc_NotMost, od_NotMost, .func (PySem.W.fnOf "__init__" "NotMost.__init__" (defArgs si_NotMost) (defBody si_NotMost) (defScope si_NotMost) .none kV_NotMost dc_NotMost pm_NotMost an_NotMost cd_NotMost ct_NotMost), sl_NotMost⟩) (cc_NotMost : PySem.W.codeIn K cd_NotMost "NotMost.__init__" = true)
    (cp_NotMost : PySem.W.findIn K (.ref C_NotMost) "__getattribute__" = some (some (.builtin "BaseException.__getattribute__"))) (cq_NotMost : PySem.W.findIn K (.ref C_NotMost) "__getattr__" = some none) (cn_NotMost : PySem.W.findIn K (.ref C_NotMost) "name" = some none) (da_NotMost : PySem.W.findIn K (.ref C_NotMost) "__class__" = some (some (.builtin "object.__class__")))
    {C_Known I_Known : Addr} {nm_Known q_Known : Str} {N_Known : Addr} {bs_Known : List Value} {sn_Known : List Str} {sb_Known : List Value} {ab_Known : Bool} {co_Known : Option Bool} {dd_Known : Option Addr} {ma_Known mb_Known mc_Known md_Known me_Known : Option Value}
    {oc_Known kV_Known dc_Known pm_Known cd_Known ct_Known : Value} {od_Known an_Known : Option Addr} {sl_Known : Array (Option Value)}
    (ca_Known : PySem.W.nsIn K mainGlobals "Known" = some (some (.ref C_Known)))
    (cl_Known : K.lookup C_Known = some (excClassObj nm_Known q_Known C_Known N_Known bs_Known [.ref A_V, .type "ValueError", .type "Exception", .type "BaseException", .type "object"] true sn_Known sb_Known ab_Known co_Known dd_Known ma_Known mb_Known mc_Known md_Known me_Known "ValueError.__new__"))
    (cs_Known : PySem.W.findIn K (.ref C_Known) "__setattr__" = some (some (.builtin "object.__setattr__"))) (ck_Known : PySem.W.keepIn K (.ref C_Known) = true)
    (ci_Known : PySem.W.findIn K (.ref C_Known) "__init__" = some (some (.ref I_Known))) (cf_Known : PySem.W.typeIn K (.ref I_Known) = some (.type "function"))
    (cg_Known : K.lookup I_Known = some ⟨oc_Known, od_Known, .func (PySem.W.fnOf "__init__" "Known.__init__" (defArgs si_Known) (defBody si_Known) (defScope si_Known) .none kV_Known dc_Known pm_Known an_Known cd_Known ct_Known), sl_Known⟩) (cc_Known : PySem.W.codeIn K cd_Known "Known.__init__" = true)
    (cp_Known : PySem.W.findIn K (.ref C_Known) "__getattribute__" = some (some (.builtin "BaseException.__getattribute__"))) (cq_Known : PySem.W.findIn K (.ref C_Known) "__getattr__" = some none) (cn_Known : PySem.W.findIn K (.ref C_Known) "row" = some none) (da_Known : PySem.W.findIn K (.ref C_Known) "__class__" = some (some (.builtin "object.__class__")))
    {C_FarRow I_FarRow : Addr} {nm_FarRow q_FarRow : Str} {N_FarRow : Addr} {bs_FarRow : List Value} {sn_FarRow : List Str} {sb_FarRow : List Value} {ab_FarRow : Bool} {co_FarRow : Option Bool} {dd_FarRow : Option Addr} {ma_FarRow mb_FarRow mc_FarRow md_FarRow me_FarRow : Option Value}
    {oc_FarRow kV_FarRow dc_FarRow pm_FarRow cd_FarRow ct_FarRow : Value} {od_FarRow an_FarRow : Option Addr} {sl_FarRow : Array (Option Value)}
    (ca_FarRow : PySem.W.nsIn K mainGlobals "FarRow" = some (some (.ref C_FarRow)))
    (cl_FarRow : K.lookup C_FarRow = some (excClassObj nm_FarRow q_FarRow C_FarRow N_FarRow bs_FarRow [.ref A_V, .type "ValueError", .type "Exception", .type "BaseException", .type "object"] true sn_FarRow sb_FarRow ab_FarRow co_FarRow dd_FarRow ma_FarRow mb_FarRow mc_FarRow md_FarRow me_FarRow "ValueError.__new__"))
    (cs_FarRow : PySem.W.findIn K (.ref C_FarRow) "__setattr__" = some (some (.builtin "object.__setattr__"))) (ck_FarRow : PySem.W.keepIn K (.ref C_FarRow) = true)
    (ci_FarRow : PySem.W.findIn K (.ref C_FarRow) "__init__" = some (some (.ref I_FarRow))) (cf_FarRow : PySem.W.typeIn K (.ref I_FarRow) = some (.type "function"))
    (cg_FarRow : K.lookup I_FarRow = some ⟨oc_FarRow, od_FarRow, .func (PySem.W.fnOf "__init__" "FarRow.__init__" (defArgs si_FarRow) (defBody si_FarRow) (defScope si_FarRow) .none kV_FarRow dc_FarRow pm_FarRow an_FarRow cd_FarRow ct_FarRow), sl_FarRow⟩) (cc_FarRow : PySem.W.codeIn K cd_FarRow "FarRow.__init__" = true)
    (cp_FarRow : PySem.W.findIn K (.ref C_FarRow) "__getattribute__" = some (some (.builtin "BaseException.__getattribute__"))) (cq_FarRow : PySem.W.findIn K (.ref C_FarRow) "__getattr__" = some none) (cn_FarRow : PySem.W.findIn K (.ref C_FarRow) "row" = some none) (da_FarRow : PySem.W.findIn K (.ref C_FarRow) "__class__" = some (some (.builtin "object.__class__")))
    {C_NoLot I_NoLot : Addr} {nm_NoLot q_NoLot : Str} {N_NoLot : Addr} {bs_NoLot : List Value} {sn_NoLot : List Str} {sb_NoLot : List Value} {ab_NoLot : Bool} {co_NoLot : Option Bool} {dd_NoLot : Option Addr} {ma_NoLot mb_NoLot mc_NoLot md_NoLot me_NoLot : Option Value}
    {oc_NoLot kV_NoLot dc_NoLot pm_NoLot cd_NoLot ct_NoLot : Value} {od_NoLot an_NoLot : Option Addr} {sl_NoLot : Array (Option Value)}
    (ca_NoLot : PySem.W.nsIn K mainGlobals "NoLot" = some (some (.ref C_NoLot)))
    (cl_NoLot : K.lookup C_NoLot = some (excClassObj nm_NoLot q_NoLot C_NoLot N_NoLot bs_NoLot [.ref A_V, .type "ValueError", .type "Exception", .type "BaseException", .type "object"] true sn_NoLot sb_NoLot ab_NoLot co_NoLot dd_NoLot ma_NoLot mb_NoLot mc_NoLot md_NoLot me_NoLot "ValueError.__new__"))
    (cs_NoLot : PySem.W.findIn K (.ref C_NoLot) "__setattr__" = some (some (.builtin "object.__setattr__"))) (ck_NoLot : PySem.W.keepIn K (.ref C_NoLot) = true)
    (ci_NoLot : PySem.W.findIn K (.ref C_NoLot) "__init__" = some (some (.ref I_NoLot))) (cf_NoLot : PySem.W.typeIn K (.ref I_NoLot) = some (.type "function"))
    (cg_NoLot : K.lookup I_NoLot = some ⟨oc_NoLot, od_NoLot, .func (PySem.W.fnOf "__init__" "NoLot.__init__" (defArgs si_NoLot) (defBody si_NoLot) (defScope si_NoLot) .none kV_NoLot dc_NoLot pm_NoLot an_NoLot cd_NoLot ct_NoLot), sl_NoLot⟩) (cc_NoLot : PySem.W.codeIn K cd_NoLot "NoLot.__init__" = true)
    (cp_NoLot : PySem.W.findIn K (.ref C_NoLot) "__getattribute__" = some (some (.builtin "BaseException.__getattribute__"))) (cq_NoLot : PySem.W.findIn K (.ref C_NoLot) "__getattr__" = some none) (cn_NoLot : PySem.W.findIn K (.ref C_NoLot) "thing" = some none) (da_NoLot : PySem.W.findIn K (.ref C_NoLot) "__class__" = some (some (.builtin "object.__class__")))
    {C_NotHeld I_NotHeld : Addr} {nm_NotHeld q_NotHeld : Str} {N_NotHeld : Addr} {bs_NotHeld : List Value} {sn_NotHeld : List Str} {sb_NotHeld : List Value} {ab_NotHeld : Bool} {co_NotHeld : Option Bool} {dd_NotHeld : Option Addr} {ma_NotHeld mb_NotHeld mc_NotHeld md_NotHeld me_NotHeld : Option Value}
    {oc_NotHeld kV_NotHeld dc_NotHeld pm_NotHeld cd_NotHeld ct_NotHeld : Value} {od_NotHeld an_NotHeld : Option Addr} {sl_NotHeld : Array (Option Value)}
    (ca_NotHeld : PySem.W.nsIn K mainGlobals "NotHeld" = some (some (.ref C_NotHeld)))
    (cl_NotHeld : K.lookup C_NotHeld = some (excClassObj nm_NotHeld q_NotHeld C_NotHeld N_NotHeld bs_NotHeld [.ref A_V, .type "ValueError", .type "Exception", .type "BaseException", .type "object"] true sn_NotHeld sb_NotHeld ab_NotHeld co_NotHeld dd_NotHeld ma_NotHeld mb_NotHeld mc_NotHeld md_NotHeld me_NotHeld "ValueError.__new__"))
    (cs_NotHeld : PySem.W.findIn K (.ref C_NotHeld) "__setattr__" = some (some (.builtin "object.__setattr__"))) (ck_NotHeld : PySem.W.keepIn K (.ref C_NotHeld) = true)
    (ci_NotHeld : PySem.W.findIn K (.ref C_NotHeld) "__init__" = some (some (.ref I_NotHeld))) (cf_NotHeld : PySem.W.typeIn K (.ref I_NotHeld) = some (.type "function"))
    (cg_NotHeld : K.lookup I_NotHeld = some ⟨oc_NotHeld, od_NotHeld, .func (PySem.W.fnOf "__init__" "NotHeld.__init__" (defArgs si_NotHeld) (defBody si_NotHeld) (defScope si_NotHeld) .none kV_NotHeld dc_NotHeld pm_NotHeld an_NotHeld cd_NotHeld ct_NotHeld), sl_NotHeld⟩) (cc_NotHeld : PySem.W.codeIn K cd_NotHeld "NotHeld.__init__" = true)
    (cp_NotHeld : PySem.W.findIn K (.ref C_NotHeld) "__getattribute__" = some (some (.builtin "BaseException.__getattribute__"))) (cq_NotHeld : PySem.W.findIn K (.ref C_NotHeld) "__getattr__" = some none) (cn_NotHeld : PySem.W.findIn K (.ref C_NotHeld) "point" = some none) (da_NotHeld : PySem.W.findIn K (.ref C_NotHeld) "__class__" = some (some (.builtin "object.__class__")))
    {C_Fallen I_Fallen : Addr} {nm_Fallen q_Fallen : Str} {N_Fallen : Addr} {bs_Fallen : List Value} {sn_Fallen : List Str} {sb_Fallen : List Value} {ab_Fallen : Bool} {co_Fallen : Option Bool} {dd_Fallen : Option Addr} {ma_Fallen mb_Fallen mc_Fallen md_Fallen me_Fallen : Option Value}
    {oc_Fallen kV_Fallen dc_Fallen pm_Fallen cd_Fallen ct_Fallen : Value} {od_Fallen an_Fallen : Option Addr} {sl_Fallen : Array (Option Value)}
    (ca_Fallen : PySem.W.nsIn K mainGlobals "Fallen" = some (some (.ref C_Fallen)))
    (cl_Fallen : K.lookup C_Fallen = some (excClassObj nm_Fallen q_Fallen C_Fallen N_Fallen bs_Fallen [.ref A_V, .type "ValueError", .type "Exception", .type "BaseException", .type "object"] true sn_Fallen sb_Fallen ab_Fallen co_Fallen dd_Fallen ma_Fallen mb_Fallen mc_Fallen md_Fallen me_Fallen "ValueError.__new__"))
    (cs_Fallen : PySem.W.findIn K (.ref C_Fallen) "__setattr__" = some (some (.builtin "object.__setattr__"))) (ck_Fallen : PySem.W.keepIn K (.ref C_Fallen) = true)
    (ci_Fallen : PySem.W.findIn K (.ref C_Fallen) "__init__" = some (some (.ref I_Fallen))) (cf_Fallen : PySem.W.typeIn K (.ref I_Fallen) = some (.type "function"))
    (cg_Fallen : K.lookup I_Fallen = some ⟨oc_Fallen, od_Fallen, .func (PySem.W.fnOf "__init__" "Fallen.__init__" (defArgs si_Fallen) (defBody si_Fallen) (defScope si_Fallen) .none kV_Fallen dc_Fallen pm_Fallen an_Fallen cd_Fallen ct_Fallen), sl_Fallen⟩) (cc_Fallen : PySem.W.codeIn K cd_Fallen "Fallen.__init__" = true)
    (cp_Fallen : PySem.W.findIn K (.ref C_Fallen) "__getattribute__" = some (some (.builtin "BaseException.__getattribute__"))) (cq_Fallen : PySem.W.findIn K (.ref C_Fallen) "__getattr__" = some none) (cn_Fallen : PySem.W.findIn K (.ref C_Fallen) "name" = some none) (da_Fallen : PySem.W.findIn K (.ref C_Fallen) "__class__" = some (some (.builtin "object.__class__")))
    {C_Standing I_Standing : Addr} {nm_Standing q_Standing : Str} {N_Standing : Addr} {bs_Standing : List Value} {sn_Standing : List Str} {sb_Standing : List Value} {ab_Standing : Bool} {co_Standing : Option Bool} {dd_Standing : Option Addr} {ma_Standing mb_Standing mc_Standing md_Standing me_Standing : Option Value}
    {oc_Standing kV_Standing dc_Standing pm_Standing cd_Standing ct_Standing : Value} {od_Standing an_Standing : Option Addr} {sl_Standing : Array (Option Value)}
    (ca_Standing : PySem.W.nsIn K mainGlobals "Standing" = some (some (.ref C_Standing)))
    (cl_Standing : K.lookup C_Standing = some (excClassObj nm_Standing q_Standing C_Standing N_Standing bs_Standing [.ref A_V, .type "ValueError", .type "Exception", .type "BaseException", .type "object"] true sn_Standing sb_Standing ab_Standing co_Standing dd_Standing ma_Standing mb_Standing mc_Standing md_Standing me_Standing "ValueError.__new__"))
    (cs_Standing : PySem.W.findIn K (.ref C_Standing) "__setattr__" = some (some (.builtin "object.__setattr__"))) (ck_Standing : PySem.W.keepIn K (.ref C_Standing) = true)
    (ci_Standing : PySem.W.findIn K (.ref C_Standing) "__init__" = some (some (.ref I_Standing))) (cf_Standing : PySem.W.typeIn K (.ref I_Standing) = some (.type "function"))
    (cg_Standing : K.lookup I_Standing = some ⟨oc_Standing, od_Standing, .func (PySem.W.fnOf "__init__" "Standing.__init__" (defArgs si_Standing) (defBody si_Standing) (defScope si_Standing) .none kV_Standing dc_Standing pm_Standing an_Standing cd_Standing ct_Standing), sl_Standing⟩) (cc_Standing : PySem.W.codeIn K cd_Standing "Standing.__init__" = true)
    (cp_Standing : PySem.W.findIn K (.ref C_Standing) "__getattribute__" = some (some (.builtin "BaseException.__getattribute__"))) (cq_Standing : PySem.W.findIn K (.ref C_Standing) "__getattr__" = some none) (cn_Standing : PySem.W.findIn K (.ref C_Standing) "name" = some none) (da_Standing : PySem.W.findIn K (.ref C_Standing) "__class__" = some (some (.builtin "object.__class__")))
    {C_NotMine I_NotMine : Addr} {nm_NotMine q_NotMine : Str} {N_NotMine : Addr} {bs_NotMine : List Value} {sn_NotMine : List Str} {sb_NotMine : List Value} {ab_NotMine : Bool} {co_NotMine : Option Bool} {dd_NotMine : Option Addr} {ma_NotMine mb_NotMine mc_NotMine md_NotMine me_NotMine : Option Value}
    {oc_NotMine kV_NotMine dc_NotMine pm_NotMine cd_NotMine ct_NotMine : Value} {od_NotMine an_NotMine : Option Addr} {sl_NotMine : Array (Option Value)}
    (ca_NotMine : PySem.W.nsIn K mainGlobals "NotMine" = some (some (.ref C_NotMine)))
    (cl_NotMine : K.lookup C_NotMine = some (excClassObj nm_NotMine q_NotMine C_NotMine N_NotMine bs_NotMine [.ref A_V, .type "ValueError", .type "Exception", .type "BaseException", .type "object"] true sn_NotMine sb_NotMine ab_NotMine co_NotMine dd_NotMine ma_NotMine mb_NotMine mc_NotMine md_NotMine me_NotMine "ValueError.__new__"))
    (cs_NotMine : PySem.W.findIn K (.ref C_NotMine) "__setattr__" = some (some (.builtin "object.__setattr__"))) (ck_NotMine : PySem.W.keepIn K (.ref C_NotMine) = true)
    (ci_NotMine : PySem.W.findIn K (.ref C_NotMine) "__init__" = some (some (.ref I_NotMine))) (cf_NotMine : PySem.W.typeIn K (.ref I_NotMine) = some (.type "function"))
    (cg_NotMine : K.lookup I_NotMine = some ⟨oc_NotMine, od_NotMine, .func (PySem.W.fnOf "__init__" "NotMine.__init__" (defArgs si_NotMine) (defBody si_NotMine) (defScope si_NotMine) .none kV_NotMine dc_NotMine pm_NotMine an_NotMine cd_NotMine ct_NotMine), sl_NotMine⟩) (cc_NotMine : PySem.W.codeIn K cd_NotMine "NotMine.__init__" = true)
    (cp_NotMine : PySem.W.findIn K (.ref C_NotMine) "__getattribute__" = some (some (.builtin "BaseException.__getattribute__"))) (cq_NotMine : PySem.W.findIn K (.ref C_NotMine) "__getattr__" = some none) (cn_NotMine : PySem.W.findIn K (.ref C_NotMine) "thing" = some none) (da_NotMine : PySem.W.findIn K (.ref C_NotMine) "__class__" = some (some (.builtin "object.__class__")))
    {C_BadWorld I_BadWorld : Addr} {nm_BadWorld q_BadWorld : Str} {N_BadWorld : Addr} {bs_BadWorld : List Value} {sn_BadWorld : List Str} {sb_BadWorld : List Value} {ab_BadWorld : Bool} {co_BadWorld : Option Bool} {dd_BadWorld : Option Addr} {ma_BadWorld mb_BadWorld mc_BadWorld md_BadWorld me_BadWorld : Option Value}
    {oc_BadWorld kV_BadWorld dc_BadWorld pm_BadWorld cd_BadWorld ct_BadWorld : Value} {od_BadWorld an_BadWorld : Option Addr} {sl_BadWorld : Array (Option Value)}
    (ca_BadWorld : PySem.W.nsIn K mainGlobals "BadWorld" = some (some (.ref C_BadWorld)))
    (cl_BadWorld : K.lookup C_BadWorld = some (excClassObj nm_BadWorld q_BadWorld C_BadWorld N_BadWorld bs_BadWorld [.ref A_V, .type "ValueError", .type "Exception", .type "BaseException", .type "object"] true sn_BadWorld sb_BadWorld ab_BadWorld co_BadWorld dd_BadWorld ma_BadWorld mb_BadWorld mc_BadWorld md_BadWorld me_BadWorld "ValueError.__new__"))
    (cs_BadWorld : PySem.W.findIn K (.ref C_BadWorld) "__setattr__" = some (some (.builtin "object.__setattr__"))) (ck_BadWorld : PySem.W.keepIn K (.ref C_BadWorld) = true)
    (ci_BadWorld : PySem.W.findIn K (.ref C_BadWorld) "__init__" = some (some (.ref I_BadWorld))) (cf_BadWorld : PySem.W.typeIn K (.ref I_BadWorld) = some (.type "function"))
    (cg_BadWorld : K.lookup I_BadWorld = some ⟨oc_BadWorld, od_BadWorld, .func (PySem.W.fnOf "__init__" "BadWorld.__init__" (defArgs si_BadWorld) (defBody si_BadWorld) (defScope si_BadWorld) .none kV_BadWorld dc_BadWorld pm_BadWorld an_BadWorld cd_BadWorld ct_BadWorld), sl_BadWorld⟩) (cc_BadWorld : PySem.W.codeIn K cd_BadWorld "BadWorld.__init__" = true)
    (cp_BadWorld : PySem.W.findIn K (.ref C_BadWorld) "__getattribute__" = some (some (.builtin "BaseException.__getattribute__"))) (cq_BadWorld : PySem.W.findIn K (.ref C_BadWorld) "__getattr__" = some none) (cn_BadWorld : PySem.W.findIn K (.ref C_BadWorld) "thing" = some none) (da_BadWorld : PySem.W.findIn K (.ref C_BadWorld) "__class__" = some (some (.builtin "object.__class__")))
    {C_NoDeed I_NoDeed : Addr} {nm_NoDeed q_NoDeed : Str} {N_NoDeed : Addr} {bs_NoDeed : List Value} {sn_NoDeed : List Str} {sb_NoDeed : List Value} {ab_NoDeed : Bool} {co_NoDeed : Option Bool} {dd_NoDeed : Option Addr} {ma_NoDeed mb_NoDeed mc_NoDeed md_NoDeed me_NoDeed : Option Value}
    {oc_NoDeed kV_NoDeed dc_NoDeed pm_NoDeed cd_NoDeed ct_NoDeed : Value} {od_NoDeed an_NoDeed : Option Addr} {sl_NoDeed : Array (Option Value)}
    (ca_NoDeed : PySem.W.nsIn K mainGlobals "NoDeed" = some (some (.ref C_NoDeed)))
    (cl_NoDeed : K.lookup C_NoDeed = some (excClassObj nm_NoDeed q_NoDeed C_NoDeed N_NoDeed bs_NoDeed [.ref A_V, .type "ValueError", .type "Exception", .type "BaseException", .type "object"] true sn_NoDeed sb_NoDeed ab_NoDeed co_NoDeed dd_NoDeed ma_NoDeed mb_NoDeed mc_NoDeed md_NoDeed me_NoDeed "ValueError.__new__"))
    (cs_NoDeed : PySem.W.findIn K (.ref C_NoDeed) "__setattr__" = some (some (.builtin "object.__setattr__"))) (ck_NoDeed : PySem.W.keepIn K (.ref C_NoDeed) = true)
    (ci_NoDeed : PySem.W.findIn K (.ref C_NoDeed) "__init__" = some (some (.ref I_NoDeed))) (cf_NoDeed : PySem.W.typeIn K (.ref I_NoDeed) = some (.type "function"))
    (cg_NoDeed : K.lookup I_NoDeed = some ⟨oc_NoDeed, od_NoDeed, .func (PySem.W.fnOf "__init__" "NoDeed.__init__" (defArgs si_NoDeed) (defBody si_NoDeed) (defScope si_NoDeed) .none kV_NoDeed dc_NoDeed pm_NoDeed an_NoDeed cd_NoDeed ct_NoDeed), sl_NoDeed⟩) (cc_NoDeed : PySem.W.codeIn K cd_NoDeed "NoDeed.__init__" = true)
    (cp_NoDeed : PySem.W.findIn K (.ref C_NoDeed) "__getattribute__" = some (some (.builtin "BaseException.__getattribute__"))) (cq_NoDeed : PySem.W.findIn K (.ref C_NoDeed) "__getattr__" = some none) (cn_NoDeed : PySem.W.findIn K (.ref C_NoDeed) "thing" = some none) (da_NoDeed : PySem.W.findIn K (.ref C_NoDeed) "__class__" = some (some (.builtin "object.__class__")))
    {C_NoWord I_NoWord : Addr} {nm_NoWord q_NoWord : Str} {N_NoWord : Addr} {bs_NoWord : List Value} {sn_NoWord : List Str} {sb_NoWord : List Value} {ab_NoWord : Bool} {co_NoWord : Option Bool} {dd_NoWord : Option Addr} {ma_NoWord mb_NoWord mc_NoWord md_NoWord me_NoWord : Option Value}
    {oc_NoWord kV_NoWord dc_NoWord pm_NoWord cd_NoWord ct_NoWord : Value} {od_NoWord an_NoWord : Option Addr} {sl_NoWord : Array (Option Value)}
    (ca_NoWord : PySem.W.nsIn K mainGlobals "NoWord" = some (some (.ref C_NoWord)))
    (cl_NoWord : K.lookup C_NoWord = some (excClassObj nm_NoWord q_NoWord C_NoWord N_NoWord bs_NoWord [.ref A_V, .type "ValueError", .type "Exception", .type "BaseException", .type "object"] true sn_NoWord sb_NoWord ab_NoWord co_NoWord dd_NoWord ma_NoWord mb_NoWord mc_NoWord md_NoWord me_NoWord "ValueError.__new__"))
    (cs_NoWord : PySem.W.findIn K (.ref C_NoWord) "__setattr__" = some (some (.builtin "object.__setattr__"))) (ck_NoWord : PySem.W.keepIn K (.ref C_NoWord) = true)
    (ci_NoWord : PySem.W.findIn K (.ref C_NoWord) "__init__" = some (some (.ref I_NoWord))) (cf_NoWord : PySem.W.typeIn K (.ref I_NoWord) = some (.type "function"))
    (cg_NoWord : K.lookup I_NoWord = some ⟨oc_NoWord, od_NoWord, .func (PySem.W.fnOf "__init__" "NoWord.__init__" (defArgs si_NoWord) (defBody si_NoWord) (defScope si_NoWord) .none kV_NoWord dc_NoWord pm_NoWord an_NoWord cd_NoWord ct_NoWord), sl_NoWord⟩) (cc_NoWord : PySem.W.codeIn K cd_NoWord "NoWord.__init__" = true)
    (cp_NoWord : PySem.W.findIn K (.ref C_NoWord) "__getattribute__" = some (some (.builtin "BaseException.__getattribute__"))) (cq_NoWord : PySem.W.findIn K (.ref C_NoWord) "__getattr__" = some none) (cn_NoWord : PySem.W.findIn K (.ref C_NoWord) "thing" = some none) (da_NoWord : PySem.W.findIn K (.ref C_NoWord) "__class__" = some (some (.builtin "object.__class__")))
    {C_NoText I_NoText : Addr} {nm_NoText q_NoText : Str} {N_NoText : Addr} {bs_NoText : List Value} {sn_NoText : List Str} {sb_NoText : List Value} {ab_NoText : Bool} {co_NoText : Option Bool} {dd_NoText : Option Addr} {ma_NoText mb_NoText mc_NoText md_NoText me_NoText : Option Value}
    {oc_NoText kV_NoText dc_NoText pm_NoText cd_NoText ct_NoText : Value} {od_NoText an_NoText : Option Addr} {sl_NoText : Array (Option Value)}
    (ca_NoText : PySem.W.nsIn K mainGlobals "NoText" = some (some (.ref C_NoText)))
    (cl_NoText : K.lookup C_NoText = some (excClassObj nm_NoText q_NoText C_NoText N_NoText bs_NoText [.ref A_V, .type "ValueError", .type "Exception", .type "BaseException", .type "object"] true sn_NoText sb_NoText ab_NoText co_NoText dd_NoText ma_NoText mb_NoText mc_NoText md_NoText me_NoText "ValueError.__new__"))
    (cs_NoText : PySem.W.findIn K (.ref C_NoText) "__setattr__" = some (some (.builtin "object.__setattr__"))) (ck_NoText : PySem.W.keepIn K (.ref C_NoText) = true)
    (ci_NoText : PySem.W.findIn K (.ref C_NoText) "__init__" = some (some (.ref I_NoText))) (cf_NoText : PySem.W.typeIn K (.ref I_NoText) = some (.type "function"))
    (cg_NoText : K.lookup I_NoText = some ⟨oc_NoText, od_NoText, .func (PySem.W.fnOf "__init__" "NoText.__init__" (defArgs si_NoText) (defBody si_NoText) (defScope si_NoText) .none kV_NoText dc_NoText pm_NoText an_NoText cd_NoText ct_NoText), sl_NoText⟩) (cc_NoText : PySem.W.codeIn K cd_NoText "NoText.__init__" = true)
    (cp_NoText : PySem.W.findIn K (.ref C_NoText) "__getattribute__" = some (some (.builtin "BaseException.__getattribute__"))) (cq_NoText : PySem.W.findIn K (.ref C_NoText) "__getattr__" = some none) (cn_NoText : PySem.W.findIn K (.ref C_NoText) "row" = some none) (da_NoText : PySem.W.findIn K (.ref C_NoText) "__class__" = some (some (.builtin "object.__class__")))
    {C_NoLine I_NoLine : Addr} {nm_NoLine q_NoLine : Str} {N_NoLine : Addr} {bs_NoLine : List Value} {sn_NoLine : List Str} {sb_NoLine : List Value} {ab_NoLine : Bool} {co_NoLine : Option Bool} {dd_NoLine : Option Addr} {ma_NoLine mb_NoLine mc_NoLine md_NoLine me_NoLine : Option Value}
    {oc_NoLine kV_NoLine dc_NoLine pm_NoLine cd_NoLine ct_NoLine : Value} {od_NoLine an_NoLine : Option Addr} {sl_NoLine : Array (Option Value)}
    (ca_NoLine : PySem.W.nsIn K mainGlobals "NoLine" = some (some (.ref C_NoLine)))
    (cl_NoLine : K.lookup C_NoLine = some (excClassObj nm_NoLine q_NoLine C_NoLine N_NoLine bs_NoLine [.ref A_V, .type "ValueError", .type "Exception", .type "BaseException", .type "object"] true sn_NoLine sb_NoLine ab_NoLine co_NoLine dd_NoLine ma_NoLine mb_NoLine mc_NoLine md_NoLine me_NoLine "ValueError.__new__"))
    (cs_NoLine : PySem.W.findIn K (.ref C_NoLine) "__setattr__" = some (some (.builtin "object.__setattr__"))) (ck_NoLine : PySem.W.keepIn K (.ref C_NoLine) = true)
    (ci_NoLine : PySem.W.findIn K (.ref C_NoLine) "__init__" = some (some (.ref I_NoLine))) (cf_NoLine : PySem.W.typeIn K (.ref I_NoLine) = some (.type "function"))
    (cg_NoLine : K.lookup I_NoLine = some ⟨oc_NoLine, od_NoLine, .func (PySem.W.fnOf "__init__" "NoLine.__init__" (defArgs si_NoLine) (defBody si_NoLine) (defScope si_NoLine) .none kV_NoLine dc_NoLine pm_NoLine an_NoLine cd_NoLine ct_NoLine), sl_NoLine⟩) (cc_NoLine : PySem.W.codeIn K cd_NoLine "NoLine.__init__" = true)
    (cp_NoLine : PySem.W.findIn K (.ref C_NoLine) "__getattribute__" = some (some (.builtin "BaseException.__getattribute__"))) (cq_NoLine : PySem.W.findIn K (.ref C_NoLine) "__getattr__" = some none) (cn_NoLine : PySem.W.findIn K (.ref C_NoLine) "thing" = some none) (da_NoLine : PySem.W.findIn K (.ref C_NoLine) "__class__" = some (some (.builtin "object.__class__")))
    {C_NoHand I_NoHand : Addr} {nm_NoHand q_NoHand : Str} {N_NoHand : Addr} {bs_NoHand : List Value} {sn_NoHand : List Str} {sb_NoHand : List Value} {ab_NoHand : Bool} {co_NoHand : Option Bool} {dd_NoHand : Option Addr} {ma_NoHand mb_NoHand mc_NoHand md_NoHand me_NoHand : Option Value}
    {oc_NoHand kV_NoHand dc_NoHand pm_NoHand cd_NoHand ct_NoHand : Value} {od_NoHand an_NoHand : Option Addr} {sl_NoHand : Array (Option Value)}
    (ca_NoHand : PySem.W.nsIn K mainGlobals "NoHand" = some (some (.ref C_NoHand)))
    (cl_NoHand : K.lookup C_NoHand = some (excClassObj nm_NoHand q_NoHand C_NoHand N_NoHand bs_NoHand [.ref A_M, .type "LookupError", .type "Exception", .type "BaseException", .type "object"] true sn_NoHand sb_NoHand ab_NoHand co_NoHand dd_NoHand ma_NoHand mb_NoHand mc_NoHand md_NoHand me_NoHand "LookupError.__new__"))
    (cs_NoHand : PySem.W.findIn K (.ref C_NoHand) "__setattr__" = some (some (.builtin "object.__setattr__"))) (ck_NoHand : PySem.W.keepIn K (.ref C_NoHand) = true)
    (ci_NoHand : PySem.W.findIn K (.ref C_NoHand) "__init__" = some (some (.ref I_NoHand))) (cf_NoHand : PySem.W.typeIn K (.ref I_NoHand) = some (.type "function"))
    (cg_NoHand : K.lookup I_NoHand = some ⟨oc_NoHand, od_NoHand, .func (PySem.W.fnOf "__init__" "NoHand.__init__" (defArgs si_NoHand) (defBody si_NoHand) (defScope si_NoHand) .none kV_NoHand dc_NoHand pm_NoHand an_NoHand cd_NoHand ct_NoHand), sl_NoHand⟩) (cc_NoHand : PySem.W.codeIn K cd_NoHand "NoHand.__init__" = true)
    (cp_NoHand : PySem.W.findIn K (.ref C_NoHand) "__getattribute__" = some (some (.builtin "BaseException.__getattribute__"))) (cq_NoHand : PySem.W.findIn K (.ref C_NoHand) "__getattr__" = some none) (cn_NoHand : PySem.W.findIn K (.ref C_NoHand) "thing" = some none) (da_NoHand : PySem.W.findIn K (.ref C_NoHand) "__class__" = some (some (.builtin "object.__class__")))
    {C_NoLetter I_NoLetter : Addr} {nm_NoLetter q_NoLetter : Str} {N_NoLetter : Addr} {bs_NoLetter : List Value} {sn_NoLetter : List Str} {sb_NoLetter : List Value} {ab_NoLetter : Bool} {co_NoLetter : Option Bool} {dd_NoLetter : Option Addr} {ma_NoLetter mb_NoLetter mc_NoLetter md_NoLetter me_NoLetter : Option Value}
    {oc_NoLetter kV_NoLetter dc_NoLetter pm_NoLetter cd_NoLetter ct_NoLetter : Value} {od_NoLetter an_NoLetter : Option Addr} {sl_NoLetter : Array (Option Value)}
    (ca_NoLetter : PySem.W.nsIn K mainGlobals "NoLetter" = some (some (.ref C_NoLetter)))
    (cl_NoLetter : K.lookup C_NoLetter = some (excClassObj nm_NoLetter q_NoLetter C_NoLetter N_NoLetter bs_NoLetter [.ref A_M, .type "LookupError", .type "Exception", .type "BaseException", .type "object"] true sn_NoLetter sb_NoLetter ab_NoLetter co_NoLetter dd_NoLetter ma_NoLetter mb_NoLetter mc_NoLetter md_NoLetter me_NoLetter "LookupError.__new__"))
    (cs_NoLetter : PySem.W.findIn K (.ref C_NoLetter) "__setattr__" = some (some (.builtin "object.__setattr__"))) (ck_NoLetter : PySem.W.keepIn K (.ref C_NoLetter) = true)
    (ci_NoLetter : PySem.W.findIn K (.ref C_NoLetter) "__init__" = some (some (.ref I_NoLetter))) (cf_NoLetter : PySem.W.typeIn K (.ref I_NoLetter) = some (.type "function"))
    (cg_NoLetter : K.lookup I_NoLetter = some ⟨oc_NoLetter, od_NoLetter, .func (PySem.W.fnOf "__init__" "NoLetter.__init__" (defArgs si_NoLetter) (defBody si_NoLetter) (defScope si_NoLetter) .none kV_NoLetter dc_NoLetter pm_NoLetter an_NoLetter cd_NoLetter ct_NoLetter), sl_NoLetter⟩) (cc_NoLetter : PySem.W.codeIn K cd_NoLetter "NoLetter.__init__" = true)
    (cp_NoLetter : PySem.W.findIn K (.ref C_NoLetter) "__getattribute__" = some (some (.builtin "BaseException.__getattribute__"))) (cq_NoLetter : PySem.W.findIn K (.ref C_NoLetter) "__getattr__" = some none) (cn_NoLetter : PySem.W.findIn K (.ref C_NoLetter) "thing" = some none) (da_NoLetter : PySem.W.findIn K (.ref C_NoLetter) "__class__" = some (some (.builtin "object.__class__")))
    {C_NoPoint I_NoPoint : Addr} {nm_NoPoint q_NoPoint : Str} {N_NoPoint : Addr} {bs_NoPoint : List Value} {sn_NoPoint : List Str} {sb_NoPoint : List Value} {ab_NoPoint : Bool} {co_NoPoint : Option Bool} {dd_NoPoint : Option Addr} {ma_NoPoint mb_NoPoint mc_NoPoint md_NoPoint me_NoPoint : Option Value}
    {oc_NoPoint kV_NoPoint dc_NoPoint pm_NoPoint cd_NoPoint ct_NoPoint : Value} {od_NoPoint an_NoPoint : Option Addr} {sl_NoPoint : Array (Option Value)}
    (ca_NoPoint : PySem.W.nsIn K mainGlobals "NoPoint" = some (some (.ref C_NoPoint)))
    (cl_NoPoint : K.lookup C_NoPoint = some (excClassObj nm_NoPoint q_NoPoint C_NoPoint N_NoPoint bs_NoPoint [.ref A_M, .type "LookupError", .type "Exception", .type "BaseException", .type "object"] true sn_NoPoint sb_NoPoint ab_NoPoint co_NoPoint dd_NoPoint ma_NoPoint mb_NoPoint mc_NoPoint md_NoPoint me_NoPoint "LookupError.__new__"))
    (cs_NoPoint : PySem.W.findIn K (.ref C_NoPoint) "__setattr__" = some (some (.builtin "object.__setattr__"))) (ck_NoPoint : PySem.W.keepIn K (.ref C_NoPoint) = true)
    (ci_NoPoint : PySem.W.findIn K (.ref C_NoPoint) "__init__" = some (some (.ref I_NoPoint))) (cf_NoPoint : PySem.W.typeIn K (.ref I_NoPoint) = some (.type "function"))
    (cg_NoPoint : K.lookup I_NoPoint = some ⟨oc_NoPoint, od_NoPoint, .func (PySem.W.fnOf "__init__" "NoPoint.__init__" (defArgs si_NoPoint) (defBody si_NoPoint) (defScope si_NoPoint) .none kV_NoPoint dc_NoPoint pm_NoPoint an_NoPoint cd_NoPoint ct_NoPoint), sl_NoPoint⟩) (cc_NoPoint : PySem.W.codeIn K cd_NoPoint "NoPoint.__init__" = true)
    (cp_NoPoint : PySem.W.findIn K (.ref C_NoPoint) "__getattribute__" = some (some (.builtin "BaseException.__getattribute__"))) (cq_NoPoint : PySem.W.findIn K (.ref C_NoPoint) "__getattr__" = some none) (cn_NoPoint : PySem.W.findIn K (.ref C_NoPoint) "point" = some none) (da_NoPoint : PySem.W.findIn K (.ref C_NoPoint) "__class__" = some (some (.builtin "object.__class__")))
    (xnd : [A_V, A_M, C_TooMany, C_Twice, C_OldBallot, C_NotMost, C_Known, C_FarRow, C_NoLot, C_NotHeld, C_Fallen, C_Standing, C_NotMine, C_BadWorld, C_NoDeed, C_NoWord, C_NoText, C_NoLine, C_NoHand, C_NoLetter, C_NoPoint].Nodup)
    (y_LookupError : PySem.W.nsIn K mainGlobals "LookupError" = some none) (y_ValueError : PySem.W.nsIn K mainGlobals "ValueError" = some none) (y_abs : PySem.W.nsIn K mainGlobals "abs" = some none) (y_all : PySem.W.nsIn K mainGlobals "all" = some none) (y_enumerate : PySem.W.nsIn K mainGlobals "enumerate" = some none) (y_int : PySem.W.nsIn K mainGlobals "int" = some none) (y_isinstance : PySem.W.nsIn K mainGlobals "isinstance" = some none) (y_len : PySem.W.nsIn K mainGlobals "len" = some none) (y_max : PySem.W.nsIn K mainGlobals "max" = some none) (y_min : PySem.W.nsIn K mainGlobals "min" = some none) (y_range : PySem.W.nsIn K mainGlobals "range" = some none) (y_repr : PySem.W.nsIn K mainGlobals "repr" = some none) :
    ∃ fd : FuncData, (∀ (s : Shared) (v : Value), BindsTo s fd ⟨[v], []⟩ [("_law_script", v)]) ∧ ∀ base : Heap, K.In base → base.Ns mainGlobals mg → (∃ o, base.get? sysModules = some o) → FnG l.prog w K mg base CX0 5 fa fd ["_law_script"] (spM K 1 m_p_law) := by
  have e := hfa.symm.trans (PySem.W.mg_of X G a9)
  cases e
  have z_LookupError := PySem.W.mg_none_of X G y_LookupError
  have z_ValueError := PySem.W.mg_none_of X G y_ValueError
  have z_abs := PySem.W.mg_none_of X G y_abs
  have z_all := PySem.W.mg_none_of X G y_all
  have z_enumerate := PySem.W.mg_none_of X G y_enumerate
  have z_int := PySem.W.mg_none_of X G y_int
  have z_isinstance := PySem.W.mg_none_of X G y_isinstance
  have z_len := PySem.W.mg_none_of X G y_len
  have z_max := PySem.W.mg_none_of X G y_max
  have z_min := PySem.W.mg_none_of X G y_min
  have z_range := PySem.W.mg_none_of X G y_range
  have z_repr := PySem.W.mg_none_of X G y_repr
  have F_l_made := fun_mk (st := s_l_made) l0 c0 k0
  have B_l_made := F_l_made.binds (ps := ["_law_some"]) fun _ _ _ _ _ _ us hl => match us, hl with | [_], _ => rfl
  have F_l_take := fun_mk (st := s_l_take) l1 c1 k1
  have B_l_take := F_l_take.binds (ps := ["_law_urn_here", "_law_many"]) fun _ _ _ _ _ _ us hl => match us, hl with | [_, _], _ => rfl
  have F_l_of := fun_mk (st := s_l_of) l2 c2 k2
  have B_l_of := F_l_of.binds (ps := ["_law_urn_here", "_law_some"]) fun _ _ _ _ _ _ us hl => match us, hl with | [_, _], _ => rfl
  have F_l_thing := fun_mk (st := s_l_thing) l3 c3 k3
  have B_l_thing := F_l_thing.binds (ps := ["_law_urn_here"]) fun _ _ _ _ _ _ us hl => match us, hl with | [_], _ => rfl
  have F_l_marks := fun_mk (st := s_l_marks) l4 c4 k4
  have B_l_marks := F_l_marks.binds (ps := ["_law_e"]) fun _ _ _ _ _ _ us hl => match us, hl with | [_], _ => rfl
  have F_l_values := fun_mk (st := s_l_values) l5 c5 k5
  have B_l_values := F_l_values.binds (ps := ["_law_made_here"]) fun _ _ _ _ _ _ us hl => match us, hl with | [_], _ => rfl
  have F_l_family_right := fun_mk (st := s_l_family_right) l6 c6 k6
  have B_l_family_right := F_l_family_right.binds (ps := ["_law_e", "_law_k"]) fun _ _ _ _ _ _ us hl => match us, hl with | [_, _], _ => rfl
  have F_l_right := fun_mk (st := s_l_right) l7 c7 k7
  have B_l_right := F_l_right.binds (ps := ["_law_urn_here"]) fun _ _ _ _ _ _ us hl => match us, hl with | [_], _ => rfl
  have F_l_urn := fun_mk (st := s_l_urn) l8 c8 k8
  have B_l_urn := F_l_urn.binds (ps := ["_law_script", "_law_k"]) fun _ _ _ _ _ _ us hl => match us, hl with | [_, _], _ => rfl
  have F_p_law := fun_mk (st := s_p_law) l9 c9 k9
  refine ⟨PySem.W.fnOf "law" "law" (defArgs s_p_law) (defBody s_p_law) (defScope s_p_law) .none kV9 dc9 pm9 an9 cd9 ct9, fun s v => .of_eq rfl, fun base _ _ Sm => ?_⟩
  have R_TooMany : ExO l.prog w K mg base 1 A_V A_M "TooMany" "many" false C_TooMany := ⟨PySem.W.mg_of X G ca_TooMany, ca_TooMany, ⟨_, _, _, _, _, _, _, _, _, _, _, _, _, _, cl_TooMany⟩, cs_TooMany, ck_TooMany, ⟨I_TooMany, _, ["self", "many"], ci_TooMany, cf_TooMany, initT_ok (k := 0) F.store_ValueError cg_TooMany cc_TooMany sci_TooMany (OexT.mk ⟨_, _, _, _, _, _, _, _, _, _, _, _, _, _, _, cl_TooMany, (by rfl : PySem.W.excTail (famTail false) _ = true)⟩ cs_TooMany ck_TooMany) cn_TooMany rfl rfl, Binds.all fun us hl => match us, hl with | [_, _], _ => rfl⟩, cn_TooMany, cp_TooMany, cq_TooMany, da_TooMany, dn, dt⟩
  have R_Twice : ExO l.prog w K mg base 1 A_V A_M "Twice" "point" false C_Twice := ⟨PySem.W.mg_of X G ca_Twice, ca_Twice, ⟨_, _, _, _, _, _, _, _, _, _, _, _, _, _, cl_Twice⟩, cs_Twice, ck_Twice, ⟨I_Twice, _, ["self", "point"], ci_Twice, cf_Twice, initT_ok (k := 0) F.store_ValueError cg_Twice cc_Twice sci_Twice (OexT.mk ⟨_, _, _, _, _, _, _, _, _, _, _, _, _, _, _, cl_Twice, (by rfl : PySem.W.excTail (famTail false) _ = true)⟩ cs_Twice ck_Twice) cn_Twice rfl rfl, Binds.all fun us hl => match us, hl with | [_, _], _ => rfl⟩, cn_Twice, cp_Twice, cq_Twice, da_Twice, dn, dt⟩
  have R_OldBallot : ExO l.prog w K mg base 1 A_V A_M "OldBallot" "number" false C_OldBallot := ⟨PySem.W.mg_of X G ca_OldBallot, ca_OldBallot, ⟨_, _, _, _, _, _, _, _, _, _, _, _, _, _, cl_OldBallot⟩, cs_OldBallot, ck_OldBallot, ⟨I_OldBallot, _, ["self", "number"], ci_OldBallot, cf_OldBallot, initT_ok (k := 0) F.store_ValueError cg_OldBallot cc_OldBallot sci_OldBallot (OexT.mk ⟨_, _, _, _, _, _, _, _, _, _, _, _, _, _, _, cl_OldBallot, (by rfl : PySem.W.excTail (famTail false) _ = true)⟩ cs_OldBallot ck_OldBallot) cn_OldBallot rfl rfl, Binds.all fun us hl => match us, hl with | [_, _], _ => rfl⟩, cn_OldBallot, cp_OldBallot, cq_OldBallot, da_OldBallot, dn, dt⟩
  have R_NotMost : ExO l.prog w K mg base 1 A_V A_M "NotMost" "name" false C_NotMost := ⟨PySem.W.mg_of X G ca_NotMost, ca_NotMost, ⟨_, _, _, _, _, _, _, _, _, _, _, _, _, _, cl_NotMost⟩, cs_NotMost, ck_NotMost, ⟨I_NotMost, _, ["self", "name"], ci_NotMost, cf_NotMost, initT_ok (k := 0) F.store_ValueError cg_NotMost cc_NotMost sci_NotMost (OexT.mk ⟨_, _, _, _, _, _, _, _, _, _, _, _, _, _, _, cl_NotMost, (by rfl : PySem.W.excTail (famTail false) _ = true)⟩ cs_NotMost ck_NotMost) cn_NotMost rfl rfl, Binds.all fun us hl => match us, hl with | [_, _], _ => rfl⟩, cn_NotMost, cp_NotMost, cq_NotMost, da_NotMost, dn, dt⟩
  have R_Known : ExO l.prog w K mg base 1 A_V A_M "Known" "row" false C_Known := ⟨PySem.W.mg_of X G ca_Known, ca_Known, ⟨_, _, _, _, _, _, _, _, _, _, _, _, _, _, cl_Known⟩, cs_Known, ck_Known, ⟨I_Known, _, ["self", "row"], ci_Known, cf_Known, initT_ok (k := 0) F.store_ValueError cg_Known cc_Known sci_Known (OexT.mk ⟨_, _, _, _, _, _, _, _, _, _, _, _, _, _, _, cl_Known, (by rfl : PySem.W.excTail (famTail false) _ = true)⟩ cs_Known ck_Known) cn_Known rfl rfl, Binds.all fun us hl => match us, hl with | [_, _], _ => rfl⟩, cn_Known, cp_Known, cq_Known, da_Known, dn, dt⟩
  have R_FarRow : ExO l.prog w K mg base 1 A_V A_M "FarRow" "row" false C_FarRow := ⟨PySem.W.mg_of X G ca_FarRow, ca_FarRow, ⟨_, _, _, _, _, _, _, _, _, _, _, _, _, _, cl_FarRow⟩, cs_FarRow, ck_FarRow, ⟨I_FarRow, _, ["self", "row"], ci_FarRow, cf_FarRow, initT_ok (k := 0) F.store_ValueError cg_FarRow cc_FarRow sci_FarRow (OexT.mk ⟨_, _, _, _, _, _, _, _, _, _, _, _, _, _, _, cl_FarRow, (by rfl : PySem.W.excTail (famTail false) _ = true)⟩ cs_FarRow ck_FarRow) cn_FarRow rfl rfl, Binds.all fun us hl => match us, hl with | [_, _], _ => rfl⟩, cn_FarRow, cp_FarRow, cq_FarRow, da_FarRow, dn, dt⟩
  have R_NoLot : ExO l.prog w K mg base 1 A_V A_M "NoLot" "thing" false C_NoLot := ⟨PySem.W.mg_of X G ca_NoLot, ca_NoLot, ⟨_, _, _, _, _, _, _, _, _, _, _, _, _, _, cl_NoLot⟩, cs_NoLot, ck_NoLot, ⟨I_NoLot, _, ["self", "thing"], ci_NoLot, cf_NoLot, initT_ok (k := 0) F.store_ValueError cg_NoLot cc_NoLot sci_NoLot (OexT.mk ⟨_, _, _, _, _, _, _, _, _, _, _, _, _, _, _, cl_NoLot, (by rfl : PySem.W.excTail (famTail false) _ = true)⟩ cs_NoLot ck_NoLot) cn_NoLot rfl rfl, Binds.all fun us hl => match us, hl with | [_, _], _ => rfl⟩, cn_NoLot, cp_NoLot, cq_NoLot, da_NoLot, dn, dt⟩
  have R_NotHeld : ExO l.prog w K mg base 1 A_V A_M "NotHeld" "point" false C_NotHeld := ⟨PySem.W.mg_of X G ca_NotHeld, ca_NotHeld, ⟨_, _, _, _, _, _, _, _, _, _, _, _, _, _, cl_NotHeld⟩, cs_NotHeld, ck_NotHeld, ⟨I_NotHeld, _, ["self", "point"], ci_NotHeld, cf_NotHeld, initT_ok (k := 0) F.store_ValueError cg_NotHeld cc_NotHeld sci_NotHeld (OexT.mk ⟨_, _, _, _, _, _, _, _, _, _, _, _, _, _, _, cl_NotHeld, (by rfl : PySem.W.excTail (famTail false) _ = true)⟩ cs_NotHeld ck_NotHeld) cn_NotHeld rfl rfl, Binds.all fun us hl => match us, hl with | [_, _], _ => rfl⟩, cn_NotHeld, cp_NotHeld, cq_NotHeld, da_NotHeld, dn, dt⟩
  have R_Fallen : ExO l.prog w K mg base 1 A_V A_M "Fallen" "name" false C_Fallen := ⟨PySem.W.mg_of X G ca_Fallen, ca_Fallen, ⟨_, _, _, _, _, _, _, _, _, _, _, _, _, _, cl_Fallen⟩, cs_Fallen, ck_Fallen, ⟨I_Fallen, _, ["self", "name"], ci_Fallen, cf_Fallen, initT_ok (k := 0) F.store_ValueError cg_Fallen cc_Fallen sci_Fallen (OexT.mk ⟨_, _, _, _, _, _, _, _, _, _, _, _, _, _, _, cl_Fallen, (by rfl : PySem.W.excTail (famTail false) _ = true)⟩ cs_Fallen ck_Fallen) cn_Fallen rfl rfl, Binds.all fun us hl => match us, hl with | [_, _], _ => rfl⟩, cn_Fallen, cp_Fallen, cq_Fallen, da_Fallen, dn, dt⟩
  have R_Standing : ExO l.prog w K mg base 1 A_V A_M "Standing" "name" false C_Standing := ⟨PySem.W.mg_of X G ca_Standing, ca_Standing, ⟨_, _, _, _, _, _, _, _, _, _, _, _, _, _, cl_Standing⟩, cs_Standing, ck_Standing, ⟨I_Standing, _, ["self", "name"], ci_Standing, cf_Standing, initT_ok (k := 0) F.store_ValueError cg_Standing cc_Standing sci_Standing (OexT.mk ⟨_, _, _, _, _, _, _, _, _, _, _, _, _, _, _, cl_Standing, (by rfl : PySem.W.excTail (famTail false) _ = true)⟩ cs_Standing ck_Standing) cn_Standing rfl rfl, Binds.all fun us hl => match us, hl with | [_, _], _ => rfl⟩, cn_Standing, cp_Standing, cq_Standing, da_Standing, dn, dt⟩
  have R_NotMine : ExO l.prog w K mg base 1 A_V A_M "NotMine" "thing" false C_NotMine := ⟨PySem.W.mg_of X G ca_NotMine, ca_NotMine, ⟨_, _, _, _, _, _, _, _, _, _, _, _, _, _, cl_NotMine⟩, cs_NotMine, ck_NotMine, ⟨I_NotMine, _, ["self", "thing"], ci_NotMine, cf_NotMine, initT_ok (k := 0) F.store_ValueError cg_NotMine cc_NotMine sci_NotMine (OexT.mk ⟨_, _, _, _, _, _, _, _, _, _, _, _, _, _, _, cl_NotMine, (by rfl : PySem.W.excTail (famTail false) _ = true)⟩ cs_NotMine ck_NotMine) cn_NotMine rfl rfl, Binds.all fun us hl => match us, hl with | [_, _], _ => rfl⟩, cn_NotMine, cp_NotMine, cq_NotMine, da_NotMine, dn, dt⟩
  have R_BadWorld : ExO l.prog w K mg base 1 A_V A_M "BadWorld" "thing" false C_BadWorld := ⟨PySem.W.mg_of X G ca_BadWorld, ca_BadWorld, ⟨_, _, _, _, _, _, _, _, _, _, _, _, _, _, cl_BadWorld⟩, cs_BadWorld, ck_BadWorld, ⟨I_BadWorld, _, ["self", "thing"], ci_BadWorld, cf_BadWorld, initT_ok (k := 0) F.store_ValueError cg_BadWorld cc_BadWorld sci_BadWorld (OexT.mk ⟨_, _, _, _, _, _, _, _, _, _, _, _, _, _, _, cl_BadWorld, (by rfl : PySem.W.excTail (famTail false) _ = true)⟩ cs_BadWorld ck_BadWorld) cn_BadWorld rfl rfl, Binds.all fun us hl => match us, hl with | [_, _], _ => rfl⟩, cn_BadWorld, cp_BadWorld, cq_BadWorld, da_BadWorld, dn, dt⟩
  have R_NoDeed : ExO l.prog w K mg base 1 A_V A_M "NoDeed" "thing" false C_NoDeed := ⟨PySem.W.mg_of X G ca_NoDeed, ca_NoDeed, ⟨_, _, _, _, _, _, _, _, _, _, _, _, _, _, cl_NoDeed⟩, cs_NoDeed, ck_NoDeed, ⟨I_NoDeed, _, ["self", "thing"], ci_NoDeed, cf_NoDeed, initT_ok (k := 0) F.store_ValueError cg_NoDeed cc_NoDeed sci_NoDeed (OexT.mk ⟨_, _, _, _, _, _, _, _, _, _, _, _, _, _, _, cl_NoDeed, (by rfl : PySem.W.excTail (famTail false) _ = true)⟩ cs_NoDeed ck_NoDeed) cn_NoDeed rfl rfl, Binds.all fun us hl => match us, hl with | [_, _], _ => rfl⟩, cn_NoDeed, cp_NoDeed, cq_NoDeed, da_NoDeed, dn, dt⟩
  have R_NoWord : ExO l.prog w K mg base 1 A_V A_M "NoWord" "thing" false C_NoWord := ⟨PySem.W.mg_of X G ca_NoWord, ca_NoWord, ⟨_, _, _, _, _, _, _, _, _, _, _, _, _, _, cl_NoWord⟩, cs_NoWord, ck_NoWord, ⟨I_NoWord, _, ["self", "thing"], ci_NoWord, cf_NoWord, initT_ok (k := 0) F.store_ValueError cg_NoWord cc_NoWord sci_NoWord (OexT.mk ⟨_, _, _, _, _, _, _, _, _, _, _, _, _, _, _, cl_NoWord, (by rfl : PySem.W.excTail (famTail false) _ = true)⟩ cs_NoWord ck_NoWord) cn_NoWord rfl rfl, Binds.all fun us hl => match us, hl with | [_, _], _ => rfl⟩, cn_NoWord, cp_NoWord, cq_NoWord, da_NoWord, dn, dt⟩
  have R_NoText : ExO l.prog w K mg base 1 A_V A_M "NoText" "row" false C_NoText := ⟨PySem.W.mg_of X G ca_NoText, ca_NoText, ⟨_, _, _, _, _, _, _, _, _, _, _, _, _, _, cl_NoText⟩, cs_NoText, ck_NoText, ⟨I_NoText, _, ["self", "row"], ci_NoText, cf_NoText, initT_ok (k := 0) F.store_ValueError cg_NoText cc_NoText sci_NoText (OexT.mk ⟨_, _, _, _, _, _, _, _, _, _, _, _, _, _, _, cl_NoText, (by rfl : PySem.W.excTail (famTail false) _ = true)⟩ cs_NoText ck_NoText) cn_NoText rfl rfl, Binds.all fun us hl => match us, hl with | [_, _], _ => rfl⟩, cn_NoText, cp_NoText, cq_NoText, da_NoText, dn, dt⟩
  have R_NoLine : ExO l.prog w K mg base 1 A_V A_M "NoLine" "thing" false C_NoLine := ⟨PySem.W.mg_of X G ca_NoLine, ca_NoLine, ⟨_, _, _, _, _, _, _, _, _, _, _, _, _, _, cl_NoLine⟩, cs_NoLine, ck_NoLine, ⟨I_NoLine, _, ["self", "thing"], ci_NoLine, cf_NoLine, initT_ok (k := 0) F.store_ValueError cg_NoLine cc_NoLine sci_NoLine (OexT.mk ⟨_, _, _, _, _, _, _, _, _, _, _, _, _, _, _, cl_NoLine, (by rfl : PySem.W.excTail (famTail false) _ = true)⟩ cs_NoLine ck_NoLine) cn_NoLine rfl rfl, Binds.all fun us hl => match us, hl with | [_, _], _ => rfl⟩, cn_NoLine, cp_NoLine, cq_NoLine, da_NoLine, dn, dt⟩
  have R_NoHand : ExO l.prog w K mg base 1 A_V A_M "NoHand" "thing" true C_NoHand := ⟨PySem.W.mg_of X G ca_NoHand, ca_NoHand, ⟨_, _, _, _, _, _, _, _, _, _, _, _, _, _, cl_NoHand⟩, cs_NoHand, ck_NoHand, ⟨I_NoHand, _, ["self", "thing"], ci_NoHand, cf_NoHand, initT_ok (k := 0) F.store_LookupError cg_NoHand cc_NoHand sci_NoHand (OexT.mk ⟨_, _, _, _, _, _, _, _, _, _, _, _, _, _, _, cl_NoHand, (by rfl : PySem.W.excTail (famTail true) _ = true)⟩ cs_NoHand ck_NoHand) cn_NoHand rfl rfl, Binds.all fun us hl => match us, hl with | [_, _], _ => rfl⟩, cn_NoHand, cp_NoHand, cq_NoHand, da_NoHand, dn, dt⟩
  have R_NoLetter : ExO l.prog w K mg base 1 A_V A_M "NoLetter" "thing" true C_NoLetter := ⟨PySem.W.mg_of X G ca_NoLetter, ca_NoLetter, ⟨_, _, _, _, _, _, _, _, _, _, _, _, _, _, cl_NoLetter⟩, cs_NoLetter, ck_NoLetter, ⟨I_NoLetter, _, ["self", "thing"], ci_NoLetter, cf_NoLetter, initT_ok (k := 0) F.store_LookupError cg_NoLetter cc_NoLetter sci_NoLetter (OexT.mk ⟨_, _, _, _, _, _, _, _, _, _, _, _, _, _, _, cl_NoLetter, (by rfl : PySem.W.excTail (famTail true) _ = true)⟩ cs_NoLetter ck_NoLetter) cn_NoLetter rfl rfl, Binds.all fun us hl => match us, hl with | [_, _], _ => rfl⟩, cn_NoLetter, cp_NoLetter, cq_NoLetter, da_NoLetter, dn, dt⟩
  have R_NoPoint : ExO l.prog w K mg base 1 A_V A_M "NoPoint" "point" true C_NoPoint := ⟨PySem.W.mg_of X G ca_NoPoint, ca_NoPoint, ⟨_, _, _, _, _, _, _, _, _, _, _, _, _, _, cl_NoPoint⟩, cs_NoPoint, ck_NoPoint, ⟨I_NoPoint, _, ["self", "point"], ci_NoPoint, cf_NoPoint, initT_ok (k := 0) F.store_LookupError cg_NoPoint cc_NoPoint sci_NoPoint (OexT.mk ⟨_, _, _, _, _, _, _, _, _, _, _, _, _, _, _, cl_NoPoint, (by rfl : PySem.W.excTail (famTail true) _ = true)⟩ cs_NoPoint ck_NoPoint) cn_NoPoint rfl rfl, Binds.all fun us hl => match us, hl with | [_, _], _ => rfl⟩, cn_NoPoint, cp_NoPoint, cq_NoPoint, da_NoPoint, dn, dt⟩
  have T_E : ExTab l.prog w K mg base 1 exTab := ⟨A_V, A_M, [C_TooMany, C_Twice, C_OldBallot, C_NotMost, C_Known, C_FarRow, C_NoLot, C_NotHeld, C_Fallen, C_Standing, C_NotMine, C_BadWorld, C_NoDeed, C_NoWord, C_NoText, C_NoLine, C_NoHand, C_NoLetter, C_NoPoint], (.cons R_TooMany (.cons R_Twice (.cons R_OldBallot (.cons R_NotMost (.cons R_Known (.cons R_FarRow (.cons R_NoLot (.cons R_NotHeld (.cons R_Fallen (.cons R_Standing (.cons R_NotMine (.cons R_BadWorld (.cons R_NoDeed (.cons R_NoWord (.cons R_NoText (.cons R_NoLine (.cons R_NoHand (.cons R_NoLetter (.cons R_NoPoint .nil))))))))))))))))))), xnd, PySem.W.mg_of X G xaV, PySem.W.mg_of X G xaM, xhV, xhM, xtV, xtM⟩
  have hG : ∀ (c : Str) (C : Addr), PySem.W.nsIn K mainGlobals c = some (some (.ref C)) → mg c = some (.ref C) := fun c C h => PySem.W.mg_of X G h
  have C_l_made : Own l.prog w K mg base 3 1 "_law_made" ["_law_some"] f0 _ m_l_made := ⟨PySem.W.mg_of X G a0, k0, ok_l_made F_l_made T_E hG⟩
  have C_l_take : Own l.prog w K mg base 1 2 "_law_take" ["_law_urn_here", "_law_many"] f1 _ m_l_take := ⟨PySem.W.mg_of X G a1, k1, ok_l_take F_l_take⟩
  have C_l_of : Own l.prog w K mg base 2 2 "_law_of" ["_law_urn_here", "_law_some"] f2 _ m_l_of := ⟨PySem.W.mg_of X G a2, k2, ok_l_of F_l_of C_l_take B_l_take z_len⟩
  have C_l_thing : Own l.prog w K mg base 3 1 "_law_thing" ["_law_urn_here"] f3 _ m_l_thing := ⟨PySem.W.mg_of X G a3, k3, ok_l_thing F_l_thing C_l_of B_l_of⟩
  have C_l_marks : Own l.prog w K mg base 3 1 "_law_marks" ["_law_e"] f4 _ m_l_marks := ⟨PySem.W.mg_of X G a4, k4, ok_l_marks F_l_marks T_E hG z_isinstance⟩
  have C_l_values : Own l.prog w K mg base 3 1 "_law_values" ["_law_made_here"] f5 _ m_l_values := ⟨PySem.W.mg_of X G a5, k5, ok_l_values F_l_values T_E hG⟩
  have C_l_family_right : Own l.prog w K mg base 3 2 "_law_family_right" ["_law_e", "_law_k"] f6 _ m_l_family_right := ⟨PySem.W.mg_of X G a6, k6, ok_l_family_right F_l_family_right T_E hG z_LookupError z_ValueError z_isinstance⟩
  have C_l_right : Own l.prog w K mg base 4 1 "_law_right" ["_law_urn_here"] f7 _ m_l_right := ⟨PySem.W.mg_of X G a7, k7, ok_l_right F_l_right C_l_family_right B_l_family_right C_l_made B_l_made C_l_marks B_l_marks C_l_thing B_l_thing C_l_values B_l_values z_enumerate z_range z_repr Sm⟩
  have C_l_urn : Own l.prog w K mg base 1 2 "_law_urn" ["_law_script", "_law_k"] f8 _ m_l_urn := ⟨PySem.W.mg_of X G a8, k8, ok_l_urn F_l_urn z_abs z_int z_len⟩
  exact ok_p_law F_p_law C_l_right B_l_right C_l_urn B_l_urn z_all z_len z_max z_min z_range
end K34
open PySem PySem.W PyProof.Rows
set_option maxHeartbeats 0 in
theorem PySem.Challenge.cw_ridingvotes_k34_refusals_each_alone_holds : PySem.Challenge.rw_ridingvotes_k34_refusals_each_alone.Holds := by
  w_on; o_law; k_head; (case hw => w_witness2)
  k_fill
  refine Mo.walk_g2 (l := PySem.Challenge.rw_ridingvotes_k34_refusals_each_alone) (n := 63) (k := 5) (x := "_law_script") (m := K34.m_p_law) rfl (by decide) rfl ⟨rfl, by decide, by decide⟩ (by decide +kernel) (fun w h Y => PySem.W.kIn_of Y) ?F (fun ns h => K34.law_true ns h)
  case F =>
    intro w mg fa h KX G hmg
    refine' K34.all_mk KX G hmg ?a0 ?l0 ?c0 ?k0 ?a1 ?l1 ?c1 ?k1 ?a2 ?l2 ?c2 ?k2 ?a3 ?l3 ?c3 ?k3 ?a4 ?l4 ?c4 ?k4 ?a5 ?l5 ?c5 ?k5 ?a6 ?l6 ?c6 ?k6 ?a7 ?l7 ?c7 ?k7 ?a8 ?l8 ?c8 ?k8 ?a9 ?l9 ?c9 ?k9 ?xaV ?xaM ?xtV ?xtM ?xhV ?xhM ?dn ?dt ?ca_TooMany ?cl_TooMany ?cs_TooMany ?ck_TooMany ?ci_TooMany ?cf_TooMany ?cg_TooMany ?cc_TooMany ?cp_TooMany ?cq_TooMany ?cn_TooMany ?da_TooMany ?ca_Twice ?cl_Twice ?cs_Twice ?ck_Twice ?ci_Twice ?cf_Twice ?cg_Twice ?cc_Twice ?cp_Twice ?cq_Twice ?cn_Twice ?da_Twice ?ca_OldBallot ?cl_OldBallot ?cs_OldBallot ?ck_OldBallot ?ci_OldBallot ?cf_OldBallot ?cg_OldBallot ?cc_OldBallot ?cp_OldBallot ?cq_OldBallot ?cn_OldBallot ?da_OldBallot ?ca_NotMost ?cl_NotMost ?cs_NotMost ?ck_NotMost ?ci_NotMost ?cf_NotMost ?cg_NotMost ?cc_NotMost ?cp_NotMost ?cq_NotMost ?cn_NotMost ?da_NotMost ?ca_Known ?cl_Known ?cs_Known ?ck_Known ?ci_Known ?cf_Known ?cg_Known ?cc_Known ?cp_Known ?cq_Known ?cn_Known ?da_Known ?ca_FarRow ?cl_FarRow ?cs_FarRow ?ck_FarRow ?ci_FarRow ?cf_FarRow ?cg_FarRow ?cc_FarRow ?cp_FarRow ?cq_FarRow ?cn_FarRow ?da_FarRow ?ca_NoLot ?cl_NoLot ?cs_NoLot ?ck_NoLot ?ci_NoLot ?cf_NoLot ?cg_NoLot ?cc_NoLot ?cp_NoLot ?cq_NoLot ?cn_NoLot ?da_NoLot ?ca_NotHeld ?cl_NotHeld ?cs_NotHeld ?ck_NotHeld ?ci_NotHeld ?cf_NotHeld ?cg_NotHeld ?cc_NotHeld ?cp_NotHeld ?cq_NotHeld ?cn_NotHeld ?da_NotHeld ?ca_Fallen ?cl_Fallen ?cs_Fallen ?ck_Fallen ?ci_Fallen ?cf_Fallen ?cg_Fallen ?cc_Fallen ?cp_Fallen ?cq_Fallen ?cn_Fallen ?da_Fallen ?ca_Standing ?cl_Standing ?cs_Standing ?ck_Standing ?ci_Standing ?cf_Standing ?cg_Standing ?cc_Standing ?cp_Standing ?cq_Standing ?cn_Standing ?da_Standing ?ca_NotMine ?cl_NotMine ?cs_NotMine ?ck_NotMine ?ci_NotMine ?cf_NotMine ?cg_NotMine ?cc_NotMine ?cp_NotMine ?cq_NotMine ?cn_NotMine ?da_NotMine ?ca_BadWorld ?cl_BadWorld ?cs_BadWorld ?ck_BadWorld ?ci_BadWorld ?cf_BadWorld ?cg_BadWorld ?cc_BadWorld ?cp_BadWorld ?cq_BadWorld ?cn_BadWorld ?da_BadWorld ?ca_NoDeed ?cl_NoDeed ?cs_NoDeed ?ck_NoDeed ?ci_NoDeed ?cf_NoDeed ?cg_NoDeed ?cc_NoDeed ?cp_NoDeed ?cq_NoDeed ?cn_NoDeed ?da_NoDeed ?ca_NoWord ?cl_NoWord ?cs_NoWord ?ck_NoWord ?ci_NoWord ?cf_NoWord ?cg_NoWord ?cc_NoWord ?cp_NoWord ?cq_NoWord ?cn_NoWord ?da_NoWord ?ca_NoText ?cl_NoText ?cs_NoText ?ck_NoText ?ci_NoText ?cf_NoText ?cg_NoText ?cc_NoText ?cp_NoText ?cq_NoText ?cn_NoText ?da_NoText ?ca_NoLine ?cl_NoLine ?cs_NoLine ?ck_NoLine ?ci_NoLine ?cf_NoLine ?cg_NoLine ?cc_NoLine ?cp_NoLine ?cq_NoLine ?cn_NoLine ?da_NoLine ?ca_NoHand ?cl_NoHand ?cs_NoHand ?ck_NoHand ?ci_NoHand ?cf_NoHand ?cg_NoHand ?cc_NoHand ?cp_NoHand ?cq_NoHand ?cn_NoHand ?da_NoHand ?ca_NoLetter ?cl_NoLetter ?cs_NoLetter ?ck_NoLetter ?ci_NoLetter ?cf_NoLetter ?cg_NoLetter ?cc_NoLetter ?cp_NoLetter ?cq_NoLetter ?cn_NoLetter ?da_NoLetter ?ca_NoPoint ?cl_NoPoint ?cs_NoPoint ?ck_NoPoint ?ci_NoPoint ?cf_NoPoint ?cg_NoPoint ?cc_NoPoint ?cp_NoPoint ?cq_NoPoint ?cn_NoPoint ?da_NoPoint ?xnd ?y_LookupError ?y_ValueError ?y_abs ?y_all ?y_enumerate ?y_int ?y_isinstance ?y_len ?y_max ?y_min ?y_range ?y_repr
    (case a0 => k_is); (case l0 => k_is); (case c0 => k_is); (case k0 => k_is); (case a1 => k_is); (case l1 => k_is); (case c1 => k_is); (case k1 => k_is); (case a2 => k_is); (case l2 => k_is); (case c2 => k_is); (case k2 => k_is); (case a3 => k_is); (case l3 => k_is); (case c3 => k_is); (case k3 => k_is); (case a4 => k_is); (case l4 => k_is); (case c4 => k_is); (case k4 => k_is); (case a5 => k_is); (case l5 => k_is); (case c5 => k_is); (case k5 => k_is); (case a6 => k_is); (case l6 => k_is); (case c6 => k_is); (case k6 => k_is); (case a7 => k_is); (case l7 => k_is); (case c7 => k_is); (case k7 => k_is); (case a8 => k_is); (case l8 => k_is); (case c8 => k_is); (case k8 => k_is); (case a9 => k_is); (case l9 => k_is); (case c9 => k_is); (case k9 => k_is); (case xaV => k_is); (case xaM => k_is); (case xtV => k_is); (case xtM => k_is); (case xhV => k_is); (case xhM => k_is); (case dn => k_is); (case dt => k_is); (case ca_TooMany => k_is); (case cl_TooMany => k_is); (case cs_TooMany => k_is); (case ck_TooMany => k_is); (case ci_TooMany => k_is); (case cf_TooMany => k_is); (case cg_TooMany => k_is); (case cc_TooMany => k_is); (case cp_TooMany => k_is); (case cq_TooMany => k_is); (case cn_TooMany => k_is); (case da_TooMany => k_is); (case ca_Twice => k_is); (case cl_Twice => k_is); (case cs_Twice => k_is); (case ck_Twice => k_is); (case ci_Twice => k_is); (case cf_Twice => k_is); (case cg_Twice => k_is); (case cc_Twice => k_is); (case cp_Twice => k_is); (case cq_Twice => k_is); (case cn_Twice => k_is); (case da_Twice => k_is); (case ca_OldBallot => k_is); (case cl_OldBallot => k_is); (case cs_OldBallot => k_is); (case ck_OldBallot => k_is); (case ci_OldBallot => k_is); (case cf_OldBallot => k_is); (case cg_OldBallot => k_is); (case cc_OldBallot => k_is); (case cp_OldBallot => k_is); (case cq_OldBallot => k_is); (case cn_OldBallot => k_is); (case da_OldBallot => k_is); (case ca_NotMost => k_is); (case cl_NotMost => k_is); (case cs_NotMost => k_is); (case ck_NotMost => k_is); (case ci_NotMost => k_is); (case cf_NotMost => k_is); (case cg_NotMost => k_is); (case cc_NotMost => k_is); (case cp_NotMost => k_is); (case cq_NotMost => k_is); (case cn_NotMost => k_is); (case da_NotMost => k_is); (case ca_Known => k_is); (case cl_Known => k_is); (case cs_Known => k_is); (case ck_Known => k_is); (case ci_Known => k_is); (case cf_Known => k_is); (case cg_Known => k_is); (case cc_Known => k_is); (case cp_Known => k_is); (case cq_Known => k_is); (case cn_Known => k_is); (case da_Known => k_is); (case ca_FarRow => k_is); (case cl_FarRow => k_is); (case cs_FarRow => k_is); (case ck_FarRow => k_is); (case ci_FarRow => k_is); (case cf_FarRow => k_is); (case cg_FarRow => k_is); (case cc_FarRow => k_is); (case cp_FarRow => k_is); (case cq_FarRow => k_is); (case cn_FarRow => k_is); (case da_FarRow => k_is); (case ca_NoLot => k_is); (case cl_NoLot => k_is); (case cs_NoLot => k_is); (case ck_NoLot => k_is); (case ci_NoLot => k_is); (case cf_NoLot => k_is); (case cg_NoLot => k_is); (case cc_NoLot => k_is); (case cp_NoLot => k_is); (case cq_NoLot => k_is); (case cn_NoLot => k_is); (case da_NoLot => k_is); (case ca_NotHeld => k_is); (case cl_NotHeld => k_is); (case cs_NotHeld => k_is); (case ck_NotHeld => k_is); (case ci_NotHeld => k_is); (case cf_NotHeld => k_is); (case cg_NotHeld => k_is); (case cc_NotHeld => k_is); (case cp_NotHeld => k_is); (case cq_NotHeld => k_is); (case cn_NotHeld => k_is); (case da_NotHeld => k_is); (case ca_Fallen => k_is); (case cl_Fallen => k_is); (case cs_Fallen => k_is); (case ck_Fallen => k_is); (case ci_Fallen => k_is); (case cf_Fallen => k_is); (case cg_Fallen => k_is); (case cc_Fallen => k_is); (case cp_Fallen => k_is); (case cq_Fallen => k_is); (case cn_Fallen => k_is); (case da_Fallen => k_is); (case ca_Standing => k_is); (case cl_Standing => k_is); (case cs_Standing => k_is); (case ck_Standing => k_is); (case ci_Standing => k_is); (case cf_Standing => k_is); (case cg_Standing => k_is); (case cc_Standing => k_is); (case cp_Standing => k_is); (case cq_Standing => k_is); (case cn_Standing => k_is); (case da_Standing => k_is); (case ca_NotMine => k_is); (case cl_NotMine => k_is); (case cs_NotMine => k_is); (case ck_NotMine => k_is); (case ci_NotMine => k_is); (case cf_NotMine => k_is); (case cg_NotMine => k_is); (case cc_NotMine => k_is); (case cp_NotMine => k_is); (case cq_NotMine => k_is); (case cn_NotMine => k_is); (case da_NotMine => k_is); (case ca_BadWorld => k_is); (case cl_BadWorld => k_is); (case cs_BadWorld => k_is); (case ck_BadWorld => k_is); (case ci_BadWorld => k_is); (case cf_BadWorld => k_is); (case cg_BadWorld => k_is); (case cc_BadWorld => k_is); (case cp_BadWorld => k_is); (case cq_BadWorld => k_is); (case cn_BadWorld => k_is); (case da_BadWorld => k_is); (case ca_NoDeed => k_is); (case cl_NoDeed => k_is); (case cs_NoDeed => k_is); (case ck_NoDeed => k_is); (case ci_NoDeed => k_is); (case cf_NoDeed => k_is); (case cg_NoDeed => k_is); (case cc_NoDeed => k_is); (case cp_NoDeed => k_is); (case cq_NoDeed => k_is); (case cn_NoDeed => k_is); (case da_NoDeed => k_is); (case ca_NoWord => k_is); (case cl_NoWord => k_is); (case cs_NoWord => k_is); (case ck_NoWord => k_is); (case ci_NoWord => k_is); (case cf_NoWord => k_is); (case cg_NoWord => k_is); (case cc_NoWord => k_is); (case cp_NoWord => k_is); (case cq_NoWord => k_is); (case cn_NoWord => k_is); (case da_NoWord => k_is); (case ca_NoText => k_is); (case cl_NoText => k_is); (case cs_NoText => k_is); (case ck_NoText => k_is); (case ci_NoText => k_is); (case cf_NoText => k_is); (case cg_NoText => k_is); (case cc_NoText => k_is); (case cp_NoText => k_is); (case cq_NoText => k_is); (case cn_NoText => k_is); (case da_NoText => k_is); (case ca_NoLine => k_is); (case cl_NoLine => k_is); (case cs_NoLine => k_is); (case ck_NoLine => k_is); (case ci_NoLine => k_is); (case cf_NoLine => k_is); (case cg_NoLine => k_is); (case cc_NoLine => k_is); (case cp_NoLine => k_is); (case cq_NoLine => k_is); (case cn_NoLine => k_is); (case da_NoLine => k_is); (case ca_NoHand => k_is); (case cl_NoHand => k_is); (case cs_NoHand => k_is); (case ck_NoHand => k_is); (case ci_NoHand => k_is); (case cf_NoHand => k_is); (case cg_NoHand => k_is); (case cc_NoHand => k_is); (case cp_NoHand => k_is); (case cq_NoHand => k_is); (case cn_NoHand => k_is); (case da_NoHand => k_is); (case ca_NoLetter => k_is); (case cl_NoLetter => k_is); (case cs_NoLetter => k_is); (case ck_NoLetter => k_is); (case ci_NoLetter => k_is); (case cf_NoLetter => k_is); (case cg_NoLetter => k_is); (case cc_NoLetter => k_is); (case cp_NoLetter => k_is); (case cq_NoLetter => k_is); (case cn_NoLetter => k_is); (case da_NoLetter => k_is); (case ca_NoPoint => k_is); (case cl_NoPoint => k_is); (case cs_NoPoint => k_is); (case ck_NoPoint => k_is); (case ci_NoPoint => k_is); (case cf_NoPoint => k_is); (case cg_NoPoint => k_is); (case cc_NoPoint => k_is); (case cp_NoPoint => k_is); (case cq_NoPoint => k_is); (case cn_NoPoint => k_is); (case da_NoPoint => k_is); (case xnd => decide); (case y_LookupError => k_is); (case y_ValueError => k_is); (case y_abs => k_is); (case y_all => k_is); (case y_enumerate => k_is); (case y_int => k_is); (case y_isinstance => k_is); (case y_len => k_is); (case y_max => k_is); (case y_min => k_is); (case y_range => k_is); (case y_repr => k_is)
