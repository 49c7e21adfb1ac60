import PyProof.Rows.All
import Wide.All
import OpenK.AllK
import Wide.FinOn
import HandS.ForMost
import HandS.Words
import HandS.Wide
import HandS.Style
import HandS.Deep
import KE.KeyNested
import KE.KDictKeyed
import HandS.SetKeys
import HandS.More
import HandS.RaiseMore
import KE.DataMinMax
import KE.SortData
import PyProof.ReprRoads
import PyProof.FitsInt
import HandS.Iter
import HandS.TupAny
import KE.DataCmp
import HandS.IsInst
import HandS.Zip
import HandS.SortKw
import HandS.Flow
import KE.KTupSum
import HandS.TupMul
import HandS.Defaults
import HandS.DictComp
import HandS.Star
import KE.KRevSl
import HandS.ListItems
import HandS.Exc
import KE.KIntText
import PySem.Challenge.RW_ridingvotes_k60_spread_looked_at
set_option Elab.async false
set_option linter.all false
set_option maxRecDepth 100000
set_option maxHeartbeats 1000000
/-! Mo: dicts whose keys are tuples of any depth, without texts: as an object of one's own. -/
namespace Mo
open PySem PySem.Spec PyProof.Rows L2
mutual
def kh : NestedKey → Int
  | .none => reduceHash 0xFCA86420
  | .num i => hashInt i
  | .text _ => 0
  | .tup ks => reduceHash (Builtin.Tuple.tupleHashOf (khs ks))
def khs : List NestedKey → List Int
  | [] => []
  | k :: ks => kh k :: khs ks
end
mutual
def calm : NestedKey → Bool
  | .none => true
  | .num _ => true
  | .text _ => false
  | .tup ks => calms ks
def calms : List NestedKey → Bool
  | [] => true
  | k :: ks => calm k && calms ks
end
mutual
theorem kh_eq (w : World) : ∀ k : NestedKey, calm k = true → k.hash w = kh k
  | .none, _ => by rw [NestedKey.hash, kh]
  | .num i, _ => by rw [NestedKey.hash, kh]
  | .text _, h => by rw [calm] at h; cases h
  | .tup ks, h => by rw [calm] at h; rw [NestedKey.hash, kh, khs_eq w ks h]
theorem khs_eq (w : World) : ∀ ks : List NestedKey, calms ks = true → NestedKey.hashes w ks = khs ks
  | [], _ => by rw [NestedKey.hashes, khs]
  | k :: ks, h => by
    rw [calms, Bool.and_eq_true] at h
    rw [NestedKey.hashes, khs, kh_eq w k h.1, khs_eq w ks h.2]
end
abbrev NX := NestedKey × Addr × V
def NdEnt (x : NX) (e : DictEntry) : Prop := e.hash = kh x.1 ∧ e.key = .ref x.2.1 ∧ RelV x.2.2 e.val
/-- at a stands a dict of these keys, key tuples and values -/
def NdAt (a : Addr) (xs : List NX) (h : Heap) : Prop :=
  (a == sysModules) = false ∧ xs.length ≤ sizeLine ∧ (xs.map (·.1)).Nodup ∧ (∀ x ∈ xs, calm x.1 = true ∧ x.1.depth ≤ 8) ∧
  ∃ o es ep, h.get? a = some o ∧ o.ExactDict ∧ o.data = .dict es ep ∧ Paired NdEnt xs es.toList
def ndO (a : Addr) (xs : List NX) : HO := .ext (NdAt a xs)
def kvl (xs : List NX) : List (NestedKey × V) := xs.map fun x => (x.1, x.2.2)
def kal (xs : List NX) : List (NestedKey × V) := xs.map fun x => (x.1, V.ref x.2.1)
def putX (xs : List NX) (k : NestedKey) (b : Addr) (v : V) : List NX :=
  if (xs.any fun x => decide (x.1 = k)) = true then xs.map (fun x => if x.1 = k then (x.1, x.2.1, v) else x) else xs ++ [(k, b, v)]
section
variable {P : Program} {w : World} {H : Hp} {h h' : Heap} {a : Addr} {xs : List NX}
theorem nd_ok (x : NdAt a xs h) : ObjOk P w H h a (ndO a xs) := by
  obtain ⟨z1, z2, z3, z4, o, es, ep, h1, h2⟩ := x
  exact ⟨⟨z1, z2, z3, z4, o, es, ep, h1, h2⟩, ⟨o, h1⟩, fun q1 q2 p k => by
    obtain ⟨z1, z2, z3, z4, o, es, ep, h1, h2⟩ := p
    exact ⟨z1, z2, z3, z4, o, es, ep, k o h1, h2⟩⟩
abbrev NP : List NX → List (NestedKey × Addr × Value) → Prop := Paired fun x y => x.1 = y.1 ∧ x.2.1 = y.2.1 ∧ RelV x.2.2 y.2.2
theorem NP.keys {xs : List NX} {ys : List (NestedKey × Addr × Value)} (r : NP xs ys) : xs.map (·.1) = ys.map (·.1) := by
  induction r with
  | nil => rfl
  | cons h _ ih => rw [List.map_cons, List.map_cons, ih, h.1]
theorem nd_dict (x : NdAt a xs h) (hk : ∀ x ∈ xs, NestedIs h x.1 (.ref x.2.1)) : ∃ ys, NP xs ys ∧ h.DictOfH (nestedKind P w) a ys := by
  obtain ⟨_, _, hn, hc, o, es, ep, h1, h2, h3, r⟩ := x
  have go : ∀ {xs : List NX} {l : List DictEntry}, Paired NdEnt xs l → (∀ x ∈ xs, calm x.1 = true ∧ x.1.depth ≤ 8) → (∀ x ∈ xs, NestedIs h x.1 (.ref x.2.1)) →
      ∃ ys, NP xs ys ∧ l = ys.map (entryOfKey (nestedKind P w)) ∧ ∀ y ∈ ys, (nestedKind P w).is h y.1 y.2.1 := by
    intro xs l r
    induction r with
    | nil => intro _ _; exact ⟨[], .nil, rfl, fun _ h => nomatch h⟩
    | @cons x e xs l q t ih =>
      intro hc hk
      obtain ⟨ys, i1, i2, i3⟩ := ih (fun x hx => hc x (List.mem_cons_of_mem _ hx)) fun x hx => hk x (List.mem_cons_of_mem _ hx)
      obtain ⟨q1, q2, q3⟩ := q
      have c1 := hc x List.mem_cons_self
      refine ⟨(x.1, x.2.1, e.val) :: ys, .cons ⟨rfl, rfl, q3⟩ i1, ?_, fun y hy => ?_⟩
      · rw [List.map_cons, ← i2]
        congr 1
        show e = ⟨x.1.hash w, .ref x.2.1, e.val⟩
        rw [kh_eq w _ c1.1, ← q1, ← q2]
      · rcases List.mem_cons.mp hy with e | hy
        · subst e; exact ⟨hk x List.mem_cons_self, c1.2⟩
        · exact i3 y hy
  obtain ⟨ys, i1, i2, i3⟩ := go r hc hk
  exact ⟨ys, i1, o, es, ep, h1, h2, h3, i2, i3, by rw [← i1.keys]; exact hn⟩
theorem nd_of {ys : List (NestedKey × Addr × Value)} (r : NP xs ys) (dd : h.DictOfH (nestedKind P w) a ys) (hd : (a == sysModules) = false) (hz : xs.length ≤ sizeLine) (hc : ∀ x ∈ xs, calm x.1 = true) : NdAt a xs h := by
  obtain ⟨o, es, ep, h1, h2, h3, h4, h5, h6⟩ := dd
  have go : ∀ {xs : List NX} {ys : List (NestedKey × Addr × Value)}, NP xs ys → (∀ x ∈ xs, calm x.1 = true) → (∀ y ∈ ys, (nestedKind P w).is h y.1 y.2.1) →
      Paired NdEnt xs (ys.map (entryOfKey (nestedKind P w))) ∧ ∀ x ∈ xs, calm x.1 = true ∧ x.1.depth ≤ 8 := by
    intro xs ys r
    induction r with
    | nil => intro _ _; exact ⟨.nil, fun _ h => nomatch h⟩
    | @cons x y xs ys q t ih =>
      intro hc h5
      obtain ⟨i1, i2⟩ := ih (fun x hx => hc x (List.mem_cons_of_mem _ hx)) fun y hy => h5 y (List.mem_cons_of_mem _ hy)
      obtain ⟨q1, q2, q3⟩ := q
      have c1 := hc x List.mem_cons_self
      refine ⟨.cons ⟨?_, ?_, q3⟩ i1, fun z hz => ?_⟩
      · show y.1.hash w = kh x.1
        rw [← q1, kh_eq w _ c1]
      · show Value.ref y.2.1 = .ref x.2.1
        rw [q2]
      · rcases List.mem_cons.mp hz with e | hz
        · subst e
          exact ⟨c1, by rw [q1]; exact (h5 y List.mem_cons_self).2⟩
        · exact i2 z hz
  obtain ⟨g1, g2⟩ := go r hc h5
  exact ⟨hd, hz, by rw [r.keys]; exact h6, g2, o, es, ep, h1, h2, h3, by rw [h4]; exact g1⟩
theorem NP.at {xs : List NX} {ys : List (NestedKey × Addr × Value)} (r : NP xs ys) (k : NestedKey) : RelO (valV (kvl xs) k) ((atKey ys k).map (·.2)) := by
  induction r with
  | nil => exact True.intro
  | @cons x y xs ys q t ih =>
    obtain ⟨q1, q2, q3⟩ := q
    by_cases e : x.1 = k
    · have e' : y.1 = k := q1.symm.trans e
      have b : atKey (y :: ys) k = some y.2 := by simp [atKey, List.find?_cons, e']
      rw [b, show kvl (x :: xs) = (x.1, x.2.2) :: kvl xs from rfl, valV_pos (p := (x.1, x.2.2)) e]
      exact q3
    · have e' : ¬ y.1 = k := fun z => e (q1.trans z)
      have b : atKey (y :: ys) k = atKey ys k := by simp [atKey, List.find?_cons, e']
      rw [b, show kvl (x :: xs) = (x.1, x.2.2) :: kvl xs from rfl, valV_neg (p := (x.1, x.2.2)) e]
      exact ih
theorem NP.any {xs : List NX} {ys : List (NestedKey × Addr × Value)} (r : NP xs ys) (k : NestedKey) : (xs.any fun x => decide (x.1 = k)) = (atKey ys k).isSome := by
  have e := (r.at k).isSome_eq
  rw [Option.isSome_map] at e
  rw [← e, ← valV_any]
  unfold kvl
  rw [List.any_map]
  rfl
theorem NP.put {xs : List NX} {ys : List (NestedKey × Addr × Value)} (r : NP xs ys) (k : NestedKey) (b : Addr) {v : V} {u : Value} (rv : RelV v u) : NP (putX xs k b v) (storedH ys k b u) := by
  unfold putX storedH
  rw [r.any k]
  split
  · induction r with
    | nil => exact .nil
    | @cons x y xs ys q t ih =>
      obtain ⟨q1, q2, q3⟩ := q
      rw [List.map_cons, List.map_cons]
      refine .cons ?_ ?_
      · unfold putAt
        by_cases e : x.1 = k
        · rw [if_pos e, if_pos (q1.symm.trans e)]; exact ⟨q1, q2, rv⟩
        · rw [if_neg e, if_neg (fun z => e (q1.trans z))]; exact ⟨q1, q2, q3⟩
      · have go : ∀ {xs : List NX} {ys : List (NestedKey × Addr × Value)}, NP xs ys → NP (xs.map fun x => if x.1 = k then (x.1, x.2.1, v) else x) (ys.map (putAt k u)) := by
          intro xs ys r
          induction r with
          | nil => exact .nil
          | @cons x y xs ys q t ih =>
            obtain ⟨q1, q2, q3⟩ := q
            rw [List.map_cons, List.map_cons]
            refine .cons ?_ ih
            unfold putAt
            by_cases e : x.1 = k
            · rw [if_pos e, if_pos (q1.symm.trans e)]; exact ⟨q1, q2, rv⟩
            · rw [if_neg e, if_neg (fun z => e (q1.trans z))]; exact ⟨q1, q2, q3⟩
        exact go t
  · exact Paired.snoc r ⟨rfl, rfl, rv⟩
theorem putX_len (xs : List NX) (k : NestedKey) (b : Addr) (v : V) : (putX xs k b v).length ≤ xs.length + 1 := by
  unfold putX
  split
  · rw [List.length_map]; omega
  · rw [List.length_append]; simp
theorem putX_mem {xs : List NX} {k : NestedKey} {b : Addr} {v : V} {x : NX} (h : x ∈ putX xs k b v) : (∃ y ∈ xs, x.1 = y.1 ∧ x.2.1 = y.2.1) ∨ (x.1 = k ∧ x.2.1 = b) := by
  unfold putX at h
  split at h
  · obtain ⟨y, hy, e⟩ := List.mem_map.mp h
    refine .inl ⟨y, hy, ?_⟩
    subst e
    split <;> exact ⟨rfl, rfl⟩
  · rcases List.mem_append.mp h with h | h
    · exact .inl ⟨x, h, rfl, rfl⟩
    · rw [List.mem_singleton.mp h]
      exact .inr ⟨rfl, rfl⟩
end
section
variable {X : Cx} {pins : List (Addr × Obj)} {σ : L2.St} {H : Hp} {s : Shared} {a b : Addr} {k : NestedKey} {v d : V} {u r : Value} {A : Around} {E : Value → Shared → Prop} {xs : List NX}
/-- the keys of the entries stand -/
def KIs (h : Heap) (xs : List NX) : Prop := ∀ x ∈ xs, NestedIs h x.1 (.ref x.2.1)
theorem nd_at (I : Inv X pins σ H s) (e : H a = some (ndO a xs)) : NdAt a xs s.heap := (I.hok a _ e).1
theorem nd_typeIs (x : NdAt a xs s.heap) : s.TypeIs (.ref a) "dict" := let ⟨_, _, _, _, o, _, _, h1, h2, _⟩ := x; ⟨o, h1, h2.1⟩
theorem nd_noDict (x : NdAt a xs s.heap) : ∀ b, Value.ref a = .ref b → ∃ ob, s.heap.get? b = some ob ∧ ob.dict = none := fun b q => by
  cases q
  obtain ⟨_, _, _, _, o, _, _, h1, h2, _⟩ := x
  exact ⟨o, h1, h2.2.1⟩
theorem nroom (hu : A.units + 64 < cLine) : (nestedKind X.prog X.w).room A.in1 := by
  show A.in1.units + 8 < cLine
  have : A.in1.units ≤ A.units + 2 := by show _ ≤ _; simp only [Around.in1]; omega
  omega
theorem n_getItem {Q : Value → Shared → Prop} (hu : A.units + 64 < cLine) (I : Inv X pins σ H s) (e : H a = some (ndO a xs)) (hk : KIs s.heap xs) (ky : NestedIs s.heap k (.ref b)) (kd : k.depth ≤ 8) (l : valV (kvl xs) k = some v)
    (h : ∀ w' s', Inv X pins σ H s' → RelV v w' → Q w' s') : wpAny (model X.prog X.w) A (getItem (.ref a) (.ref b)) Q E s := by
  obtain ⟨ys, rel, dd⟩ := nd_dict (P := X.prog) (w := X.w) (nd_at I e) hk
  obtain ⟨w', hw, rw'⟩ := RelO.some_of (v := v) (o := (atKey ys k).map (·.2)) (by rw [← l]; exact rel.at k)
  obtain ⟨p, hp, hp2⟩ := Option.map_eq_some_iff.mp hw
  refine wpAny_getItem_heap (nroom (X := X) hu) ⟨ky, kd⟩ dd hp ?_
  rw [hp2]
  exact h w' _ (I.tok _) rw'
theorem n_in {Q : Value → Shared → Prop} (hu : A.units + 64 < cLine) (I : Inv X pins σ H s) (e : H a = some (ndO a xs)) (hk : KIs s.heap xs) (ky : NestedIs s.heap k (.ref b)) (kd : k.depth ≤ 8)
    (h : ∀ s', Inv X pins σ H s' → Q (.bool (valV (kvl xs) k).isSome) s') : wpAny (model X.prog X.w) A (compareOp .In (.ref b) (.ref a)) Q E s := by
  have n := nd_at I e
  obtain ⟨ys, rel, dd⟩ := nd_dict (P := X.prog) (w := X.w) n hk
  refine wpAny_in_heap (nroom (X := X) hu) ⟨ky, kd⟩ n.1 dd ?_
  have q := (rel.at k).isSome_eq
  rw [Option.isSome_map] at q
  rw [← q]
  exact h _ (I.tok _)
theorem n_notIn {Q : Value → Shared → Prop} (hu : A.units + 64 < cLine) (I : Inv X pins σ H s) (e : H a = some (ndO a xs)) (hk : KIs s.heap xs) (ky : NestedIs s.heap k (.ref b)) (kd : k.depth ≤ 8)
    (h : ∀ s', Inv X pins σ H s' → Q (.bool (!(valV (kvl xs) k).isSome)) s') : wpAny (model X.prog X.w) A (compareOp .NotIn (.ref b) (.ref a)) Q E s := by
  have n := nd_at I e
  obtain ⟨ys, rel, dd⟩ := nd_dict (P := X.prog) (w := X.w) n hk
  refine wpAny_notIn_heap (nroom (X := X) hu) ⟨ky, kd⟩ n.1 dd ?_
  have q := (rel.at k).isSome_eq
  rw [Option.isSome_map] at q
  rw [← q]
  exact h _ (I.tok _)
theorem n_get {Q : Value → Shared → Prop} (hu : A.units + 64 < cLine) (I : Inv X pins σ H s) (e : H a = some (ndO a xs)) (hk : KIs s.heap xs) (ky : NestedIs s.heap k (.ref b)) (kd : k.depth ≤ 8)
    (h : ∀ w' s', Inv X pins σ H s' → RelV ((valV (kvl xs) k).getD .non) w' → Q w' s') : wpAny (model X.prog X.w) A (call (.builtin "dict.get") [.ref a, .ref b]) Q E s := by
  have n := nd_at I e
  obtain ⟨ys, rel, dd⟩ := nd_dict (P := X.prog) (w := X.w) n hk
  exact call_meetsIn PySem.F.slot_dict_get dd.typeIs PySem.F.entry_dict_get (PySem.F.args_dict_get_2 _ _) (meetsH_dict_get (nestedKind X.prog X.w) a b n.1) ⟨nroom (X := X) hu, k, ys, ⟨ky, kd⟩, dd, h _ _ (I.tok _) ((rel.at k).getD rfl)⟩
theorem n_get2 {Q : Value → Shared → Prop} (hu : A.units + 64 < cLine) (I : Inv X pins σ H s) (e : H a = some (ndO a xs)) (hk : KIs s.heap xs) (ky : NestedIs s.heap k (.ref b)) (kd : k.depth ≤ 8) (rd : RelV d r)
    (h : ∀ w' s', Inv X pins σ H s' → RelV ((valV (kvl xs) k).getD d) w' → Q w' s') : wpAny (model X.prog X.w) A (call (.builtin "dict.get") [.ref a, .ref b, r]) Q E s := by
  have n := nd_at I e
  obtain ⟨ys, rel, dd⟩ := nd_dict (P := X.prog) (w := X.w) n hk
  exact call_meetsIn PySem.F.slot_dict_get dd.typeIs PySem.F.entry_dict_get (PySem.F.args_dict_get_3 _ _ _) (meetsH_dict_get_default (nestedKind X.prog X.w) a b n.1 r) ⟨nroom (X := X) hu, k, ys, ⟨ky, kd⟩, dd, h _ _ (I.tok _) ((rel.at k).getD rd)⟩
theorem nd_put {h' : Heap} {ys : List (NestedKey × Addr × Value)} (n : NdAt a xs s.heap) (rel : NP xs ys) (ck : calm k = true) (hl : xs.length < sizeLine) (rv : RelV v u) (dd' : h'.DictOfH (nestedKind X.prog X.w) a (storedH ys k b u)) : NdAt a (putX xs k b v) h' := by
  refine nd_of (P := X.prog) (w := X.w) (rel.put k b rv) dd' n.1 (by have := putX_len xs k b v; omega) fun x hx => ?_
  rcases putX_mem hx with ⟨y, hy, e, _⟩ | ⟨e, _⟩
  · rw [e]; exact (n.2.2.2.1 y hy).1
  · rw [e]; exact ck
theorem n_setItem {Q : Unit → Shared → Prop} (hu : A.units + 64 < cLine) (I : Inv X pins σ H s) (e : H a = some (ndO a xs)) (hk : KIs s.heap xs) (ky : NestedIs s.heap k (.ref b)) (kd : k.depth ≤ 8) (ck : calm k = true) (hl : xs.length < sizeLine) (rv : RelV v u)
    (h : ∀ s', Inv X pins σ (upd H a (ndO a (putX xs k b v))) s' → Q () s') : wpAny (model X.prog X.w) A (setItem (.ref a) (.ref b) u) Q E s := by
  have n := nd_at I e
  obtain ⟨ys, rel, dd⟩ := nd_dict (P := X.prog) (w := X.w) n hk
  have hz : ys.length ≤ sizeLine := by rw [← Paired.length rel]; omega
  refine wpAny_setItem_heap (hsz := hz) (nroom (X := X) hu) ⟨ky, kd⟩ dd fun h' dd' hs => h _ ?_
  have n' := nd_put n rel ck hl rv dd'
  obtain ⟨_, _, _, _, q, es, ep, hq, _⟩ := id n'
  exact d_write I (by rw [e]; exact True.intro) hs ⟨q, hq⟩ (nd_ok n')
theorem n_setd {Q : Value → Shared → Prop} (hu : A.units + 64 < cLine) (I : Inv X pins σ H s) (e : H a = some (ndO a xs)) (hk : KIs s.heap xs) (ky : NestedIs s.heap k (.ref b)) (kd : k.depth ≤ 8) (ck : calm k = true) (hl : xs.length < sizeLine) (rv : RelV v u)
    (h1 : ∀ v', valV (kvl xs) k = some v' → ∀ (w' : Value) (s' : Shared), Inv X pins σ H s' → RelV v' w' → Q w' s')
    (h2 : valV (kvl xs) k = none → ∀ (w' : Value) (s' : Shared), Inv X pins σ (upd H a (ndO a (putX xs k b v))) s' → RelV v w' → Q w' s') : wpAny (model X.prog X.w) A (call (.builtin "dict.setdefault") [.ref a, .ref b, u]) Q E s := by
  have n := nd_at I e
  obtain ⟨ys, rel, dd⟩ := nd_dict (P := X.prog) (w := X.w) n hk
  have hz : ys.length ≤ sizeLine := by rw [← Paired.length rel]; omega
  have q := rel.at k
  refine call_setdefault_heap (hsz := hz) (nroom (X := X) hu) ⟨ky, kd⟩ n.1 dd (fun p hp => ?_) fun hn h' dd' hs => ?_
  · rw [hp] at q
    cases q0 : valV (kvl xs) k with
    | none => rw [q0] at q; exact (show False from q).elim
    | some v0 => rw [q0] at q; exact h1 v0 q0 _ _ (I.tok _) q
  · rw [hn] at q
    cases q0 : valV (kvl xs) k with
    | some v0 => rw [q0] at q; exact (show False from q).elim
    | none =>
      have n' := nd_put n rel ck hl rv dd'
      obtain ⟨_, _, _, _, q, es, ep, hq, _⟩ := id n'
      exact h2 q0 _ _ (d_write I (by rw [e]; exact True.intro) hs ⟨q, hq⟩ (nd_ok n')) rv
theorem nd_empty (h : Heap) (hb : sysModules < h.objs.size) : NdAt h.objs.size [] (h.push { cls := .type "dict", data := .dict #[] }) :=
  ⟨beq_eq_false_iff_ne.mpr (Ne.symm (Nat.ne_of_lt hb)), Nat.zero_le _, List.nodup_nil, (fun _ h => nomatch h), _, #[], 0, Heap.get?_push_size _ rfl, ⟨rfl, rfl, rfl⟩, rfl, .nil⟩
end
/-! ### the rows -/
/-- where the things stand, the keys are read so -/
def KAll (X : Cx) (H : Hp) (xs : List NX) (k : NestedKey) (b : Addr) : Prop := ∀ (pins : List (Addr × Obj)) (σ : L2.St) (s : Shared), Inv X pins σ H s → KIs s.heap xs ∧ NestedIs s.heap k (.ref b)
def tNNew : TE := fun _ H Q => ∀ p, H p = none → Q (.ref p) (upd H p (ndO p []))
def tNGet (X : Cx) (td ty : TE) : TE := fun σ H Q => td σ H fun x H1 => ty σ H1 fun y H2 => ∃ a b xs k v, x = .ref a ∧ y = .ref b ∧ H2 a = some (ndO a xs) ∧ KAll X H2 xs k b ∧ k.depth ≤ 8 ∧ valV (kvl xs) k = some v ∧ Q v H2
def tNIn (X : Cx) (neg : Bool) (ty td : TE) : TE := fun σ H Q => ty σ H fun y H1 => td σ H1 fun x H2 => ∃ a b xs k, x = .ref a ∧ y = .ref b ∧ H2 a = some (ndO a xs) ∧ KAll X H2 xs k b ∧ k.depth ≤ 8 ∧ Q (.bl ((valV (kvl xs) k).isSome != neg)) H2
def sNPut (X : Cx) (td ty tv : TE) : TS := fun D σ H => tv σ H fun v H1 => td σ H1 fun x H2 => ty σ H2 fun y H3 => ∃ a b xs k, x = .ref a ∧ y = .ref b ∧ H3 a = some (ndO a xs) ∧ KAll X H3 xs k b ∧ k.depth ≤ 8 ∧ calm k = true ∧ xs.length < sizeLine ∧ D.nx σ (upd H3 a (ndO a (putX xs k b v)))
def IsN (H : Hp) (a : Addr) : Prop := ∃ xs, H a = some (ndO a xs)
def tNGet1 (X : Cx) (td ty : TE) : TE := fun σ H Q => td σ H fun x H1 => ∃ a, x = .ref a ∧ IsN H1 a ∧ ty σ H1 fun y H2 => ∃ b xs k, y = .ref b ∧ H2 a = some (ndO a xs) ∧ KAll X H2 xs k b ∧ k.depth ≤ 8 ∧ Q ((valV (kvl xs) k).getD .non) H2
def tNGet2 (X : Cx) (td ty tx : TE) : TE := fun σ H Q => td σ H fun x H1 => ∃ a, x = .ref a ∧ IsN H1 a ∧ ty σ H1 fun y H2 => tx σ H2 fun z H3 => ∃ b xs k, y = .ref b ∧ H3 a = some (ndO a xs) ∧ KAll X H3 xs k b ∧ k.depth ≤ 8 ∧ Q ((valV (kvl xs) k).getD z) H3
def tNSetd (X : Cx) (td ty tx : TE) : TE := fun σ H Q => td σ H fun x H1 => ∃ a, x = .ref a ∧ IsN H1 a ∧ ty σ H1 fun y H2 => tx σ H2 fun z H3 => ∃ b xs k, y = .ref b ∧ H3 a = some (ndO a xs) ∧ KAll X H3 xs k b ∧ k.depth ≤ 8 ∧ calm k = true ∧ xs.length < sizeLine ∧
  (∀ v, valV (kvl xs) k = some v → Q v H3) ∧ (valV (kvl xs) k = none → Q z (upd H3 a (ndO a (putX xs k b z))))
section
variable {X : Cx} {o i e f value : Expr} {pos pos' apos cpos : Pos} {td ty tv tx : TE}
theorem pe_nnew : PE X (.Dict [] [] pos) tNNew := ⟨fun pins s σ H Q I h =>
  wpAny_Dict_empty ⟨.ref s.heap.objs.size, _, I.laid (a := s.heap.objs.size) (o := ndO s.heap.objs.size []) (t' := s.toks) (fun _ _ q => Heap.get?_push_of_some _ q) (Nat.le_refl _) (nd_ok (nd_empty s.heap I.big)), rfl, h _ (I.hok.fresh (Nat.le_refl _))⟩⟩
theorem pe_nget (hu : X.A.units + 64 < cLine) (ho : PE X o td) (hi : PE X i ty) (hs : NoSl i) : PE X (.Subscript o i pos) (tNGet X td ty) := by
  refine ⟨fun pins s σ H Q I h => ?_⟩
  refine subD_of PySem.F.slot_dict_getitem.lookup hs (thn (ho.run pins s σ H _ I h) fun u s1 ⟨x, H1, I1, rx, q1⟩ => thn (hi.run pins s1 σ H1 _ I1 q1) fun iv s2 ⟨y, H2, I2, ry, a, b, xs, k, v, ex, ey, hH, hk, kd, l, q2⟩ => ?_)
  subst ex ey
  obtain rfl : u = Value.ref a := rx
  obtain rfl : iv = Value.ref b := ry
  obtain ⟨k1, k2⟩ := hk _ _ _ I2
  exact ⟨nd_typeIs (nd_at I2 hH), n_getItem hu I2 hH k1 k2 kd l fun w' s3 I3 rw' => ⟨v, H2, I3, rw', q2⟩⟩
theorem pc_nin (hu : X.A.units + 64 < cLine) (hi : PE X i ty) (ho : PE X o td) : PC X .In i o (tNIn X false ty td) := by
  refine ⟨fun pins s σ H Q I h => ?_⟩
  refine thn (hi.run pins s σ H _ I h) fun iv s1 ⟨y, H1, I1, ry, q1⟩ => thn (ho.run pins s1 σ H1 _ I1 q1) fun u s2 ⟨x, H2, I2, rx, a, b, xs, k, ex, ey, hH, hk, kd, q2⟩ => ?_
  subst ex ey
  obtain rfl : u = Value.ref a := rx
  obtain rfl : iv = Value.ref b := ry
  obtain ⟨k1, k2⟩ := hk _ _ _ I2
  exact n_in hu I2 hH k1 k2 kd fun s3 I3 => ⟨.bl (valV (kvl xs) k).isSome, H2, I3, rfl, by simpa using q2⟩
theorem pc_nnotin (hu : X.A.units + 64 < cLine) (hi : PE X i ty) (ho : PE X o td) : PC X .NotIn i o (tNIn X true ty td) := by
  refine ⟨fun pins s σ H Q I h => ?_⟩
  refine thn (hi.run pins s σ H _ I h) fun iv s1 ⟨y, H1, I1, ry, q1⟩ => thn (ho.run pins s1 σ H1 _ I1 q1) fun u s2 ⟨x, H2, I2, rx, a, b, xs, k, ex, ey, hH, hk, kd, q2⟩ => ?_
  subst ex ey
  obtain rfl : u = Value.ref a := rx
  obtain rfl : iv = Value.ref b := ry
  obtain ⟨k1, k2⟩ := hk _ _ _ I2
  exact n_notIn hu I2 hH k1 k2 kd fun s3 I3 => ⟨.bl (!(valV (kvl xs) k).isSome), H2, I3, rfl, by simpa using q2⟩
theorem ps_nput (hu : X.A.units + 64 < cLine) (ho : PE X o td) (hi : PE X i ty) (hv : PE X value tv) (hs : swapsWith value (some (.Subscript o i pos')) pos.line X.env = pure false) :
    PS X (.Assign [.Subscript o i pos'] value pos) (sNPut X td ty tv) := by
  refine ⟨fun pins s σ H D I h => ?_⟩
  refine wpAny_Assign_Subscript (thn (hv.run pins s σ H _ I h) fun r s1 ⟨v, H1, I1, rv, q1⟩ => thn (ho.run pins s1 σ H1 _ I1 q1) fun u s2 ⟨x, H2, I2, rx, q2⟩ => thn (hi.run pins s2 σ H2 _ I2 q2) fun iv s3 ⟨y, H3, I3, ry, a, b, xs, k, ex, ey, hH, hk, kd, ck, hl, q3⟩ => ?_) hs
  subst ex ey
  obtain rfl : u = Value.ref a := rx
  obtain rfl : iv = Value.ref b := ry
  obtain ⟨k1, k2⟩ := hk _ _ _ I3
  exact n_setItem hu I3 hH k1 k2 kd ck hl rv fun s4 I4 => ⟨σ, _, I4, q3⟩
theorem pe_nget1 (hu : X.A.units + 64 < cLine) (ho : PE X o td) (he : PE X e ty) (m : M1 X o "get" apos e cpos) : PE X (.Call (.Attribute o "get" apos) [e] [] cpos) (tNGet1 X td ty) := by
  refine ⟨fun pins s σ H Q I h => ?_⟩
  refine wpAny_Call_method m.base m.few m.line PySem.F.plainAttrs_dict PySem.F.slot_dict_get PySem.F.type_dict_get (thn (ho.run pins s σ H _ I h) fun u s1 ⟨x, H1, I1, rx, a, ex, ⟨xs0, d⟩, q1⟩ => ?_)
  subst ex
  obtain rfl : u = Value.ref a := rx
  refine ⟨nd_typeIs (nd_at I1 d), nd_noDict (nd_at I1 d), ?_⟩
  rw [m.trees]
  refine Calls.callWith_builtin rfl (Calls.evalArgs_plain (Calls.spliced_cons (thn (he.run pins s1 σ H1 _ I1 q1) fun iv s2 ⟨y, H2, I2, ry, b, xs, k, ey, hH, hk, kd, q2⟩ => Calls.spliced_nil ?_)))
  subst ey
  obtain rfl : iv = Value.ref b := ry
  obtain ⟨k1, k2⟩ := hk _ _ _ I2
  exact n_get hu I2 hH k1 k2 kd fun w' s3 I3 rw' => ⟨_, H2, I3, rw', q2⟩
theorem pe_nget2 (hu : X.A.units + 64 < cLine) (ho : PE X o td) (he : PE X e ty) (hf : PE X f tx) (m : M2 X o "get" apos e f cpos) : PE X (.Call (.Attribute o "get" apos) [e, f] [] cpos) (tNGet2 X td ty tx) := by
  refine ⟨fun pins s σ H Q I h => ?_⟩
  refine wpAny_Call_method m.base m.few m.line PySem.F.plainAttrs_dict PySem.F.slot_dict_get PySem.F.type_dict_get (thn (ho.run pins s σ H _ I h) fun u s1 ⟨x, H1, I1, rx, a, ex, ⟨xs0, d⟩, q1⟩ => ?_)
  subst ex
  obtain rfl : u = Value.ref a := rx
  refine ⟨nd_typeIs (nd_at I1 d), nd_noDict (nd_at I1 d), ?_⟩
  rw [m.trees]
  refine Calls.callWith_builtin rfl (Calls.evalArgs_plain (Calls.spliced_cons (thn (he.run pins s1 σ H1 _ I1 q1) fun iv s2 ⟨y, H2, I2, ry, q2⟩ =>
    Calls.spliced_cons (thn (hf.run pins s2 σ H2 _ I2 q2) fun fv s3 ⟨z, H3, I3, rz, b, xs, k, ey, hH, hk, kd, q3⟩ => Calls.spliced_nil ?_))))
  subst ey
  obtain rfl : iv = Value.ref b := ry
  obtain ⟨k1, k2⟩ := hk _ _ _ I3
  exact n_get2 hu I3 hH k1 k2 kd rz fun w' s4 I4 rw' => ⟨_, H3, I4, rw', q3⟩
theorem pe_nsetd (hu : X.A.units + 64 < cLine) (ho : PE X o td) (he : PE X e ty) (hf : PE X f tx) (m : M2 X o "setdefault" apos e f cpos) : PE X (.Call (.Attribute o "setdefault" apos) [e, f] [] cpos) (tNSetd X td ty tx) := by
  refine ⟨fun pins s σ H Q I h => ?_⟩
  refine wpAny_Call_method m.base m.few m.line PySem.F.plainAttrs_dict PySem.F.slot_dict_setdefault PySem.F.type_dict_setdefault (thn (ho.run pins s σ H _ I h) fun u s1 ⟨x, H1, I1, rx, a, ex, ⟨xs0, d⟩, q1⟩ => ?_)
  subst ex
  obtain rfl : u = Value.ref a := rx
  refine ⟨nd_typeIs (nd_at I1 d), nd_noDict (nd_at I1 d), ?_⟩
  rw [m.trees]
  refine Calls.callWith_builtin rfl (Calls.evalArgs_plain (Calls.spliced_cons (thn (he.run pins s1 σ H1 _ I1 q1) fun iv s2 ⟨y, H2, I2, ry, q2⟩ =>
    Calls.spliced_cons (thn (hf.run pins s2 σ H2 _ I2 q2) fun fv s3 ⟨z, H3, I3, rz, b, xs, k, ey, hH, hk, kd, ck, hl, q3, q4⟩ => Calls.spliced_nil ?_))))
  subst ey
  obtain rfl : iv = Value.ref b := ry
  obtain ⟨k1, k2⟩ := hk _ _ _ I3
  exact n_setd hu I3 hH k1 k2 kd ck hl rz (fun v hv w' s4 I4 rw' => ⟨v, _, I4, rw', q3 v hv⟩) fun hn w' s4 I4 rw' => ⟨z, _, I4, rw', q4 hn⟩
end
end Mo
set_option maxRecDepth 100000
set_option maxHeartbeats 1000000
/-! Mo: values as pure data, a store of tracked cells, own lists of a frame; a def's meaning as a Lean function. -/
namespace Mo
open PySem PySem.Spec PyProof.Rows L2

/-- a value: tuples and resting lists by what they hold, a shared cell by its place -/
inductive D where
  | non | bl (b : Bool) | int (i : Int) | str (x : Str)
  | tup (l : List D) | lst (l : List D)
  | loc (n : Nat) | raw (v : V)
  /-- a list of numbers that nobody changes: the script -/
  | scr (l : List Int)

/-- a cell that may change -/
inductive Cell where
  | lst (l : List D)
  | dK (l : List (Key × D))
  /-- keys are tuples of any depth, without texts -/
  | dT (l : List (NestedKey × D))
  /-- a dict that is walked through -/
  | dF (l : List (Key × D))

mutual
/-- a key as data -/
def dKey : NestedKey → D
  | .none => .non
  | .num i => .int i
  | .text x => .str x
  | .tup ks => .tup (dKeys ks)
def dKeys : List NestedKey → List D
  | [] => []
  | k :: ks => dKey k :: dKeys ks
end
def kdl (l : List (NestedKey × D)) : List (NestedKey × D) := l.map fun p => (p.1, dKey p.1)

/-- what a name stands for: a value, or a cell of its own -/
inductive Slot where
  | val (d : D)
  | own (c : Cell)

abbrev Store := List Cell
abbrev MEnv := List (Option Slot)

/-- what a run gives -/
inductive R (α : Type) where
  | ok (a : α) (S : Store)
  | bad

def R.bind {α β : Type} (r : R α) (f : α → Store → R β) : R β := match r with
  | .ok a S => f a S
  | .bad => .bad

theorem R.bind_ok {α β : Type} {r : R α} {f : α → Store → R β} {b : β} {S' : Store} (h : r.bind f = .ok b S') : ∃ a S, r = .ok a S ∧ f a S = .ok b S' := by
  cases r with
  | ok a S => exact ⟨a, S, rfl, h⟩
  | bad => cases h

section rel
variable (K : PySem.W.Frag) (g f : List Addr) (H : Hp)
/-- a list that rests: none of the cells, none of the own ones -/
def RestL (a : Addr) (vs : List V) : Prop := a ∉ g ∧ a ∉ f ∧ H a = some (.lst vs)
/-- .. or one that is only read, perhaps the module's -/
def ScrL (a : Addr) (vs : List V) : Prop :=
  (a ∉ g ∧ a ∉ f ∧ Rd H a (.lst vs)) ∨
    ∃ (ob : Obj) (its : Array Value) (n : Nat), K.lookup a = some ob ∧ ob.cls = .type "list" ∧ ob.dict = none ∧ ob.data = .seq its n ∧ its.size ≤ sizeLine ∧ Vals vs its.toList
mutual
def RelD : D → V → Prop
  | .non, v => v = .non
  | .bl b, v => v = .bl b
  | .int i, v => v = .int i
  | .str x, v => v = .str x
  | .tup l, v => ∃ a vs, v = .ref a ∧ SqT K H a vs ∧ RelDs l vs
  | .lst l, v => ∃ a vs, v = .ref a ∧ RestL g f H a vs ∧ RelDs l vs
  | .scr l, v => ∃ a, v = .ref a ∧ ScrL K g f H a (l.map V.int)
  | .loc n, v => ∃ a, v = .ref a ∧ g[n]? = some a
  | .raw u, v => v = u
def RelDs : List D → List V → Prop
  | [], vs => vs = []
  | d :: ds, vs => ∃ v r, vs = v :: r ∧ RelD d v ∧ RelDs ds r
end
def RelKv {κ : Type} : List (κ × D) → List (κ × V) → Prop
  | [], vs => vs = []
  | p :: ps, vs => ∃ v r, vs = (p.1, v) :: r ∧ RelD K g f H p.2 v ∧ RelKv ps r
def RelC (a : Addr) : Cell → Prop
  | .lst l => ∃ vs, H a = some (.lst vs) ∧ RelDs K g f H l vs
  | .dK l => ∃ kvs, H a = some (.dK kvs) ∧ RelKv K g f H l kvs
  | .dT l => ∃ xs, H a = some (ndO a xs) ∧ RelKv K g f H (kdl l) (kal xs) ∧ RelKv K g f H l (kvl xs)
  | .dF l => ∃ kvs, (∃ ob, H a = some (.frz ob (.dK kvs))) ∧ RelKv K g f H l kvs
structure RelS (S : Store) : Prop where
  len : g.length = S.length
  nod : g.Nodup
  cel : ∀ (n : Nat) (c : Cell) (a : Addr), S[n]? = some c → g[n]? = some a → RelC K g f H a c
end rel

/-- the world has gone on: cells may have come and changed, all else stands -/
structure Ext (g : List Addr) (H : Hp) (g' : List Addr) (H' : Hp) : Prop where
  more : ∃ ns, g' = g ++ ns ∧ ∀ p ∈ ns, H p = none
  keep : ∀ a u, H a = some u → a ∉ g → H' a = some u
  live : ∀ a, H a ≠ none → H' a ≠ none
  tups : ∀ a vs, Rd H a (.tup vs) → Rd H' a (.tup vs)
  frz : ∀ a o u, H a = some (.frz o u) → H' a = some (.frz o u)

section
variable {K : PySem.W.Frag} {g g' g1 g2 f f' : List Addr} {H H' H1 H2 : Hp}
theorem Ext.refl : Ext g H g H := ⟨⟨[], by simp, fun _ h => nomatch h⟩, fun _ _ h _ => h, fun _ h => h, fun _ _ h => h, fun _ _ _ h => h⟩
theorem Ext.trans (a : Ext g H g1 H1) (b : Ext g1 H1 g2 H2) : Ext g H g2 H2 := by
  obtain ⟨n1, e1, h1⟩ := a.more
  obtain ⟨n2, e2, h2⟩ := b.more
  refine ⟨⟨n1 ++ n2, by rw [e2, e1, List.append_assoc], fun p hp => ?_⟩, fun c u hc hn => ?_, fun c h => b.live c (a.live c h), fun c vs h => b.tups c vs (a.tups c vs h), fun c o u h => b.frz c o u (a.frz c o u h)⟩
  · rcases List.mem_append.mp hp with q | q
    · exact h1 p q
    · cases e : H p with
      | none => rfl
      | some u => exact absurd (h2 p q) (a.live p (by rw [e]; simp))
  · refine b.keep c u (a.keep c u hc hn) ?_
    rw [e1]
    intro q
    rcases List.mem_append.mp q with q | q
    · exact hn q
    · rw [h1 c q] at hc; cases hc
theorem Ext.get (x : Ext g H g' H') {n : Nat} {a : Addr} (h : g[n]? = some a) : g'[n]? = some a := by
  obtain ⟨ns, e, _⟩ := x.more
  have hl : n < g.length := by
    rcases Nat.lt_or_ge n g.length with q | q
    · exact q
    · rw [List.getElem?_eq_none q] at h; cases h
  rw [e, List.getElem?_append_left hl]
  exact h
theorem Ext.out (x : Ext g H g' H') {a : Addr} (hn : a ∉ g) (hl : H a ≠ none) : a ∉ g' := by
  obtain ⟨ns, e, h⟩ := x.more
  rw [e]
  intro q
  rcases List.mem_append.mp q with q | q
  · exact hn q
  · exact hl (h a q)
theorem SqT.ext {a : Addr} {vs : List V} (x : Ext g H g' H') (h : SqT K H a vs) : SqT K H' a vs := by
  rcases h with h | h
  · exact .inl (x.tups a vs h)
  · exact .inr h
theorem Rd.live {a : Addr} {u : HO} (h : Rd H a u) : H a ≠ none := by
  rcases h with h | ⟨ob, h⟩ <;> rw [h] <;> simp
theorem Rd.keep {a : Addr} {u : HO} (x : Ext g H g' H') (h : Rd H a u) (hn : a ∉ g) : Rd H' a u := by
  rcases h with h | ⟨ob, h⟩
  · exact .inl (x.keep _ _ h hn)
  · exact .inr ⟨ob, x.keep _ _ h hn⟩
theorem RestL.ext {a : Addr} {vs : List V} (x : Ext g H g' H') (h : RestL g f H a vs) : RestL g' f H' a vs :=
  ⟨x.out h.1 (by rw [h.2.2]; simp), h.2.1, x.keep _ _ h.2.2 h.1⟩
theorem ScrL.ext {a : Addr} {vs : List V} (x : Ext g H g' H') (h : ScrL K g f H a vs) : ScrL K g' f H' a vs := by
  rcases h with ⟨h1, h2, h3⟩ | h
  · exact .inl ⟨x.out h1 (Rd.live h3), h2, Rd.keep x h3 h1⟩
  · exact .inr h
theorem RestL.less {a : Addr} {vs : List V} (h : RestL g f H a vs) (s : ∀ b ∈ f', b ∈ f) : RestL g f' H a vs := ⟨h.1, fun q => h.2.1 (s _ q), h.2.2⟩
theorem ScrL.less {a : Addr} {vs : List V} (h : ScrL K g f H a vs) (s : ∀ b ∈ f', b ∈ f) : ScrL K g f' H a vs := by
  rcases h with ⟨h1, h2, h3⟩ | h
  · exact .inl ⟨h1, fun q => h2 (s _ q), h3⟩
  · exact .inr h
theorem RestL.sq {a : Addr} {vs : List V} (h : RestL g f H a vs) : SqL K H a vs := .of h.2.2
theorem ScrL.sq {a : Addr} {vs : List V} (h : ScrL K g f H a vs) : SqL K H a vs := by
  rcases h with ⟨_, _, h⟩ | h
  · exact .inl h
  · exact .inr h
mutual
theorem RelD.ext (x : Ext g H g' H') : ∀ (d : D) (v : V), RelD K g f H d v → RelD K g' f H' d v
  | .non, _, h => h
  | .bl _, _, h => h
  | .int _, _, h => h
  | .str _, _, h => h
  | .raw _, _, h => h
  | .tup l, _, h => by
    obtain ⟨a, vs, e, q, r⟩ := h
    exact ⟨a, vs, e, SqT.ext x q, RelDs.ext x l vs r⟩
  | .lst l, _, h => by
    obtain ⟨a, vs, e, q, r⟩ := h
    exact ⟨a, vs, e, q.ext x, RelDs.ext x l vs r⟩
  | .loc n, _, h => by
    obtain ⟨a, e, q⟩ := h
    exact ⟨a, e, x.get q⟩
  | .scr l, _, ⟨a, e, q⟩ => ⟨a, e, q.ext x⟩
theorem RelDs.ext (x : Ext g H g' H') : ∀ (l : List D) (vs : List V), RelDs K g f H l vs → RelDs K g' f H' l vs
  | [], _, h => h
  | d :: ds, _, h => by
    obtain ⟨v, r, e, q, t⟩ := h
    exact ⟨v, r, e, RelD.ext x d v q, RelDs.ext x ds r t⟩
end
mutual
theorem RelD.less (s : ∀ b ∈ f', b ∈ f) : ∀ (d : D) (v : V), RelD K g f H d v → RelD K g f' H d v
  | .non, _, h => h
  | .bl _, _, h => h
  | .int _, _, h => h
  | .str _, _, h => h
  | .raw _, _, h => h
  | .tup l, _, h => by
    obtain ⟨a, vs, e, q, r⟩ := h
    exact ⟨a, vs, e, q, RelDs.less s l vs r⟩
  | .lst l, _, h => by
    obtain ⟨a, vs, e, q, r⟩ := h
    exact ⟨a, vs, e, q.less s, RelDs.less s l vs r⟩
  | .loc n, _, h => h
  | .scr l, _, ⟨a, e, q⟩ => ⟨a, e, q.less s⟩
theorem RelDs.less (s : ∀ b ∈ f', b ∈ f) : ∀ (l : List D) (vs : List V), RelDs K g f H l vs → RelDs K g f' H l vs
  | [], _, h => h
  | d :: ds, _, h => by
    obtain ⟨v, r, e, q, t⟩ := h
    exact ⟨v, r, e, RelD.less s d v q, RelDs.less s ds r t⟩
end
theorem RelKv.ext {κ : Type} (x : Ext g H g' H') : ∀ (l : List (κ × D)) (vs : List (κ × V)), RelKv K g f H l vs → RelKv K g' f H' l vs
  | [], _, h => h
  | p :: ps, _, h => by
    obtain ⟨v, r, e, q, t⟩ := h
    exact ⟨v, r, e, RelD.ext x _ v q, RelKv.ext x ps r t⟩
theorem RelKv.less {κ : Type} (s : ∀ b ∈ f', b ∈ f) : ∀ (l : List (κ × D)) (vs : List (κ × V)), RelKv K g f H l vs → RelKv K g f' H l vs
  | [], _, h => h
  | p :: ps, _, h => by
    obtain ⟨v, r, e, q, t⟩ := h
    exact ⟨v, r, e, RelD.less s _ v q, RelKv.less s ps r t⟩
theorem RelC.less {a : Addr} (s : ∀ b ∈ f', b ∈ f) : ∀ {c : Cell}, RelC K g f H a c → RelC K g f' H a c
  | .lst l, ⟨vs, e, r⟩ => ⟨vs, e, RelDs.less s l vs r⟩
  | .dK l, ⟨vs, e, r⟩ => ⟨vs, e, RelKv.less s l vs r⟩
  | .dT l, ⟨vs, e, r, r'⟩ => ⟨vs, e, RelKv.less s _ _ r, RelKv.less s _ _ r'⟩
  | .dF l, ⟨vs, e, r⟩ => ⟨vs, e, RelKv.less s l vs r⟩
theorem RelC.live {a : Addr} : ∀ {c : Cell}, RelC K g f H a c → H a ≠ none
  | .lst l, ⟨vs, e, r⟩ => by rw [e]; simp
  | .dK l, ⟨vs, e, r⟩ => by rw [e]; simp
  | .dT l, ⟨vs, e, r, _⟩ => by rw [e]; simp
  | .dF l, ⟨vs, ⟨ob, e⟩, r⟩ => by rw [e]; simp
/-- an own cell stands through what expressions do -/
theorem RelC.ext {a : Addr} (x : Ext g H g' H') (hn : a ∉ g) : ∀ {c : Cell}, RelC K g f H a c → RelC K g' f H' a c
  | .lst l, ⟨vs, e, r⟩ => ⟨vs, x.keep _ _ e hn, RelDs.ext x l vs r⟩
  | .dK l, ⟨vs, e, r⟩ => ⟨vs, x.keep _ _ e hn, RelKv.ext x l vs r⟩
  | .dT l, ⟨vs, e, r, r'⟩ => ⟨vs, x.keep _ _ e hn, RelKv.ext x _ _ r, RelKv.ext x _ _ r'⟩
  | .dF l, ⟨vs, ⟨ob, e⟩, r⟩ => ⟨vs, ⟨ob, x.keep _ _ e hn⟩, RelKv.ext x l vs r⟩
theorem RelS.less {S : Store} (s : ∀ b ∈ f', b ∈ f) (h : RelS K g f H S) : RelS K g f' H S := ⟨h.len, h.nod, fun n c a e1 e2 => (h.cel n c a e1 e2).less s⟩
theorem RelS.live {S : Store} (h : RelS K g f H S) {a : Addr} (m : a ∈ g) : H a ≠ none := by
  obtain ⟨n, hn⟩ := List.mem_iff_getElem?.mp m
  have hl : n < S.length := by
    rw [← h.len]
    rcases Nat.lt_or_ge n g.length with q | q
    · exact q
    · rw [List.getElem?_eq_none q] at hn; cases hn
  exact (h.cel n S[n] a (List.getElem?_eq_getElem hl) hn).live
end
/-! ### the state of a frame -/
structure Sta (K : PySem.W.Frag) (g w o : List Addr) (ρ : MEnv) (S : Store) (σ : L2.St) (H : Hp) : Prop where
  len : ρ.length = σ.length
  val : ∀ (i : Nat) (d : D), ρ[i]? = some (some (.val d)) → ∃ v, σ[i]? = some (some v) ∧ RelD K g (w ++ o) H d v
  own : ∀ (i : Nat) (c : Cell), ρ[i]? = some (some (.own c)) → ∃ a, σ[i]? = some (some (V.ref a)) ∧ a ∈ o ∧ RelC K g (w ++ o) H a c
  inj : ∀ (i j : Nat) (c d : Cell) (a : Addr), ρ[i]? = some (some (.own c)) → ρ[j]? = some (some (.own d)) → σ[i]? = some (some (V.ref a)) → σ[j]? = some (some (V.ref a)) → i = j
  out : ∀ a ∈ o, a ∉ g ∧ a ∉ w
  liv : ∀ a ∈ w ++ o, H a ≠ none
  sto : RelS K g (w ++ o) H S

section
variable {K : PySem.W.Frag} {g g' g1 g2 w o f f' : List Addr} {H H' H1 H2 : Hp} {ρ : MEnv} {S S' : Store} {σ : L2.St}
/-- behind an expression -/
theorem Sta.ext (s : Sta K g w o ρ S σ H) (x : Ext g H g' H') (t : RelS K g' (w ++ o) H' S') : Sta K g' w o ρ S' σ H' where
  len := s.len
  val := fun i d e => let ⟨v, e1, r⟩ := s.val i d e; ⟨v, e1, RelD.ext x d v r⟩
  own := fun i c e => let ⟨a, e1, m, r⟩ := s.own i c e; ⟨a, e1, m, r.ext x (s.out a m).1⟩
  inj := s.inj
  out := fun a m => ⟨x.out (s.out a m).1 (s.liv a (List.mem_append_right _ m)), (s.out a m).2⟩
  liv := fun a m => x.live a (s.liv a m)
  sto := t

/-! ### what an expression means -/
abbrev ME := MEnv → Store → R D
abbrev MT := MEnv → Store → R Bool
abbrev MA := MEnv → Store → R (List D)
/-- what is had behind an expression whose meaning is d, S' -/
def FinE (K : PySem.W.Frag) (g f : List Addr) (H : Hp) (d : D) (S' : Store) (Q : VK) : Prop :=
  ∀ v g' H', Ext g H g' H' → RelS K g' f H' S' → RelD K g' f H' d v → Q v H'
def tE (K : PySem.W.Frag) (m : ME) : TE := fun σ H Q => ∃ g w o ρ S d S', Sta K g w o ρ S σ H ∧ m ρ S = .ok d S' ∧ FinE K g (w ++ o) H d S' Q
def tM (K : PySem.W.Frag) (m : MT) : TT := fun σ H Q => ∃ g w o ρ S b S', Sta K g w o ρ S σ H ∧ m ρ S = .ok b S' ∧
  ∀ g' H', Ext g H g' H' → RelS K g' (w ++ o) H' S' → Q b H'
def tA (K : PySem.W.Frag) (m : MA) : TA := fun σ H Q => ∃ g w o ρ S l S', Sta K g w o ρ S σ H ∧ m ρ S = .ok l S' ∧
  ∀ vs g' H', Ext g H g' H' → RelS K g' (w ++ o) H' S' → RelDs K g' (w ++ o) H' l vs → Q vs H'
def EM (X : Cx) (e : Expr) (m : ME) : Prop := PE X e (tE X.K m)
def TM (X : Cx) (e : Expr) (m : MT) : Prop := PT X e (tM X.K m)
def AM (X : Cx) (es : List Expr) (m : MA) : Prop := PA X es (tA X.K m)
end
section
variable {X : Cx} {e : Expr}
theorem PE.of {t t' : TE} (h : PE X e t) (i : ∀ σ H Q, t' σ H Q → t σ H Q) : PE X e t' := ⟨fun pins s σ H Q I q => h.run pins s σ H Q I (i σ H Q q)⟩
theorem PT.of {t t' : TT} (h : PT X e t) (i : ∀ σ H Q, t' σ H Q → t σ H Q) : PT X e t' := ⟨fun pins s σ H Q I q => h.run pins s σ H Q I (i σ H Q q)⟩
theorem PA.of {es : List Expr} {t t' : TA} (h : PA X es t) (i : ∀ σ H Q, t' σ H Q → t σ H Q) : PA X es t' := ⟨fun pos pins s σ H Q I q => h.run pos pins s σ H Q I (i σ H Q q)⟩
theorem PS.of {st : Stmt} {t t' : TS} (h : PS X st t) (i : ∀ D σ H, t' D σ H → t D σ H) : PS X st t' := ⟨fun pins s σ H D I q => h.run pins s σ H D I (i D σ H q)⟩
theorem PSs.of {st : List Stmt} {t t' : TS} (h : PSs X st t) (i : ∀ D σ H, t' D σ H → t D σ H) : PSs X st t' := ⟨fun pins s σ H D I q => h.run pins s σ H D I (i D σ H q)⟩

/-! ### names and constants -/
def mVar (i : Nat) : ME := fun ρ S => match ρ[i]? with
  | some (some (.val d)) => .ok d S
  | _ => .bad
def mC (d : D) : ME := fun _ S => .ok d S
theorem em_var {i : Nat} (h : PE X e (tVar i)) : EM X e (mVar i) := PE.of h fun σ H Q ⟨g, w, o, ρ, S, d, S', s, hm, q⟩ => by
  unfold mVar at hm
  split at hm
  · rename_i d' e'
    cases hm
    obtain ⟨v, e1, r⟩ := s.val i _ e'
    exact ⟨v, e1, q v g H .refl s.sto r⟩
  · cases hm
/-- a constant: what stands for it whatever the heap -/
theorem em_c {v : V} {d : D} (h : PE X e (tC v)) (hd : ∀ K g f H, RelD K g f H d v) : EM X e (mC d) := PE.of h fun σ H Q ⟨g, w, o, ρ, S, d', S', s, hm, q⟩ => by
  unfold mC at hm
  cases hm
  exact q v g H .refl s.sto (hd _ _ _ _)
theorem em_int {i j pos} : EM X (.Constant (.int i) j pos) (mC (.int i)) := em_c pe_int fun _ _ _ _ => rfl
theorem em_bl {b j pos} : EM X (.Constant (.bool b) j pos) (mC (.bl b)) := em_c pe_bl fun _ _ _ _ => rfl
theorem em_non {j pos} : EM X (.Constant .none j pos) (mC .non) := em_c pe_non fun _ _ _ _ => rfl
theorem em_str {x j pos} : EM X (.Constant (.str x) j pos) (mC (.str x)) := em_c pe_str fun _ _ _ _ => rfl

/-! ### two-place operations -/
abbrev G2 := D → D → Store → R D
def m2 (h : G2) (a b : ME) : ME := fun ρ S => (a ρ S).bind fun x S1 => (b ρ S1).bind fun y S2 => h x y S2
/-- a rule on values, by what the data say -/
def OpD (K : PySem.W.Frag) (r : R2) (h : G2) : Prop := ∀ (g f : List Addr) (H : Hp) (S : Store) (dx dy d : D) (S' : Store) (x y : V) (Q : VK),
  RelS K g f H S → RelD K g f H dx x → RelD K g f H dy y → h dx dy S = .ok d S' → FinE K g f H d S' Q → r x y H Q
variable {a b c : Expr} {ma mb mc : ME} {pos : Pos}
theorem op_of {r : R2} {h : G2} (od : OpD X.K r h) {σ : L2.St} {H : Hp} {Q : VK} (q : tE X.K (m2 h ma mb) σ H Q) : tOp r (tE X.K ma) (tE X.K mb) σ H Q := by
  obtain ⟨g, w, o, ρ, S, d, S', s, hm, q⟩ := q
  obtain ⟨x, S1, h1, hm⟩ := R.bind_ok hm
  obtain ⟨y, S2, h2, hm⟩ := R.bind_ok hm
  refine ⟨g, w, o, ρ, S, x, S1, s, h1, fun vx g1 H1 x1 s1 r1 => ?_⟩
  have st1 := s.ext x1 s1
  refine ⟨g1, w, o, ρ, S1, y, S2, st1, h2, fun vy g2 H2 x2 s2 r2 => ?_⟩
  exact od g2 (w ++ o) H2 S2 x y d S' vx vy Q s2 (RelD.ext x2 x vx r1) r2 hm fun v g3 H3 x3 s3 r3 => q v g3 H3 ((x1.trans x2).trans x3) s3 r3
theorem em_op {op : Operator} {r : R2} {h : G2} (ho : OpR X (binaryOp op) r) (od : OpD X.K r h) (ha : EM X a ma) (hb : EM X b mb) : EM X (.BinOp a op b pos) (m2 h ma mb) :=
  PE.of (pe_op ho ha hb) fun _ _ _ q => op_of od q
theorem em_cmp {op : CmpOp} {r : R2} {h : G2} (ho : OpR X (compareOp op) r) (od : OpD X.K r h) (ha : EM X a ma) (hb : EM X b mb) (hm : behindInMarks op b = false) : EM X (.Compare a [op] [b] pos) (m2 h ma mb) :=
  PE.of (pe_cmpR ho ha hb hm) fun _ _ _ q => op_of od q
theorem em_ix {r : R2} {h : G2} (ho : IxR X r) (od : OpD X.K r h) (ha : EM X a ma) (hb : EM X b mb) (hs : PlainIx b) : EM X (.Subscript a b pos) (m2 h ma mb) :=
  PE.of (pe_ix ho ha hb hs) fun _ _ _ q => op_of od q
end
end Mo
set_option maxRecDepth 100000
set_option maxHeartbeats 1000000
/-! Mo: statements. -/
namespace Mo
open PySem PySem.Spec PyProof.Rows L2

inductive Fl where
  | nx (ρ : MEnv)
  | rt (d : D)
  | bk (ρ : MEnv)
  | ct (ρ : MEnv)
abbrev MS := MEnv → Store → R Fl

/-- .. behind a statement: own cells may have changed, too -/
structure ExtS (g o : List Addr) (H : Hp) (g' o' : List Addr) (H' : Hp) : Prop where
  more : ∃ ns, g' = g ++ ns ∧ ∀ p ∈ ns, H p = none
  keep : ∀ a u, H a = some u → a ∉ g → a ∉ o → H' a = some u
  live : ∀ a, H a ≠ none → H' a ≠ none
  tups : ∀ a vs, Rd H a (.tup vs) → Rd H' a (.tup vs)
  frz : ∀ a o u, H a = some (.frz o u) → H' a = some (.frz o u)
  lam : ∀ a ∈ o', a ∈ o ∨ H a = none

section
variable {K : PySem.W.Frag} {g g' g1 g2 w o o' o1 o2 f f' : List Addr} {H H' H1 H2 : Hp} {ρ : MEnv} {S S' : Store} {σ : L2.St}
theorem Ext.s (x : Ext g H g' H') : ExtS g o H g' o H' := ⟨x.more, fun a u h n _ => x.keep a u h n, x.live, x.tups, x.frz, fun _ h => .inl h⟩
theorem ExtS.refl : ExtS g o H g o H := Ext.s .refl
theorem ExtS.trans (a : ExtS g o H g1 o1 H1) (b : ExtS g1 o1 H1 g2 o2 H2) : ExtS g o H g2 o2 H2 := by
  obtain ⟨n1, e1, h1⟩ := a.more
  obtain ⟨n2, e2, h2⟩ := b.more
  have back : ∀ p, H1 p = none → H p = none := fun p q => by
    cases e : H p with
    | none => rfl
    | some u => exact absurd q (a.live p (by rw [e]; simp))
  refine ⟨⟨n1 ++ n2, by rw [e2, e1, List.append_assoc], fun p hp => ?_⟩, fun c u hc hn ho => ?_, fun c h => b.live c (a.live c h), fun c vs h => b.tups c vs (a.tups c vs h), fun c o u h => b.frz c o u (a.frz c o u h), fun c h => ?_⟩
  · rcases List.mem_append.mp hp with q | q
    · exact h1 p q
    · exact back p (h2 p q)
  · refine b.keep c u (a.keep c u hc hn ho) ?_ fun q => ?_
    · rw [e1]
      intro q
      rcases List.mem_append.mp q with q | q
      · exact hn q
      · rw [h1 c q] at hc; cases hc
    · rcases a.lam c q with q | q
      · exact ho q
      · rw [q] at hc; cases hc
  · rcases b.lam c h with q | q
    · exact a.lam c q
    · exact .inr (back c q)
/-- seen from a frame without own cells -/
theorem ExtS.ext (x : ExtS g [] H g' o' H') : Ext g H g' H' := ⟨x.more, fun a u h n => x.keep a u h n (by simp), x.live, x.tups, x.frz⟩

theorem Sta.set {i : Nat} {d : D} {v : V} (s : Sta K g w o ρ S σ H) (r : RelD K g (w ++ o) H d v) : Sta K g w o (ρ.set i (some (.val d))) S (σ.set i (some v)) H where
  len := by rw [List.length_set, List.length_set]; exact s.len
  val := fun j e h => by
    by_cases hj : i = j
    · subst hj
      have hl : i < ρ.length := by
        rcases Nat.lt_or_ge i ρ.length with q | q
        · exact q
        · rw [List.getElem?_eq_none (by rw [List.length_set]; exact q)] at h; cases h
      rw [List.getElem?_set_self hl] at h
      cases h
      exact ⟨v, List.getElem?_set_self (by rw [← s.len]; exact hl), r⟩
    · rw [List.getElem?_set_ne hj] at h ⊢
      exact s.val j e h
  own := fun j c h => by
    by_cases hj : i = j
    · subst hj
      have hl : i < ρ.length := by
        rcases Nat.lt_or_ge i ρ.length with q | q
        · exact q
        · rw [List.getElem?_eq_none (by rw [List.length_set]; exact q)] at h; cases h
      rw [List.getElem?_set_self hl] at h
      cases h
    · rw [List.getElem?_set_ne hj] at h ⊢
      exact s.own j c h
  inj := fun j k c e a h1 h2 h3 h4 => by
    have nj : ∀ {j c}, (ρ.set i (some (.val d)))[j]? = some (some (Slot.own c)) → i ≠ j := fun {j c} h hj => by
      subst hj
      rcases Nat.lt_or_ge i ρ.length with q | q
      · rw [List.getElem?_set_self q] at h; cases h
      · rw [List.getElem?_eq_none (by rw [List.length_set]; exact q)] at h; cases h
    have n1 := nj h1
    have n2 := nj h2
    rw [List.getElem?_set_ne n1] at h1 h3
    rw [List.getElem?_set_ne n2] at h2 h4
    exact s.inj j k c e a h1 h2 h3 h4
  out := s.out
  liv := s.liv
  sto := s.sto

/-- what is had behind a statement -/
def FinS (K : PySem.W.Frag) (g w o : List Addr) (H : Hp) (fl : Fl) (S' : Store) (E : Ends) : Prop := ∀ g' o' H', ExtS g o H g' o' H' → match fl with
  | .nx ρ' => ∀ σ', Sta K g' w o' ρ' S' σ' H' → E.nx σ' H'
  | .bk ρ' => ∀ σ', Sta K g' w o' ρ' S' σ' H' → E.bk σ' H'
  | .ct ρ' => ∀ σ', Sta K g' w o' ρ' S' σ' H' → E.ct σ' H'
  | .rt d => ∀ v, RelS K g' w H' S' → RelD K g' w H' d v → E.rt v H'
def tS (K : PySem.W.Frag) (m : MS) : TS := fun E σ H => ∃ g w o ρ S fl S', Sta K g w o ρ S σ H ∧ m ρ S = .ok fl S' ∧ FinS K g w o H fl S' E
def SM (X : Cx) (st : Stmt) (m : MS) : Prop := PS X st (tS X.K m)
def SsM (X : Cx) (st : List Stmt) (m : MS) : Prop := PSs X st (tS X.K m)
theorem FinS.after {fl : Fl} {E : Ends} (q : FinS K g w o H fl S' E) (x : ExtS g o H g1 o1 H1) : FinS K g1 w o1 H1 fl S' E := fun g' o' H' y => q g' o' H' (x.trans y)
end

section
variable {X : Cx} {st : Stmt} {rest : List Stmt} {e c : Expr} {m m1 m2 ma mb : MS} {me : ME} {mt : MT} {pos : Pos}
def mNil : MS := fun ρ S => .ok (.nx ρ) S
theorem ssm_nil : SsM X [] mNil := PSs.of pss_nil fun E σ H ⟨g, w, o, ρ, S, fl, S', s, hm, q⟩ => by
  cases hm
  exact q g o H .refl σ s
def mSeq (m1 m2 : MS) : MS := fun ρ S => (m1 ρ S).bind fun fl S1 => match fl with
  | .nx ρ1 => m2 ρ1 S1
  | fl => .ok fl S1
theorem ssm_cons (h1 : SM X st m1) (h2 : SsM X rest m2) : SsM X (st :: rest) (mSeq m1 m2) := PSs.of (pss_cons h1 h2) fun E σ H ⟨g, w, o, ρ, S, fl, S', s, hm, q⟩ => by
  obtain ⟨f1, S1, e1, hm⟩ := R.bind_ok hm
  refine ⟨g, w, o, ρ, S, f1, S1, s, e1, fun g1 o1 H1 x1 => ?_⟩
  cases f1 with
  | nx ρ1 => exact fun σ1 s1 => ⟨g1, w, o1, ρ1, S1, fl, S', s1, hm, q.after x1⟩
  | rt d => cases hm; exact q g1 o1 H1 x1
  | bk d => cases hm; exact q g1 o1 H1 x1
  | ct d => cases hm; exact q g1 o1 H1 x1
theorem ssm_one (h1 : SM X st m1) : SsM X [st] m1 := pss_one h1
/-- name = e -/
def mSet (i : Nat) (m : ME) : MS := fun ρ S => (m ρ S).bind fun d S1 => .ok (.nx (ρ.set i (some (.val d)))) S1
theorem sm_set {i : Nat} (h : PS X st (tAsg (tE X.K me) (gName i))) : SM X st (mSet i me) := PS.of h fun E σ H ⟨g, w, o, ρ, S, fl, S', s, hm, q⟩ => by
  obtain ⟨d, S1, e1, hm⟩ := R.bind_ok hm
  cases hm
  exact ⟨g, w, o, ρ, S, d, S', s, e1, fun v g1 H1 x1 s1 r1 => q g1 o H1 x1.s _ ((s.ext x1 s1).set r1)⟩
def mRet (m : ME) : MS := fun ρ S => (m ρ S).bind fun d S1 => .ok (.rt d) S1
theorem sm_ret (h : EM X e me) : SM X (.Return (some e) pos) (mRet me) := PS.of (ps_ret h) fun E σ H ⟨g, w, o, ρ, S, fl, S', s, hm, q⟩ => by
  obtain ⟨d, S1, e1, hm⟩ := R.bind_ok hm
  cases hm
  have sub : ∀ b ∈ w, b ∈ w ++ o := fun b hb => List.mem_append_left _ hb
  exact ⟨g, w, o, ρ, S, d, S', s, e1, fun v g1 H1 x1 s1 r1 => q g1 o H1 x1.s v (s1.less sub) (RelD.less sub d v r1)⟩
def mRetN : MS := fun _ S => .ok (.rt .non) S
theorem sm_retN : SM X (.Return none pos) mRetN := PS.of ps_retN fun E σ H ⟨g, w, o, ρ, S, fl, S', s, hm, q⟩ => by
  cases hm
  have sub : ∀ b ∈ w, b ∈ w ++ o := fun b hb => List.mem_append_left _ hb
  exact q g o H .refl .non (s.sto.less sub) rfl
def mDrop (m : ME) : MS := fun ρ S => (m ρ S).bind fun _ S1 => .ok (.nx ρ) S1
theorem sm_drop (h : PS X st (tDrop (tE X.K me))) : SM X st (mDrop me) := PS.of h fun E σ H ⟨g, w, o, ρ, S, fl, S', s, hm, q⟩ => by
  obtain ⟨d, S1, e1, hm⟩ := R.bind_ok hm
  cases hm
  exact ⟨g, w, o, ρ, S, d, S', s, e1, fun v g1 H1 x1 s1 r1 => q g1 o H1 x1.s _ (s.ext x1 s1)⟩
def mIf (c : MT) (a b : MS) : MS := fun ρ S => (c ρ S).bind fun k S1 => if k = true then a ρ S1 else b ρ S1
theorem sm_if {a b : List Stmt} (hc : TM X c mt) (ha : SsM X a ma) (hb : SsM X b mb) : SM X (.If c a b pos) (mIf mt ma mb) := PS.of (ps_if hc ha hb) fun E σ H ⟨g, w, o, ρ, S, fl, S', s, hm, q⟩ => by
  obtain ⟨k, S1, e1, hm⟩ := R.bind_ok hm
  refine ⟨g, w, o, ρ, S, k, S1, s, e1, fun g1 H1 x1 s1 => ?_⟩
  have st1 := s.ext x1 s1
  cases k with
  | true => exact ⟨g1, w, o, ρ, S1, fl, S', st1, hm, q.after x1.s⟩
  | false => exact ⟨g1, w, o, ρ, S1, fl, S', st1, hm, q.after x1.s⟩
def mPass : MS := mNil
theorem sm_pass : SM X (.Pass pos) mPass := PS.of ps_pass fun E σ H ⟨g, w, o, ρ, S, fl, S', s, hm, q⟩ => by
  cases hm
  exact q g o H .refl σ s
theorem sm_doc {x j pos pos'} : SM X (.Expr (.Constant (.str x) j pos) pos') mPass := PS.of ps_doc fun E σ H ⟨g, w, o, ρ, S, fl, S', s, hm, q⟩ => by
  cases hm
  exact q g o H .refl σ s
def mBrk : MS := fun ρ S => .ok (.bk ρ) S
def mCnt : MS := fun ρ S => .ok (.ct ρ) S
theorem sm_break : SM X (.Break pos) mBrk := PS.of ps_break fun E σ H ⟨g, w, o, ρ, S, fl, S', s, hm, q⟩ => by
  cases hm
  exact q g o H .refl σ s
theorem sm_continue : SM X (.Continue pos) mCnt := PS.of ps_continue fun E σ H ⟨g, w, o, ρ, S, fl, S', s, hm, q⟩ => by
  cases hm
  exact q g o H .refl σ s
/-- a step of the proof alone, ahead of statements -/
theorem ssm_ghost {sts : List Stmt} {gh : MEnv → MEnv} (h : SsM X sts m)
    (hg : ∀ g w o ρ S σ H, Sta X.K g w o ρ S σ H → ∃ o', (∀ a ∈ o', a ∈ o) ∧ Sta X.K g w o' (gh ρ) S σ H) : SsM X sts (fun ρ S => m (gh ρ) S) := PSs.of h fun E σ H ⟨g, w, o, ρ, S, fl, S', s, hm, q⟩ => by
  obtain ⟨o', so, s'⟩ := hg g w o ρ S σ H s
  refine ⟨g, w, o', gh ρ, S, fl, S', s', hm, fun g1 o1 H1 x1 => q g1 o1 H1 ⟨x1.more, fun a u h n ho => x1.keep a u h n fun z => ho (so a z), x1.live, x1.tups, x1.frz, fun a h => ?_⟩⟩
  rcases x1.lam a h with z | z
  · exact .inl (so a z)
  · exact .inr z
end
end Mo
set_option maxRecDepth 100000
set_option maxHeartbeats 1000000
/-! Mo: tests, arguments, displays, calls, defs. -/
namespace Mo
open PySem PySem.Spec PyProof.Rows L2

section
variable {X : Cx} {a b c e : Expr} {rest : List Expr} {ma mb mc me : ME} {ta tb tc : MT} {pos : Pos} {l : MA}

/-! ### tests -/
def isB : D → Store → R Bool
  | .bl k, S => .ok k S
  | _, _ => .bad
def mB (m : ME) : MT := fun ρ S => (m ρ S).bind isB
theorem isB_ok {d : D} {S S' : Store} {k : Bool} (h : isB d S = .ok k S') : d = .bl k ∧ S' = S := by
  cases d <;> cases h
  exact ⟨rfl, rfl⟩
theorem tm_ofB {t : TT} (h : PT X e t) (i : ∀ σ H Q, (tE X.K me σ H fun x H1 => ∃ k, x = .bl k ∧ Q k H1) → t σ H Q) : TM X e (mB me) := PT.of h fun σ H Q ⟨g, w, o, ρ, S, k, S', s, hm, q⟩ => by
  obtain ⟨d, S1, h1, h2⟩ := R.bind_ok hm
  obtain ⟨rfl, rfl⟩ := isB_ok h2
  exact i σ H Q ⟨g, w, o, ρ, S, _, _, s, h1, fun v g1 H1 x1 s1 r1 => ⟨k, r1, q g1 H1 x1 s1⟩⟩
theorem tm_val (h : EM X e me) (he : ∀ whole, isTrue e X.env whole = (do let v ← whole; standAt e.pos; holding [v] (truthy v)) := by intro _; rfl) : TM X e (mB me) := tm_ofB (pt_val h he) fun _ _ _ q => q
theorem tm_cmp {op : CmpOp} {r : R2} {h : G2} (ho : OpR X (compareOp op) r) (od : OpD X.K r h) (ha : EM X a ma) (hb : EM X b mb) (hm : behindInMarks op b = false) : TM X (.Compare a [op] [b] pos) (mB (m2 h ma mb)) :=
  tm_ofB (pt_cmpR ho ha hb hm) fun σ H Q q => op_of od q
def WM (X : Cx) (e : Expr) (m : MT) : Prop := PW X e (tM X.K m)
theorem WM.tm (h : WM X e ta) : TM X e ta := PW.pt h
theorem PW.of {t t' : TT} (h : PW X e t) (i : ∀ σ H Q, t' σ H Q → t σ H Q) : PW X e t' := ⟨fun wh pins s σ H Q I q => h.run wh pins s σ H Q I (i σ H Q q)⟩
def mAndT (a b : MT) : MT := fun ρ S => (a ρ S).bind fun k S1 => if k = true then b ρ S1 else .ok false S1
def mOrT (a b : MT) : MT := fun ρ S => (a ρ S).bind fun k S1 => if k = true then .ok true S1 else b ρ S1
def mNotT (a : MT) : MT := fun ρ S => (a ρ S).bind fun k S1 => .ok (!k) S1
theorem wm_and1 (ha : TM X a ta) : WM X (.BoolOp .And [a] pos) ta := pw_and1 ha
theorem wm_or1 (ha : TM X a ta) : WM X (.BoolOp .Or [a] pos) ta := pw_or1 ha
theorem wm_and (ha : TM X a ta) (hb : WM X (.BoolOp .And (b :: rest) pos) tb) : WM X (.BoolOp .And (a :: b :: rest) pos) (mAndT ta tb) := PW.of (pw_and ha hb) fun σ H Q ⟨g, w, o, ρ, S, k, S', s, hm, q⟩ => by
  obtain ⟨k1, S1, h1, hm⟩ := R.bind_ok hm
  refine ⟨g, w, o, ρ, S, k1, S1, s, h1, fun g1 H1 x1 s1 => ?_⟩
  cases k1 with
  | true => exact ⟨g1, w, o, ρ, S1, k, S', s.ext x1 s1, hm, fun g2 H2 x2 s2 => q g2 H2 (x1.trans x2) s2⟩
  | false => cases hm; exact q g1 H1 x1 s1
theorem wm_or (ha : TM X a ta) (hb : WM X (.BoolOp .Or (b :: rest) pos) tb) : WM X (.BoolOp .Or (a :: b :: rest) pos) (mOrT ta tb) := PW.of (pw_or ha hb) fun σ H Q ⟨g, w, o, ρ, S, k, S', s, hm, q⟩ => by
  obtain ⟨k1, S1, h1, hm⟩ := R.bind_ok hm
  refine ⟨g, w, o, ρ, S, k1, S1, s, h1, fun g1 H1 x1 s1 => ?_⟩
  cases k1 with
  | true => cases hm; exact q g1 H1 x1 s1
  | false => exact ⟨g1, w, o, ρ, S1, k, S', s.ext x1 s1, hm, fun g2 H2 x2 s2 => q g2 H2 (x1.trans x2) s2⟩
theorem tm_not (ha : TM X a ta) : TM X (.UnaryOp .Not a pos) (mNotT ta) := PT.of (pt_not ha) fun σ H Q ⟨g, w, o, ρ, S, k, S', s, hm, q⟩ => by
  obtain ⟨k1, S1, h1, hm⟩ := R.bind_ok hm
  cases hm
  exact ⟨g, w, o, ρ, S, k1, S', s, h1, fun g1 H1 x1 s1 => q g1 H1 x1 s1⟩
/-- and, or, not as values -/
def mAnd (a b : ME) : ME := fun ρ S => (a ρ S).bind fun d S1 => (isB d S1).bind fun k S2 => if k = true then b ρ S2 else .ok (.bl false) S2
def mOr (a b : ME) : ME := fun ρ S => (a ρ S).bind fun d S1 => (isB d S1).bind fun k S2 => if k = true then .ok (.bl true) S2 else b ρ S2
def mNot (a : ME) : ME := fun ρ S => (a ρ S).bind fun d S1 => (isB d S1).bind fun k S2 => .ok (.bl (!k)) S2
theorem em_one {op} (h : EM X a ma) : EM X (.BoolOp op [a] pos) ma := pe_one h
theorem em_and (ha : EM X a ma) (hb : EM X (.BoolOp .And (b :: rest) pos) mb) : EM X (.BoolOp .And (a :: b :: rest) pos) (mAnd ma mb) := PE.of (pe_and ha hb) fun σ H Q ⟨g, w, o, ρ, S, d, S', s, hm, q⟩ => by
  obtain ⟨d1, S1, h1, hm⟩ := R.bind_ok hm
  obtain ⟨k, S2, h2, hm⟩ := R.bind_ok hm
  obtain ⟨rfl, rfl⟩ := isB_ok h2
  refine ⟨g, w, o, ρ, S, _, _, s, h1, fun v g1 H1 x1 s1 r1 => ⟨k, r1, ?_⟩⟩
  cases k with
  | true => exact ⟨g1, w, o, ρ, _, d, S', s.ext x1 s1, hm, fun v g2 H2 x2 s2 r2 => q v g2 H2 (x1.trans x2) s2 r2⟩
  | false => cases hm; exact q _ g1 H1 x1 s1 rfl
theorem em_or (ha : EM X a ma) (hb : EM X (.BoolOp .Or (b :: rest) pos) mb) : EM X (.BoolOp .Or (a :: b :: rest) pos) (mOr ma mb) := PE.of (pe_or ha hb) fun σ H Q ⟨g, w, o, ρ, S, d, S', s, hm, q⟩ => by
  obtain ⟨d1, S1, h1, hm⟩ := R.bind_ok hm
  obtain ⟨k, S2, h2, hm⟩ := R.bind_ok hm
  obtain ⟨rfl, rfl⟩ := isB_ok h2
  refine ⟨g, w, o, ρ, S, _, _, s, h1, fun v g1 H1 x1 s1 r1 => ⟨k, r1, ?_⟩⟩
  cases k with
  | true => cases hm; exact q _ g1 H1 x1 s1 rfl
  | false => exact ⟨g1, w, o, ρ, _, d, S', s.ext x1 s1, hm, fun v g2 H2 x2 s2 r2 => q v g2 H2 (x1.trans x2) s2 r2⟩
theorem em_not (ha : EM X a ma) : EM X (.UnaryOp .Not a pos) (mNot ma) := PE.of (pe_not ha) fun σ H Q ⟨g, w, o, ρ, S, d, S', s, hm, q⟩ => by
  obtain ⟨d1, S1, h1, hm⟩ := R.bind_ok hm
  obtain ⟨k, S2, h2, hm⟩ := R.bind_ok hm
  obtain ⟨rfl, rfl⟩ := isB_ok h2
  cases hm
  exact ⟨g, w, o, ρ, S, _, _, s, h1, fun v g1 H1 x1 s1 r1 => ⟨k, r1, q _ g1 H1 x1 s1 rfl⟩⟩
def mIfE (c : MT) (a b : ME) : ME := fun ρ S => (c ρ S).bind fun k S1 => if k = true then a ρ S1 else b ρ S1
theorem em_ifE (hc : TM X c tc) (ha : EM X a ma) (hb : EM X b mb) : EM X (.IfExp c a b pos) (mIfE tc ma mb) := PE.of (pe_ifExp hc ha hb) fun σ H Q ⟨g, w, o, ρ, S, d, S', s, hm, q⟩ => by
  obtain ⟨k, S1, h1, hm⟩ := R.bind_ok hm
  refine ⟨g, w, o, ρ, S, k, S1, s, h1, fun g1 H1 x1 s1 => ?_⟩
  cases k with
  | true => exact ⟨g1, w, o, ρ, _, d, S', s.ext x1 s1, hm, fun v g2 H2 x2 s2 r2 => q v g2 H2 (x1.trans x2) s2 r2⟩
  | false => exact ⟨g1, w, o, ρ, _, d, S', s.ext x1 s1, hm, fun v g2 H2 x2 s2 r2 => q v g2 H2 (x1.trans x2) s2 r2⟩
/-- a < b < c -/
def mChain (h h' : G2) (a b c : ME) : ME := fun ρ S => (a ρ S).bind fun x S1 => (b ρ S1).bind fun y S2 => (h x y S2).bind fun d S3 => (isB d S3).bind fun k S4 =>
  if k = true then (c ρ S4).bind fun z S5 => h' y z S5 else .ok (.bl false) S4
theorem chain_of {r r' : R2} {h h' : G2} (od : OpD X.K r h) (od' : OpD X.K r' h') {σ : L2.St} {H : Hp} {Q : VK} (q : tE X.K (mChain h h' ma mb mc) σ H Q) : tChain r r' (tE X.K ma) (tE X.K mb) (tE X.K mc) σ H Q := by
  obtain ⟨g, w, o, ρ, S, d, S', s, hm, q⟩ := q
  obtain ⟨x, S1, h1, hm⟩ := R.bind_ok hm
  obtain ⟨y, S2, h2, hm⟩ := R.bind_ok hm
  obtain ⟨d3, S3, h3, hm⟩ := R.bind_ok hm
  obtain ⟨k, S4, h4, hq⟩ := R.bind_ok hm
  obtain ⟨rfl, rfl⟩ := isB_ok h4
  refine ⟨g, w, o, ρ, S, x, S1, s, h1, fun vx g1 H1 x1 s1 r1 => ?_⟩
  have t1 := s.ext x1 s1
  refine ⟨g1, w, o, ρ, S1, y, S2, t1, h2, fun vy g2 H2 x2 s2 r2 => ?_⟩
  refine od g2 (w ++ o) H2 S2 x y _ _ vx vy _ s2 (RelD.ext x2 x vx r1) r2 h3 fun v3 g3 H3 x3 s3 r3 => ⟨k, r3, ?_⟩
  have t3 := (t1.ext x2 s2).ext x3 s3
  cases k with
  | true =>
    rw [if_pos rfl] at hq ⊢
    obtain ⟨z, S5, h5, hq⟩ := R.bind_ok hq
    refine ⟨g3, w, o, ρ, _, z, S5, t3, h5, fun vz g4 H4 x4 s4 r4 => ?_⟩
    exact od' g4 (w ++ o) H4 S5 y z d S' vy vz Q s4 (RelD.ext (x3.trans x4) y vy r2) r4 hq fun v g5 H5 x5 s5 r5 => q v g5 H5 ((((x1.trans x2).trans x3).trans x4).trans x5) s5 r5
  | false => cases hq; exact q _ g3 H3 ((x1.trans x2).trans x3) s3 rfl
theorem em_chain {op op' : CmpOp} {r r' : R2} {h h' : G2} (ho : OpR X (compareOp op) r) (od : OpD X.K r h) (ho' : OpR X (compareOp op') r') (od' : OpD X.K r' h') (ha : EM X a ma) (hb : EM X b mb) (hc : EM X c mc)
    (hm : lastMarks [op, op'] [b, c] = false := by with_unfolding_all rfl) : EM X (.Compare a [op, op'] [b, c] pos) (mChain h h' ma mb mc) := PE.of (pe_chain ho ho' ha hb hc hm) fun _ _ _ q => chain_of od od' q
theorem tm_chain {op op' : CmpOp} {r r' : R2} {h h' : G2} (ho : OpR X (compareOp op) r) (od : OpD X.K r h) (ho' : OpR X (compareOp op') r') (od' : OpD X.K r' h') (ha : EM X a ma) (hb : EM X b mb) (hc : EM X c mc)
    (hm : lastMarks [op, op'] [b, c] = false := by with_unfolding_all rfl) : TM X (.Compare a [op, op'] [b, c] pos) (mB (mChain h h' ma mb mc)) := tm_ofB (pt_chain ho ho' ha hb hc hm) fun _ _ _ q => chain_of od od' q

/-! ### arguments -/
def aNil : MA := fun _ S => .ok [] S
def aCons (m : ME) (r : MA) : MA := fun ρ S => (m ρ S).bind fun d S1 => (r ρ S1).bind fun ds S2 => .ok (d :: ds) S2
theorem am_nil : AM X [] aNil := PA.of pa_nil fun σ H Q ⟨g, w, o, ρ, S, ds, S', s, hm, q⟩ => by
  cases hm
  exact q [] g H .refl s.sto rfl
theorem am_cons (ha : EM X e me) (hr : AM X rest l) (hs : starEach (e :: rest) X.env = (false, eval e X.env) :: starEach rest X.env := by rfl) : AM X (e :: rest) (aCons me l) := PA.of (pa_cons ha hr hs) fun σ H Q ⟨g, w, o, ρ, S, ds, S', s, hm, q⟩ => by
  obtain ⟨d, S1, h1, hm⟩ := R.bind_ok hm
  obtain ⟨dr, S2, h2, hm⟩ := R.bind_ok hm
  cases hm
  refine ⟨g, w, o, ρ, S, d, S1, s, h1, fun v g1 H1 x1 s1 r1 => ?_⟩
  refine ⟨g1, w, o, ρ, S1, dr, _, s.ext x1 s1, h2, fun vs g2 H2 x2 s2 r2 => ?_⟩
  exact q (v :: vs) g2 H2 (x1.trans x2) s2 ⟨v, vs, rfl, RelD.ext x2 d v r1, r2⟩
end

section
variable {K : PySem.W.Frag} {g g' f : List Addr} {H : Hp}
theorem Ext.new {p : Addr} {u : HO} (h : H p = none) : Ext g H g (upd H p u) where
  more := ⟨[], by simp, fun _ h => nomatch h⟩
  keep := fun a u' e _ => by rw [upd_ne (ne_of_none e h)]; exact e
  live := fun a n => by
    by_cases e : a = p
    · subst e; rw [upd_same]; simp
    · rw [upd_ne e]; exact n
  tups := fun a vs r => by
    have e : a ≠ p := fun e => Rd.live r (e ▸ h)
    rcases r with r | ⟨ob, r⟩
    · exact .inl (by rw [upd_ne e]; exact r)
    · exact .inr ⟨ob, by rw [upd_ne e]; exact r⟩
  frz := fun a o u' e => by rw [upd_ne (ne_of_none e h)]; exact e
/-- the cells stand where what is new is none of them -/
theorem RelC.new {p a : Addr} {u : HO} (h : H p = none) : ∀ {c : Cell}, RelC K g f H a c → RelC K g f (upd H p u) a c
  | .lst l, ⟨vs, e, r⟩ => ⟨vs, by rw [upd_ne (ne_of_none e h)]; exact e, RelDs.ext (.new h) l vs r⟩
  | .dK l, ⟨vs, e, r⟩ => ⟨vs, by rw [upd_ne (ne_of_none e h)]; exact e, RelKv.ext (.new h) l vs r⟩
  | .dT l, ⟨vs, e, r, r'⟩ => ⟨vs, by rw [upd_ne (ne_of_none e h)]; exact e, RelKv.ext (.new h) _ _ r, RelKv.ext (.new h) _ _ r'⟩
  | .dF l, ⟨vs, ⟨ob, e⟩, r⟩ => ⟨vs, ⟨ob, by rw [upd_ne (ne_of_none e h)]; exact e⟩, RelKv.ext (.new h) l vs r⟩
theorem RelS.new {S : Store} {p : Addr} {u : HO} (s : RelS K g f H S) (h : H p = none) : RelS K g f (upd H p u) S :=
  ⟨s.len, s.nod, fun n c a e1 e2 => (s.cel n c a e1 e2).new h⟩
theorem RelDs.length : ∀ {l : List D} {vs : List V}, RelDs K g f H l vs → l.length = vs.length
  | [], _, h => by cases h; rfl
  | d :: ds, _, ⟨v, r, e, _, t⟩ => by rw [e, List.length_cons, List.length_cons, RelDs.length t]
theorem RelDs.get : ∀ {l : List D} {vs : List V} {i : Nat} {d : D}, RelDs K g f H l vs → l[i]? = some d → ∃ v, vs[i]? = some v ∧ RelD K g f H d v
  | [], _, i, _, _, e => by simp at e
  | d :: ds, _, 0, _, ⟨v, r, e, q, _⟩, h => by
    simp at h; subst h; subst e
    exact ⟨v, rfl, q⟩
  | d :: ds, _, i + 1, _, ⟨v, r, e, _, t⟩, h => by
    subst e
    exact RelDs.get (i := i) t (by simpa using h)
theorem RelDs.append : ∀ {l m : List D} {vs us : List V}, RelDs K g f H l vs → RelDs K g f H m us → RelDs K g f H (l ++ m) (vs ++ us)
  | [], _, _, _, h, q => by cases h; exact q
  | d :: ds, _, _, _, ⟨v, r, e, h, t⟩, q => by
    subst e
    exact ⟨v, _, rfl, h, RelDs.append t q⟩
theorem RelDs.set : ∀ {l : List D} {vs : List V} {i : Nat} {d : D} {v : V}, RelDs K g f H l vs → RelD K g f H d v → RelDs K g f H (l.set i d) (vs.set i v)
  | [], _, _, _, _, h, _ => by cases h; rfl
  | x :: ds, _, 0, _, v, ⟨y, r, e, _, t⟩, q => by subst e; exact ⟨v, r, rfl, q, t⟩
  | x :: ds, _, i + 1, _, _, ⟨y, r, e, h, t⟩, q => by subst e; exact ⟨y, _, rfl, h, RelDs.set t q⟩
end

section
variable {X : Cx} {es : List Expr} {pos : Pos} {l : MA}
def mTup (l : MA) : ME := fun ρ S => (l ρ S).bind fun ds S1 => if ds.length ≤ sizeLine then .ok (.tup ds) S1 else .bad
theorem em_tup {x1} (h : AM X es l) : EM X (.Tuple es x1 pos) (mTup l) := PE.of (pe_tup h) fun σ H Q ⟨g, w, o, ρ, S, d, S', s, hm, q⟩ => by
  obtain ⟨ds, S1, h1, hm⟩ := R.bind_ok hm
  split at hm
  · rename_i hl
    cases hm
    refine ⟨g, w, o, ρ, S, ds, _, s, h1, fun vs g1 H1 x1 s1 r1 => ⟨by rw [← r1.length]; exact hl, fun p hp => ?_⟩⟩
    refine q _ g1 _ (x1.trans (.new hp)) (s1.new hp) ⟨p, vs, rfl, .inl (.inl upd_same), RelDs.ext (.new hp) ds vs r1⟩
  · cases hm

/-! ### what makes a new list -/
abbrev ML := MEnv → Store → R (List D)
end
section
variable {K : PySem.W.Frag} {g g' f : List Addr} {H : Hp} {p : Addr}
theorem RestL.fresh {a : Addr} {vs : List V} (hp : H p = none) (h : RestL g f H a vs) : RestL g (f ++ [p]) H a vs := by
  refine ⟨h.1, fun m => ?_, h.2.2⟩
  rcases List.mem_append.mp m with m | m
  · exact h.2.1 m
  · have e := h.2.2
    rw [List.mem_singleton.mp m, hp] at e
    cases e
theorem ScrL.fresh {a : Addr} {vs : List V} (hp : H p = none) (h : ScrL K g f H a vs) : ScrL K g (f ++ [p]) H a vs := by
  rcases h with ⟨h1, h2, h3⟩ | h
  · refine .inl ⟨h1, fun m => ?_, h3⟩
    rcases List.mem_append.mp m with m | m
    · exact h2 m
    · rw [List.mem_singleton.mp m] at h3
      exact Rd.live h3 hp
  · exact .inr h
theorem RestL.toG {a : Addr} {vs : List V} (h : RestL g (f ++ [p]) H a vs) : RestL (g ++ [p]) f H a vs := by
  refine ⟨fun m => ?_, fun m => h.2.1 (List.mem_append_left _ m), h.2.2⟩
  rcases List.mem_append.mp m with m | m
  · exact h.1 m
  · exact h.2.1 (List.mem_append_right _ m)
theorem ScrL.toG {a : Addr} {vs : List V} (h : ScrL K g (f ++ [p]) H a vs) : ScrL K (g ++ [p]) f H a vs := by
  rcases h with ⟨h1, h2, h3⟩ | h
  · refine .inl ⟨fun m => ?_, fun m => h2 (List.mem_append_left _ m), h3⟩
    rcases List.mem_append.mp m with m | m
    · exact h1 m
    · exact h2 (List.mem_append_right _ m)
  · exact .inr h
theorem get_more {n : Nat} {a : Addr} (h : g[n]? = some a) : (g ++ [p])[n]? = some a := by
  have hl : n < g.length := by
    rcases Nat.lt_or_ge n g.length with q | q
    · exact q
    · rw [List.getElem?_eq_none q] at h; cases h
  rw [List.getElem?_append_left hl]
  exact h
mutual
theorem RelD.fresh (hp : H p = none) : ∀ (d : D) (v : V), RelD K g f H d v → RelD K g (f ++ [p]) H d v
  | .non, _, h => h
  | .bl _, _, h => h
  | .int _, _, h => h
  | .str _, _, h => h
  | .raw _, _, h => h
  | .tup l, _, ⟨a, vs, e, q, r⟩ => ⟨a, vs, e, q, RelDs.fresh hp l vs r⟩
  | .lst l, _, ⟨a, vs, e, q, r⟩ => ⟨a, vs, e, q.fresh hp, RelDs.fresh hp l vs r⟩
  | .loc n, _, h => h
  | .scr l, _, ⟨a, e, q⟩ => ⟨a, e, q.fresh hp⟩
theorem RelDs.fresh (hp : H p = none) : ∀ (l : List D) (vs : List V), RelDs K g f H l vs → RelDs K g (f ++ [p]) H l vs
  | [], _, h => h
  | d :: ds, _, ⟨v, r, e, q, t⟩ => ⟨v, r, e, RelD.fresh hp d v q, RelDs.fresh hp ds r t⟩
end
mutual
theorem RelD.toG : ∀ (d : D) (v : V), RelD K g (f ++ [p]) H d v → RelD K (g ++ [p]) f H d v
  | .non, _, h => h
  | .bl _, _, h => h
  | .int _, _, h => h
  | .str _, _, h => h
  | .raw _, _, h => h
  | .tup l, _, ⟨a, vs, e, q, r⟩ => ⟨a, vs, e, q, RelDs.toG l vs r⟩
  | .lst l, _, ⟨a, vs, e, q, r⟩ => ⟨a, vs, e, q.toG, RelDs.toG l vs r⟩
  | .loc n, _, ⟨a, e, q⟩ => ⟨a, e, get_more q⟩
  | .scr l, _, ⟨a, e, q⟩ => ⟨a, e, q.toG⟩
theorem RelDs.toG : ∀ (l : List D) (vs : List V), RelDs K g (f ++ [p]) H l vs → RelDs K (g ++ [p]) f H l vs
  | [], _, h => h
  | d :: ds, _, ⟨v, r, e, q, t⟩ => ⟨v, r, e, RelD.toG d v q, RelDs.toG ds r t⟩
end
theorem RelKv.fresh {κ : Type} (hp : H p = none) : ∀ (l : List (κ × D)) (vs : List (κ × V)), RelKv K g f H l vs → RelKv K g (f ++ [p]) H l vs
  | [], _, h => h
  | d :: ds, _, ⟨v, r, e, q, t⟩ => ⟨v, r, e, RelD.fresh hp d.2 v q, RelKv.fresh hp ds r t⟩
theorem RelKv.toG {κ : Type} : ∀ (l : List (κ × D)) (vs : List (κ × V)), RelKv K g (f ++ [p]) H l vs → RelKv K (g ++ [p]) f H l vs
  | [], _, h => h
  | d :: ds, _, ⟨v, r, e, q, t⟩ => ⟨v, r, e, RelD.toG d.2 v q, RelKv.toG ds r t⟩
theorem RelC.fresh {a : Addr} (hp : H p = none) : ∀ {c : Cell}, RelC K g f H a c → RelC K g (f ++ [p]) H a c
  | .lst l, ⟨vs, e, r⟩ => ⟨vs, e, RelDs.fresh hp l vs r⟩
  | .dK l, ⟨vs, e, r⟩ => ⟨vs, e, RelKv.fresh hp l vs r⟩
  | .dT l, ⟨vs, e, r, r'⟩ => ⟨vs, e, RelKv.fresh hp _ _ r, RelKv.fresh hp _ _ r'⟩
  | .dF l, ⟨vs, e, r⟩ => ⟨vs, e, RelKv.fresh hp l vs r⟩
theorem RelC.toG {a : Addr} : ∀ {c : Cell}, RelC K g (f ++ [p]) H a c → RelC K (g ++ [p]) f H a c
  | .lst l, ⟨vs, e, r⟩ => ⟨vs, e, RelDs.toG l vs r⟩
  | .dK l, ⟨vs, e, r⟩ => ⟨vs, e, RelKv.toG l vs r⟩
  | .dT l, ⟨vs, e, r, r'⟩ => ⟨vs, e, RelKv.toG _ _ r, RelKv.toG _ _ r'⟩
  | .dF l, ⟨vs, e, r⟩ => ⟨vs, e, RelKv.toG l vs r⟩
theorem RelS.fresh {S : Store} (hp : H p = none) (s : RelS K g f H S) : RelS K g (f ++ [p]) H S := ⟨s.len, s.nod, fun n c a e1 e2 => (s.cel n c a e1 e2).fresh hp⟩
theorem RelS.addG {S : Store} {c : Cell} (s : RelS K g (f ++ [p]) H S) (hn : p ∉ g) (r : RelC K g (f ++ [p]) H p c) : RelS K (g ++ [p]) f H (S ++ [c]) where
  len := by rw [List.length_append, List.length_append, s.len]; rfl
  nod := List.nodup_append.mpr ⟨s.nod, by simp, fun a ha b hb e => by rw [List.mem_singleton.mp hb] at e; exact hn (e ▸ ha)⟩
  cel := fun n d a e1 e2 => by
    rcases Nat.lt_or_ge n S.length with q | q
    · rw [List.getElem?_append_left q] at e1
      rw [List.getElem?_append_left (by rw [s.len]; exact q)] at e2
      exact (s.cel n d a e1 e2).toG
    · rw [List.getElem?_append_right q] at e1
      rw [List.getElem?_append_right (by rw [s.len]; exact q)] at e2
      have z : n - S.length = 0 := by
        rcases Nat.eq_zero_or_pos (n - S.length) with z | z
        · exact z
        · rw [List.getElem?_eq_none (by simp only [List.length_singleton]; omega)] at e1; cases e1
      rw [z] at e1
      rw [s.len, z] at e2
      cases e1; cases e2
      exact r.toG
end
section
variable {X : Cx} {es : List Expr} {pos : Pos} {l : MA}
/-- the new list's place is none of the cells and is forbidden to all else -/
def FinN (K : PySem.W.Frag) (g f : List Addr) (H : Hp) (l : List D) (S' : Store) (Q : VK) : Prop :=
  ∀ p vs g' H', Ext g H g' H' → H p = none → p ∉ g' → H' p = some (.lst vs) → RelS K g' (f ++ [p]) H' S' → RelDs K g' (f ++ [p]) H' l vs → Q (.ref p) H'
def tN (K : PySem.W.Frag) (m : ML) : TE := fun σ H Q => ∃ g w o ρ S l S', Sta K g w o ρ S σ H ∧ m ρ S = .ok l S' ∧ FinN K g (w ++ o) H l S' Q
def NM (X : Cx) (e : Expr) (m : ML) : Prop := PE X e (tN X.K m)
theorem Sta.noF {K : PySem.W.Frag} {g w o : List Addr} {ρ : MEnv} {S : Store} {σ : L2.St} {H : Hp} (s : Sta K g w o ρ S σ H) {p : Addr} (h : H p = none) : p ∉ w ++ o := fun m => s.liv p m h
theorem RelS.noG {K : PySem.W.Frag} {g f : List Addr} {S : Store} {H : Hp} (s : RelS K g f H S) {p : Addr} (h : H p = none) : p ∉ g := fun m => s.live m h
theorem sub_app {f : List Addr} {p : Addr} : ∀ b ∈ f, b ∈ f ++ [p] := fun _ h => List.mem_append_left _ h
/-- .. as a value -/
def mLst (m : ML) : ME := fun ρ S => (m ρ S).bind fun ds S1 => .ok (.lst ds) S1
theorem em_new {e : Expr} {m : ML} (h : NM X e m) : EM X e (mLst m) := PE.of h fun σ H Q ⟨g, w, o, ρ, S, d, S', s, hm, q⟩ => by
  obtain ⟨ds, S1, h1, hm⟩ := R.bind_ok hm
  cases hm
  exact ⟨g, w, o, ρ, S, ds, _, s, h1, fun p vs g1 H1 x1 hp n1 e1 s1 r1 => q _ g1 H1 x1 (s1.less sub_app) ⟨p, vs, rfl, ⟨n1, s.noF hp, e1⟩, RelDs.less sub_app _ _ r1⟩⟩
/-- .. as a cell of the store -/
def mLoc (m : ML) : ME := fun ρ S => (m ρ S).bind fun ds S1 => .ok (.loc S1.length) (S1 ++ [.lst ds])
theorem em_loc {e : Expr} {m : ML} (h : NM X e m) : EM X e (mLoc m) := PE.of h fun σ H Q ⟨g, w, o, ρ, S, d, S', s, hm, q⟩ => by
  obtain ⟨ds, S1, h1, hm⟩ := R.bind_ok hm
  cases hm
  refine ⟨g, w, o, ρ, S, ds, _, s, h1, fun p vs g1 H1 x1 hp n1 e1 s1 r1 => ?_⟩
  obtain ⟨ns, eg, hns⟩ := x1.more
  have x2 : Ext g H (g1 ++ [p]) H1 := ⟨⟨ns ++ [p], by rw [eg, List.append_assoc], fun b hb => by
    rcases List.mem_append.mp hb with z | z
    · exact hns b z
    · rw [List.mem_singleton.mp z]; exact hp⟩, x1.keep, x1.live, x1.tups, x1.frz⟩
  exact q _ _ H1 x2 (s1.addG n1 ⟨vs, e1, r1⟩) ⟨p, rfl, by rw [← s1.len]; exact List.getElem?_concat_length⟩
/-- name = a new list, its own -/
def mOwnL (i : Nat) (m : ML) : MS := fun ρ S => (m ρ S).bind fun ds S1 => .ok (.nx (ρ.set i (some (.own (.lst ds))))) S1
theorem Sta.setOwn {K : PySem.W.Frag} {g g' w o : List Addr} {ρ : MEnv} {S S' : Store} {σ : L2.St} {H H' : Hp} {i : Nat} {p : Addr} {c : Cell} (s : Sta K g w o ρ S σ H) (x : Ext g H g' H') (hp : H p = none) (hn : p ∉ g')
    (t : RelS K g' ((w ++ o) ++ [p]) H' S') (r : RelC K g' ((w ++ o) ++ [p]) H' p c) : Sta K g' w (o ++ [p]) (ρ.set i (some (.own c))) S' (σ.set i (some (.ref p))) H' := by
  have ea : w ++ (o ++ [p]) = (w ++ o) ++ [p] := (List.append_assoc w o [p]).symm
  have hpo : p ∉ w ++ o := s.noF hp
  have neP : ∀ {j : Nat} {c : Cell} {b : Addr}, ρ[j]? = some (some (.own c)) → σ[j]? = some (some (V.ref b)) → b ≠ p := fun {j c b} h1 h2 e => by
    obtain ⟨a, e1, m, _⟩ := s.own j c h1
    rw [h2] at e1; cases e1
    exact hpo (List.mem_append_right _ (e ▸ m))
  have lt_of : ∀ {u : Slot} {d : Option Slot}, (ρ.set i (some u))[i]? = some d → i < ρ.length := fun {u d} h => by
    rcases Nat.lt_or_ge i ρ.length with q | q
    · exact q
    · rw [List.getElem?_eq_none (by rw [List.length_set]; exact q)] at h; cases h
  refine ⟨by rw [List.length_set, List.length_set]; exact s.len, fun j d h => ?_, fun j d h => ?_, fun j k d e a h1 h2 h3 h4 => ?_, fun a ha => ?_, fun a ha => ?_, by rw [ea]; exact t⟩
  · by_cases hj : i = j
    · subst hj
      rw [List.getElem?_set_self (lt_of h)] at h
      cases h
    · rw [List.getElem?_set_ne hj] at h ⊢
      obtain ⟨v, e1, r1⟩ := s.val j d h
      exact ⟨v, e1, by rw [ea]; exact RelD.ext x d v (RelD.fresh hp d v r1)⟩
  · by_cases hj : i = j
    · subst hj
      have hl := lt_of h
      rw [List.getElem?_set_self hl] at h
      cases h
      exact ⟨p, List.getElem?_set_self (by rw [← s.len]; exact hl), by simp, by rw [ea]; exact r⟩
    · rw [List.getElem?_set_ne hj] at h ⊢
      obtain ⟨a, e1, m, r1⟩ := s.own j d h
      exact ⟨a, e1, List.mem_append_left _ m, by rw [ea]; exact (r1.fresh hp).ext x (s.out a m).1⟩
  · by_cases hj : i = j
    · subst hj
      have hl := lt_of h1
      rw [List.getElem?_set_self (by rw [← s.len]; exact hl)] at h3
      cases h3
      by_cases hk : i = k
      · exact hk
      · rw [List.getElem?_set_ne hk] at h2 h4
        exact absurd rfl (neP h2 h4)
    · rw [List.getElem?_set_ne hj] at h1 h3
      by_cases hk : i = k
      · subst hk
        have hl := lt_of h2
        rw [List.getElem?_set_self (by rw [← s.len]; exact hl)] at h4
        cases h4
        exact absurd rfl (neP h1 h3)
      · rw [List.getElem?_set_ne hk] at h2 h4
        exact s.inj j k d e a h1 h2 h3 h4
  · rcases List.mem_append.mp ha with m | m
    · exact ⟨x.out (s.out a m).1 (s.liv a (List.mem_append_right _ m)), (s.out a m).2⟩
    · rw [List.mem_singleton.mp m]
      exact ⟨hn, fun z => hpo (List.mem_append_left _ z)⟩
  · rw [ea] at ha
    rcases List.mem_append.mp ha with m | m
    · exact x.live a (s.liv a m)
    · rw [List.mem_singleton.mp m]
      exact r.live
theorem ExtS.own {g g' o : List Addr} {H H' : Hp} {p : Addr} (x : Ext g H g' H') (hp : H p = none) : ExtS g o H g' (o ++ [p]) H' := ⟨x.more, fun a u h n _ => x.keep a u h n, x.live, x.tups, x.frz, fun a h => by
  rcases List.mem_append.mp h with m | m
  · exact .inl m
  · rw [List.mem_singleton.mp m]; exact .inr hp⟩
theorem sm_own {st : Stmt} {i : Nat} {m : ML} (h : PS X st (tAsg (tN X.K m) (gName i))) : SM X st (mOwnL i m) := PS.of h fun E σ H ⟨g, w, o, ρ, S, fl, S', s, hm, q⟩ => by
  obtain ⟨d, S1, e1, hm⟩ := R.bind_ok hm
  cases hm
  exact ⟨g, w, o, ρ, S, d, _, s, e1, fun p vs g1 H1 x1 hp n1 e1 s1 r1 => q g1 (o ++ [p]) H1 (.own x1 hp) _ (s.setOwn x1 hp n1 s1 ⟨vs, e1, r1⟩)⟩
/-- [a, b, ..] -/
def mDisp (l : MA) : ML := fun ρ S => (l ρ S).bind fun ds S1 => if ds.length ≤ sizeLine then .ok ds S1 else .bad
theorem nm_lst (h : AM X es l) : NM X (.List es pos) (mDisp l) := PE.of (pe_lst h) fun σ H Q ⟨g, w, o, ρ, S, d, S', s, hm, q⟩ => by
  obtain ⟨ds, S1, h1, hm⟩ := R.bind_ok hm
  split at hm
  · rename_i hl
    cases hm
    refine ⟨g, w, o, ρ, S, _, _, s, h1, fun vs g1 H1 x1 s1 r1 => ⟨by rw [← r1.length]; exact hl, fun p hp => ?_⟩⟩
    have hH : H p = none := by
      cases e : H p with
      | none => rfl
      | some u => exact absurd hp (x1.live p (by rw [e]; simp))
    exact q p vs g1 _ (x1.trans (.new hp)) hH (s1.noG hp) upd_same ((s1.fresh hp).new hp) (RelDs.ext (.new hp) _ _ (RelDs.fresh hp _ _ r1))
  · cases hm
end
end Mo
set_option maxRecDepth 100000
set_option maxHeartbeats 1000000
/-! Mo: calls and defs. -/
namespace Mo
open PySem PySem.Spec PyProof.Rows L2

/-- a def's meaning -/
abbrev MF := List D → Store → R D
def spM (K : PySem.W.Frag) (n : Nat) (m : MF) : Sp := fun vs H Q _ => vs.length = n ∧ ∃ g f ds S d S', (∀ a ∈ f, H a ≠ none) ∧ RelS K g f H S ∧ RelDs K g f H ds vs ∧ m ds S = .ok d S' ∧ FinE K g f H d S' Q

/-- a def keeps its promise wherever nothing is being shown (repr) -/
structure FnG (P : Program) (w : World) (K : PySem.W.Frag) (mg : Str → Option Value) (base : Heap) (CX : CXT) (k : Nat) (a : Addr) (fd : FuncData) (ps : List Str) (sp : Sp) : Prop where
  many : ∀ vs H Q E, sp vs H Q E → vs.length = ps.length
  go : ∀ (A : Around) (out : List Env) (s : Shared) (H : Hp) (ar : Args) (us : List Value) (vs : List V) (Q : VK) (E : XK),
    A.guards = some [] → Room k A → Env0 P w K mg base A out s H → BindsTo s fd ar (ps.zip us) → Vals vs us → sp vs H Q E →
      codeAny (model P w) A (.call (.ref a) ar) (CR CX out P w H s Q E) s

section
variable {X : Cx} {CX : CXT} {k n : Nat} {a : Addr} {fd : FuncData} {ps : List Str} {sp : Sp} {E : XK}
theorem FnG.run {pins : List (Addr × Obj)} {σ : L2.St} {H : Hp} {s : Shared} {Q : VK} {us : List Value} {vs : List V} {kw : List (Str × Value)} {all : List Value} (F : FnG X.prog X.w X.K X.mg X.base CX k a fd ps sp)
    (hg : X.A.guards = some []) (hr : Room k X.A) (hb : all.length = ps.length → BindsTo s fd ⟨us, kw⟩ (ps.zip all)) (hx : Passes CX X E) (I : Inv X pins σ H s) (r : Vals vs all) (h : sp vs H Q E) :
    wpAny (model X.prog X.w) X.A (call (.ref a) us kw) (EP X pins σ Q) X.xe s := by
  have hl : all.length = ps.length := r.length ▸ F.many _ _ _ _ h
  refine wpAny_call ?_
  refine codeAny_mono (F.go X.A X.stack s H _ all vs Q E hg hr I.env0 (hb hl) r h) ?_
  intro q s' hq
  match q, hq with
  | .error e, hq => exact hx pins σ H s e s' I hq
  | .ok (.ret u), hq => exact I.after hq
  | .ok .next, hq => exact hq.elim
  | .ok .brk, hq => exact hq.elim
  | .ok .cont, hq => exact hq.elim

/-- the meaning of a call: the written arguments, the defaults -/
def mCall (m : MF) (n : Nat) (dv : List D) (l : MA) : ME := fun ρ S => (l ρ S).bind fun ds S1 => if (ds ++ dv).length = n then m (ds ++ dv) S1 else .bad
theorem call_of {m : MF} {dv : List D} {dvs : List V} {l : MA} {σ : L2.St} {H : Hp} {Q : VK} {E : XK} (hd : ∀ K g f H, RelDs K g f H dv dvs) (q : tE X.K (mCall m n dv l) σ H Q) : tCall (spM X.K n m) dvs E (tA X.K l) σ H Q := by
  obtain ⟨g, w, o, ρ, S, d, S', s, hm, q⟩ := q
  obtain ⟨ds, S1, h1, hm⟩ := R.bind_ok hm
  split at hm
  · rename_i hl
    refine ⟨g, w, o, ρ, S, ds, S1, s, h1, fun vs g1 H1 x1 s1 r1 => ?_⟩
    have r2 := RelDs.append r1 (hd X.K g1 (w ++ o) H1)
    refine ⟨by rw [← r2.length]; exact hl, g1, w ++ o, ds ++ dv, S1, d, S', fun b hb => x1.live b (s.liv b hb), s1, r2, hm, fun v g2 H2 x2 s2 r3 => q v g2 H2 (x1.trans x2) s2 r3⟩
  · cases hm
variable {x : Str} {p pos : Pos} {e : Expr} {es : List Expr} {l : MA} {m : MF} {dv : List D} {dvs : List V} {dws : List Value}
/-- f(e, ..) -/
theorem em_call (F : FnG X.prog X.w X.K X.mg X.base CX0 k a fd ps (spM X.K n m)) (hgd : X.A.guards = some []) (hr : Room k X.A) (hg : Gl X x) (hm : X.mg x = some (.ref a)) (hk : PySem.W.keepIn X.K (.ref a) = true) (hb : Binds X.K fd ps dws) (hd : Vals dvs dws)
    (hdd : ∀ K g f H, RelDs K g f H dv dvs) (ha : AM X (e :: es) l) (hdb : (x == ("__debug__" : Str)) = false := by decide) (he : starEach (e :: es) X.env = (false, eval e X.env) :: starEach es X.env := by rfl)
    (hpl : (backTo pos (starEach es X.env)).any (·.1) = false := by rfl) : EM X (.Call (.Name x p) (e :: es) [] pos) (mCall m n dv l) := by
  refine ⟨fun pins s σ H Q I h => ?_⟩
  have h := call_of (E := E0) hdd h
  refine wpAny_Call_Name_kw (ld_glob I hg hm (PySem.W.callWith_K (h₀ := X.base) I.ok.mod.kin hk ?_ he hpl) hdb)
  refine thn (PA.run ha pos pins s σ H _ I h) fun us s1 ⟨vs, H1, I1, r, q⟩ => ⟨I1.kIn, ?_⟩
  exact F.run hgd hr (hb s1 us I1.kIn) pass0 I1 (r.append hd) q
theorem em_call0 (F : FnG X.prog X.w X.K X.mg X.base CX0 k a fd ps (spM X.K n m)) (hgd : X.A.guards = some []) (hr : Room k X.A) (hg : Gl X x) (hm : X.mg x = some (.ref a)) (hk : PySem.W.keepIn X.K (.ref a) = true) (hb : Binds X.K fd ps dws) (hd : Vals dvs dws)
    (hdd : ∀ K g f H, RelDs K g f H dv dvs) (hdb : (x == ("__debug__" : Str)) = false := by decide) : EM X (.Call (.Name x p) [] [] pos) (mCall m n dv aNil) := by
  refine ⟨fun pins s σ H Q I h => ?_⟩
  obtain ⟨g, w, o, ρ, S, d, S', s1, hq, q⟩ := h
  refine wpAny_Call_Name_kw (ld_glob I hg hm (PySem.W.callWith_K0 I.kIn hk ?_) hdb)
  have hq : (if dv.length = n then m dv S else .bad) = .ok d S' := hq
  split at hq
  · rename_i hl
    have r2 := hdd X.K g (w ++ o) H
    exact F.run (vs := dvs) (us := []) hgd hr (hb s [] I.kIn) pass0 I hd ⟨by rw [← r2.length]; exact hl, g, w ++ o, dv, S, d, S', s1.liv, s1.sto, r2, hq, q⟩
  · cases hq
/-- keywords' values, from the left -/
def KM (X : Cx) (kws : List Keyword) (m : MA) : Prop := PK X kws (tA X.K m)
theorem PK.of {kws : List Keyword} {t t' : TA} (h : PK X kws t) (i : ∀ σ H Q, t' σ H Q → t σ H Q) : PK X kws t' := ⟨fun pos pins s σ H Q I q => h.run pos pins s σ H Q I (i σ H Q q)⟩
theorem km_nil : KM X [] aNil := PK.of pk_nil fun σ H Q ⟨g, w, o, ρ, S, ds, S', s, hm, q⟩ => by
  cases hm
  exact q [] g H .refl s.sto rfl
theorem km_cons {kws : List Keyword} {nm : Option Str} {kpos : Pos} {me : ME} (ha : EM X e me) (hr : KM X kws l) : KM X (⟨nm, e, kpos⟩ :: kws) (aCons me l) := PK.of (pk_cons ha hr) fun σ H Q ⟨g, w, o, ρ, S, ds, S', s, hm, q⟩ => by
  obtain ⟨d, S1, h1, hm⟩ := R.bind_ok hm
  obtain ⟨dr, S2, h2, hm⟩ := R.bind_ok hm
  cases hm
  refine ⟨g, w, o, ρ, S, d, S1, s, h1, fun v g1 H1 x1 s1 r1 => ?_⟩
  refine ⟨g1, w, o, ρ, S1, dr, _, s.ext x1 s1, h2, fun vs g2 H2 x2 s2 r2 => ?_⟩
  exact q (v :: vs) g2 H2 (x1.trans x2) s2 ⟨v, vs, rfl, RelD.ext x2 d v r1, r2⟩
/-- how names bind: the places that the positional values and the keywords' ones take -/
structure Mix (fd : FuncData) (ps ks : List Str) (np : Nat) (pick : ∀ {α : Type}, List α → List α → List α) : Prop where
  to : ∀ us ws : List Value, us.length = np → ws.length = ks.length → bindArgs fd ⟨us, ks.zip ws⟩ = pure (ps.zip (pick us ws))
  map : ∀ (vs zs : List V) (us ws : List Value), Vals vs us → Vals zs ws → us.length = np → ws.length = ks.length → Vals (pick vs zs) (pick us ws)
  rel : ∀ (K : PySem.W.Frag) (g f : List Addr) (H : Hp) (ds es : List D) (vs zs : List V), RelDs K g f H ds vs → RelDs K g f H es zs → ds.length = np → es.length = ks.length → RelDs K g f H (pick ds es) (pick vs zs)
def mCallK (m : MF) (n np nk : Nat) (pick : List D → List D → List D) (l lk : MA) : ME := fun ρ S => (l ρ S).bind fun ds S1 => (lk ρ S1).bind fun es S2 =>
  if ds.length = np ∧ es.length = nk ∧ (pick ds es).length = n then m (pick ds es) S2 else .bad
variable {kws : List Keyword} {ks : List Str} {lk : MA} {np : Nat} {pick : ∀ {α : Type}, List α → List α → List α}
theorem em_callK (F : FnG X.prog X.w X.K X.mg X.base CX0 k a fd ps (spM X.K n m)) (hgd : X.A.guards = some []) (hr : Room k X.A) (hg : Gl X x) (hm : X.mg x = some (.ref a)) (hk : PySem.W.keepIn X.K (.ref a) = true) (hb : Mix fd ps ks np pick)
    (ha : AM X (e :: es) l) (hkw : KM X kws lk) (hall : (backToKw pos (keywordEach kws X.env)).all (·.1.isSome) = true := by rfl) (hks : (backToKw pos (keywordEach kws X.env)).filterMap (·.1) = ks := by rfl)
    (hdb : (x == ("__debug__" : Str)) = false := by decide) (he : starEach (e :: es) X.env = (false, eval e X.env) :: starEach es X.env := by rfl)
    (hpl : ((backTo pos (starEach (e :: es) X.env)).any (·.1) || (backToKw pos (keywordEach kws X.env)).any (·.1.isNone)) = false := by rfl) :
    EM X (.Call (.Name x p) (e :: es) kws pos) (mCallK m n np ks.length pick l lk) := by
  refine ⟨fun pins s σ H Q I ⟨g, w, o, ρ, S, d, S', st, hq, q⟩ => ?_⟩
  obtain ⟨ds, S1, h1, hq⟩ := R.bind_ok hq
  obtain ⟨ds2, S2, h2, hq⟩ := R.bind_ok hq
  split at hq
  · rename_i hl
    obtain ⟨l1, l2, l3⟩ := hl
    refine wpAny_Call_Name_kw (ld_glob I hg hm (PySem.W.callWith_KW (h₀ := X.base) I.ok.mod.kin hk hall ?_ hpl he) hdb)
    refine thn (PA.run ha pos pins s σ H _ I ⟨g, w, o, ρ, S, ds, S1, st, h1, fun vs g1 H1 x1 s1 r1 => (⟨g1, H1, rfl, x1, s1, r1⟩ : ∃ g1 H2, H1 = H2 ∧ Ext g H g1 H2 ∧ RelS X.K g1 (w ++ o) H2 S1 ∧ RelDs X.K g1 (w ++ o) H2 ds vs)⟩) fun us s1 ⟨vs, H1, I1, r, g1, H1', e1, x1, t1, r1⟩ => ?_
    subst e1
    refine thn (PK.run hkw pos pins s1 σ H1 _ I1 ⟨g1, w, o, ρ, S1, ds2, S2, st.ext x1 t1, h2, fun zs g2 H2 x2 s2 r2 => (⟨g2, H2, rfl, x2, s2, r2⟩ : ∃ g2 H3, H2 = H3 ∧ Ext g1 H1 g2 H3 ∧ RelS X.K g2 (w ++ o) H3 S2 ∧ RelDs X.K g2 (w ++ o) H3 ds2 zs)⟩) fun ws s2 ⟨zs, H2, I2, rz, g2, H2', e2, x2, t2, r2⟩ => ⟨I2.kIn, ?_⟩
    subst e2
    rw [hks]
    have u1 : us.length = np := by rw [← r.length, ← r1.length]; exact l1
    have u2 : ws.length = ks.length := by rw [← rz.length, ← r2.length]; exact l2
    have rr := hb.rel X.K g2 (w ++ o) H2 ds ds2 vs zs (RelDs.ext x2 ds vs r1) r2 l1 l2
    refine F.run hgd hr (fun _ => .of_eq (hb.to us ws u1 u2)) pass0 I2 (hb.map vs zs us ws r rz u1 u2) ⟨by rw [← rr.length]; exact l3, g2, w ++ o, pick ds ds2, S2, d, S', fun b hbm => x2.live b (x1.live b (st.liv b hbm)), t2, rr, hq, ?_⟩
    exact fun v g3 H3 x3 s3 r3 => q v g3 H3 ((x1.trans x2).trans x3) s3 r3
  · cases hq
theorem em_callK0 (F : FnG X.prog X.w X.K X.mg X.base CX0 k a fd ps (spM X.K n m)) (hgd : X.A.guards = some []) (hr : Room k X.A) (hg : Gl X x) (hm : X.mg x = some (.ref a)) (hk : PySem.W.keepIn X.K (.ref a) = true) (hb : Mix fd ps ks 0 pick)
    (hkw : KM X kws lk) (hall : (backToKw pos (keywordEach kws X.env)).all (·.1.isSome) = true := by rfl) (hks : (backToKw pos (keywordEach kws X.env)).filterMap (·.1) = ks := by rfl)
    (hdb : (x == ("__debug__" : Str)) = false := by decide) (hpl : ((backTo pos (starEach [] X.env)).any (·.1) || (backToKw pos (keywordEach kws X.env)).any (·.1.isNone)) = false := by rfl) :
    EM X (.Call (.Name x p) [] kws pos) (mCallK m n 0 ks.length pick aNil lk) := by
  refine ⟨fun pins s σ H Q I ⟨g, w, o, ρ, S, d, S', st, hq, q⟩ => ?_⟩
  obtain ⟨ds, S1, h1, hq⟩ := R.bind_ok hq
  cases h1
  obtain ⟨ds2, S2, h2, hq⟩ := R.bind_ok hq
  split at hq
  · rename_i hl
    obtain ⟨l1, l2, l3⟩ := hl
    refine wpAny_Call_Name_kw (ld_glob I hg hm (PySem.W.callWith_KW0 (h₀ := X.base) I.ok.mod.kin hk hall ?_ hpl) hdb)
    refine thn (PK.run hkw pos pins s σ H _ I ⟨g, w, o, ρ, _, ds2, S2, st, h2, fun zs g2 H2 x2 s2 r2 => (⟨g2, H2, rfl, x2, s2, r2⟩ : ∃ g2 H3, H2 = H3 ∧ Ext g H g2 H3 ∧ RelS X.K g2 (w ++ o) H3 S2 ∧ RelDs X.K g2 (w ++ o) H3 ds2 zs)⟩) fun ws s2 ⟨zs, H2, I2, rz, g2, H2', e2, x2, t2, r2⟩ => ⟨I2.kIn, ?_⟩
    subst e2
    rw [hks]
    have u2 : ws.length = ks.length := by rw [← rz.length, ← r2.length]; exact l2
    have rr := hb.rel X.K g2 (w ++ o) H2 [] ds2 [] zs rfl r2 rfl l2
    refine F.run (us := []) hgd hr (fun _ => .of_eq (hb.to [] ws rfl u2)) pass0 I2 (hb.map [] zs [] ws .nil rz rfl u2) ⟨by rw [← rr.length]; exact l3, g2, w ++ o, pick [] ds2, S2, d, S', fun b hbm => x2.live b (st.liv b hbm), t2, rr, hq, ?_⟩
    exact fun v g3 H3 x3 s3 r3 => q v g3 H3 (x2.trans x3) s3 r3
  · cases hq
end

/-! ### defs -/
/-- the meaning of a def by its body's: N names, the parameters ahead -/
def mDef (N : Nat) (b : MS) : MF := fun ds S => (b (ds.map (fun d => some (.val d)) ++ List.replicate (N - ds.length) none) S).bind fun fl S1 => match fl with
  | .rt d => .ok d S1
  | .nx _ => .ok .non S1
  | _ => .bad
theorem start_get {ds : List D} {n i : Nat} {d : Slot} (h : (ds.map (fun d => some (Slot.val d)) ++ List.replicate n none)[i]? = some (some d)) : ∃ e, ds[i]? = some e ∧ d = .val e := by
  rcases Nat.lt_or_ge i ds.length with q | q
  · rw [List.getElem?_append_left (by simpa using q), List.getElem?_map] at h
    cases e : ds[i]? with
    | none => rw [e] at h; cases h
    | some x => rw [e] at h; cases h; exact ⟨x, rfl, rfl⟩
  · rw [List.getElem?_append_right (by simpa using q)] at h
    rw [List.getElem?_replicate] at h
    split at h <;> cases h
theorem Sta.start {K : PySem.W.Frag} {g f : List Addr} {ds : List D} {S : Store} {H : Hp} {N : List Str} {vs : List V} (hf : ∀ a ∈ f, H a ≠ none) (s : RelS K g f H S) (r : RelDs K g f H ds vs) :
    Sta K g f [] (ds.map (fun d => some (.val d)) ++ List.replicate (N.length - ds.length) none) S (L2.start N vs) H where
  len := by
    unfold L2.start
    rw [List.length_append, List.length_append, List.length_map, List.length_map, List.length_replicate, List.length_replicate, r.length]
  val := fun i d h => by
    obtain ⟨e, h1, h2⟩ := start_get h
    cases h2
    obtain ⟨v, e1, q⟩ := r.get h1
    refine ⟨v, ?_, by rw [List.append_nil]; exact q⟩
    unfold L2.start
    have hl : i < vs.length := by
      rcases Nat.lt_or_ge i vs.length with z | z
      · exact z
      · rw [List.getElem?_eq_none z] at e1; cases e1
    rw [List.getElem?_append_left (by simpa using hl), List.getElem?_map, e1]
    rfl
  own := fun i c h => by
    obtain ⟨e, h1, h2⟩ := start_get h
    cases h2
  inj := fun i j c d a h _ _ _ => by
    obtain ⟨e, h1, h2⟩ := start_get h
    cases h2
  out := fun a h => nomatch h
  liv := fun a h => by rw [List.append_nil] at h; exact hf a h
  sto := by rw [List.append_nil]; exact s

section
variable {P : Program} {w : World} {K : PySem.W.Frag} {mg : Str → Option Value} {base : Heap}
theorem def_start {N ps : List Str} {b : MS} {X : Cx} {body : List Stmt} {Q : VK} {E : XK} {vs : List V} {H : Hp} (hX : X.K = K) (hb : SsM X body b) (h : spM K ps.length (mDef N.length b) vs H Q E) :
    ∃ t, PSs X body t ∧ t { nx := fun _ H' => Q .non H', rt := Q } (start N vs) H := by
  subst hX
  obtain ⟨hl, g, f, ds, S, d, S', hf, s, r, hm, q⟩ := h
  obtain ⟨fl, S1, h1, hm⟩ := R.bind_ok hm
  refine ⟨_, hb, g, f, [], _, S, fl, S1, Sta.start hf s r, h1, fun g1 o1 H1 x1 => ?_⟩
  cases fl with
  | rt v => cases hm; exact fun v t rr => q v g1 H1 x1.ext t rr
  | nx ρ => cases hm; exact fun σ st => q .non g1 H1 x1.ext (st.sto.less fun b hb => List.mem_append_left _ hb) rfl
  | bk ρ => cases hm
  | ct ρ => cases hm
/-- THE RULE for a def -/
theorem def_ok {x qual : Str} {st : Stmt} {a : Addr} {fd : FuncData} {N ps : List Str} {k : Nat} {b : MS} (F : Fun K x qual st a fd) (S : FnScope N ps (defScope st))
    (hb : ∀ (cdv : Value) (A : Around) (out : List Env) (s : Shared) (H : Hp) (E : XK), (A.deeper (envOfC qual (defScope st) s.heap.objs.size a cdv)).guards = some [] → Room k (A.deeper (envOfC qual (defScope st) s.heap.objs.size a cdv)) →
      SsM (cxOf CX0 P w K mg base N qual (defScope st) a cdv A out s H E).nox (defBody st) b) : FnG P w K mg base CX0 (k + 1) a fd ps (spM K ps.length (mDef N.length b)) := by
  refine ⟨fun vs H Q E h => h.1, ?_⟩
  intro A out s H ar us vs Q E hgd hr e0 hbi rv hsp
  obtain ⟨oc, od, kV, doc, pm, an, cdv, ct, osl, rfl, lk, hcd⟩ := F.ex
  have hl : vs.length = ps.length := hsp.1
  have hK : K.In s.heap := e0.mod.kin.keeps fun b o e => (e0.bs b o e).1
  have hlim : s.heap.NoLimit := e0.mod.nolimit.keeps fun b o e => (e0.bs b o e).1
  refine codeAny_call_function hr.depth (hK _ _ lk) rfl S.co S.gen rfl (PySem.W.codeRec_of hK hcd) (hbi _ _ _ _ ?_)
  have kinds : ∀ y ∈ ps.zip us, (defScope st).names.lookup y.1 = some .local ∨ ((defScope st).names.lookup y.1 = some .cell ∧ ((cellsFrom (s.heap.objs.size + 1) (defScope st).names []).lookup y.1).isSome = true) := by
    rintro ⟨nm, v⟩ hy
    exact (S.par nm (List.of_mem_zip hy).1).imp id fun q => ⟨q, PySem.W.cellsFrom_some _ _ _ (.inl q)⟩
  refine wpAny_newFunctionEnv_cells S.kind kinds fun en hen s1 ic => ?_
  subst hen
  refine ⟨hlim.keeps ic.toInCall.keep, codeAny_func ?_⟩
  obtain ⟨t, ht, hq⟩ := def_start (N := N) (ps := ps) (K := K) rfl (hb cdv A out s H E hgd (hr.deeper _)) hsp
  have I := inv_start (CX := CX0) (mg := mg) (E := E) S hr.hd e0 hl rv ic
  refine wpAny_mono ((PSs.nox ht).run [] s1 (start N vs) H _ I hq) (fun fl s' hs => ?_) fun _ _ q => q
  match fl, hs with
  | .ret u, ⟨v, σ', H', J, rr, q⟩ => exact ⟨v, H', J.os, J.bare, J.base, J.hok, rr, q⟩
  | .next, ⟨σ', H', J, q⟩ => exact ⟨V.non, H', J.os, J.bare, J.base, J.hok, rfl, q⟩
  | .brk, ⟨_, _, _, q⟩ => exact q.elim
  | .cont, ⟨_, _, _, q⟩ => exact q.elim
end
end Mo
set_option maxRecDepth 100000
set_option maxHeartbeats 1000000
/-! Mo: targets, loops, comprehensions. -/
namespace Mo
open PySem PySem.Spec PyProof.Rows L2

/-! ### targets -/
inductive Pat where
  | nm (i : Nat)
  | tp (ps : List Pat)
mutual
def Pat.bind : Pat → D → Option (List (Nat × D))
  | .nm i, d => some [(i, d)]
  | .tp ps, .tup l => Pat.binds ps l
  | .tp _, _ => none
def Pat.binds : List Pat → List D → Option (List (Nat × D))
  | [], [] => some []
  | p :: ps, d :: ds => match Pat.bind p d, Pat.binds ps ds with
    | some a, some b => some (a ++ b)
    | _, _ => none
  | [], _ :: _ => none
  | _ :: _, [] => none
end
mutual
def Pat.ixs : Pat → List Nat
  | .nm i => [i]
  | .tp ps => Pat.ixsAll ps
def Pat.ixsAll : List Pat → List Nat
  | [] => []
  | p :: ps => Pat.ixs p ++ Pat.ixsAll ps
end
mutual
theorem Pat.bind_ixs : ∀ (p : Pat) (d : D) (l : List (Nat × D)), p.bind d = some l → l.map (·.1) = p.ixs
  | .nm i, d, l, h => by unfold Pat.bind at h; cases h; simp [Pat.ixs]
  | .tp ps, d, l, h => by
    cases d <;> unfold Pat.bind at h <;> first | cases h; done | skip
    unfold Pat.ixs
    exact Pat.binds_ixs ps _ l h
theorem Pat.binds_ixs : ∀ (ps : List Pat) (ds : List D) (l : List (Nat × D)), Pat.binds ps ds = some l → l.map (·.1) = Pat.ixsAll ps
  | [], [], l, h => by unfold Pat.binds at h; cases h; simp [Pat.ixsAll]
  | p :: ps, d :: ds, l, h => by
    unfold Pat.binds at h
    split at h
    · rename_i a b ha hb
      cases h
      rw [List.map_append, Pat.bind_ixs p d a ha, Pat.binds_ixs ps ds b hb]
      rw [Pat.ixsAll]
    · cases h
  | [], _ :: _, l, h => by unfold Pat.binds at h; cases h
  | _ :: _, [], l, h => by unfold Pat.binds at h; cases h
end
def setA {α : Type} (f : α → Option β) (σ : List (Option β)) : List (Nat × α) → List (Option β)
  | [] => σ
  | (i, x) :: r => setA f (σ.set i (f x)) r
abbrev setV (σ : L2.St) (l : List (Nat × V)) : L2.St := setA some σ l
abbrev setD (ρ : MEnv) (l : List (Nat × D)) : MEnv := setA (fun d => some (.val d)) ρ l
theorem setA_append {α β : Type} (f : α → Option β) : ∀ (σ : List (Option β)) (l m : List (Nat × α)), setA f σ (l ++ m) = setA f (setA f σ l) m
  | _, [], _ => rfl
  | σ, (i, x) :: r, m => setA_append f (σ.set i (f x)) r m

/-- to each slot its value -/
def RelIx (K : PySem.W.Frag) (g f : List Addr) (H : Hp) : List (Nat × D) → List (Nat × V) → Prop
  | [], vs => vs = []
  | p :: ps, vs => ∃ v r, vs = (p.1, v) :: r ∧ RelD K g f H p.2 v ∧ RelIx K g f H ps r
theorem RelIx.append {K : PySem.W.Frag} {g f : List Addr} {H : Hp} : ∀ {l m : List (Nat × D)} {vs us : List (Nat × V)}, RelIx K g f H l vs → RelIx K g f H m us → RelIx K g f H (l ++ m) (vs ++ us)
  | [], _, _, _, h, q => by cases h; exact q
  | p :: ps, _, _, _, ⟨v, r, e, h, t⟩, q => by
    subst e
    exact ⟨v, _, rfl, h, RelIx.append t q⟩
theorem RelIx.fst {K : PySem.W.Frag} {g f : List Addr} {H : Hp} : ∀ {l : List (Nat × D)} {vs : List (Nat × V)}, RelIx K g f H l vs → vs.map (·.1) = l.map (·.1)
  | [], _, h => by cases h; rfl
  | p :: ps, _, ⟨v, r, e, _, t⟩ => by subst e; rw [List.map_cons, List.map_cons, RelIx.fst t]
theorem Sta.setA {K : PySem.W.Frag} {g w o : List Addr} {S : Store} {H : Hp} : ∀ {l : List (Nat × D)} {vs : List (Nat × V)} {ρ : MEnv} {σ : L2.St}, Sta K g w o ρ S σ H → RelIx K g (w ++ o) H l vs → Sta K g w o (setD ρ l) S (setV σ vs) H
  | [], _, _, _, s, h => by cases h; exact s
  | (i, d) :: ps, _, ρ, σ, s, ⟨v, r, e, h, t⟩ => by
    subst e
    exact Sta.setA (ρ := ρ.set i (some (.val d))) (σ := σ.set i (some v)) (s.set h) t
def tG (K : PySem.W.Frag) (p : Pat) : TG := fun v σ H Q => ∃ g f d l, RelD K g f H d v ∧ p.bind d = some l ∧ ∀ vs, RelIx K g f H l vs → Q (setV σ vs) H
def tGs (K : PySem.W.Frag) (ps : List Pat) : TGs := fun vs σ H Q => ∃ g f ds l, RelDs K g f H ds vs ∧ Pat.binds ps ds = some l ∧ ∀ us, RelIx K g f H l us → Q (setV σ us) H
def GM (X : Cx) (tg : Expr) (p : Pat) : Prop := PG X tg (tG X.K p)
def GsM (X : Cx) (tgs : List Expr) (ps : List Pat) : Prop := PGs X tgs (tGs X.K ps)
section
variable {X : Cx} {tg e iter : Expr} {tgs body : List Expr} {p : Pat} {ps : List Pat} {pos : Pos}
theorem PG.of {t t' : TG} (h : PG X tg t) (i : ∀ v σ H Q, t' v σ H Q → t v σ H Q) : PG X tg t' := ⟨fun pins s σ H v u Q I r q => h.run pins s σ H v u Q I r (i v σ H Q q)⟩
theorem PGs.of {t t' : TGs} (h : PGs X tgs t) (i : ∀ v σ H Q, t' v σ H Q → t v σ H Q) : PGs X tgs t' := ⟨fun pins s σ H v u Q I r q => h.run pins s σ H v u Q I r (i v σ H Q q)⟩
theorem gm_name {i : Nat} (h : PG X tg (gName i)) : GM X tg (.nm i) := PG.of h fun v σ H Q ⟨g, f, d, l, r, hb, q⟩ => by
  unfold Pat.bind at hb
  cases hb
  exact q [(i, v)] ⟨v, [], rfl, r, rfl⟩
theorem gsm_nil : GsM X [] [] := PGs.of pgs_nil fun vs σ H Q ⟨g, f, ds, l, r, hb, q⟩ => by
  cases ds with
  | nil =>
    unfold Pat.binds at hb
    cases hb
    cases r
    exact ⟨rfl, q [] rfl⟩
  | cons d ds => unfold Pat.binds at hb; cases hb
theorem gsm_cons (h1 : GM X tg p) (h2 : GsM X tgs ps) (hs : (assignEach (tg :: tgs) X.env).map (·.2) = assign tg X.env :: (assignEach tgs X.env).map (·.2) := by rfl) : GsM X (tg :: tgs) (p :: ps) := PGs.of (pgs_cons h1 h2 hs) fun vs σ H Q ⟨g, f, ds, l, r, hb, q⟩ => by
  cases ds with
  | nil => unfold Pat.binds at hb; cases hb
  | cons d ds =>
    obtain ⟨v, rr, e, r1, r2⟩ := r
    unfold Pat.binds at hb
    split at hb
    · rename_i a b ha hb'
      cases hb
      refine ⟨v, rr, e, g, f, d, a, r1, ha, fun us1 ru1 => ⟨g, f, ds, b, r2, hb', fun us2 ru2 => ?_⟩⟩
      have := q (us1 ++ us2) (ru1.append ru2)
      unfold setV at this
      rw [setA_append] at this
      exact this
    · cases hb
theorem gm_tup {k : Nat} (hc : X.calm = true) (h : GsM X tgs ps) (hn : (assignEach tgs X.env).length = ps.length := by rfl) (hst : (assignEach tgs X.env).findIdx? (·.1) = none := by rfl) : GM X (.Tuple tgs k pos) (.tp ps) := PG.of (pg_tup hc h hn hst) fun v σ H Q ⟨g, f, d, l, r, hb, q⟩ => by
  cases d <;> unfold Pat.bind at hb <;> first | cases hb; done | skip
  rename_i ds
  obtain ⟨a, vs, e, hq, rd⟩ := r
  refine ⟨a, vs, e, hq, ?_, g, f, ds, l, rd, hb, q⟩
  rw [← rd.length]
  have len : ∀ (ps : List Pat) (ds : List D) (l : List (Nat × D)), Pat.binds ps ds = some l → ds.length = ps.length := by
    intro ps
    induction ps with
    | nil => intro ds l h; cases ds with
      | nil => rfl
      | cons _ _ => unfold Pat.binds at h; cases h
    | cons p ps ih => intro ds l h; cases ds with
      | nil => unfold Pat.binds at h; cases h
      | cons d ds =>
        unfold Pat.binds at h
        split at h
        · rename_i b ha hb
          rw [List.length_cons, List.length_cons, ih ds _ hb]
        · cases h
  exact len ps ds l hb
/-- target = e -/
def mAsg (p : Pat) (m : ME) : MS := fun ρ S => (m ρ S).bind fun d S1 => match p.bind d with
  | some l => .ok (.nx (setD ρ l)) S1
  | none => .bad
theorem sm_asg {st : Stmt} {me : ME} (h : PS X st (tAsg (tE X.K me) (tG X.K p))) : SM X st (mAsg p me) := PS.of h fun E σ H ⟨g, w, o, ρ, S, fl, S', s, hm, q⟩ => by
  obtain ⟨d, S1, e1, hm⟩ := R.bind_ok hm
  split at hm
  · rename_i l hl
    cases hm
    exact ⟨g, w, o, ρ, S, d, _, s, e1, fun v g1 H1 x1 s1 r1 => ⟨g1, w ++ o, d, l, r1, hl, fun vs rv => q g1 o H1 x1.s _ ((s.ext x1 s1).setA rv)⟩⟩
  · cases hm
end

/-! ### what is walked -/
section
variable {K : PySem.W.Frag} {g g' g1 w o o1 f : List Addr} {H H' H1 : Hp}
theorem ExtS.out (x : ExtS g o H g' o1 H') {a : Addr} (h1 : a ∉ g) (h3 : H a ≠ none) : a ∉ g' := by
  obtain ⟨ns, e, h⟩ := x.more
  rw [e]
  intro q
  rcases List.mem_append.mp q with q | q
  · exact h1 q
  · exact h3 (h a q)
theorem RestL.extS {a : Addr} {vs : List V} (x : ExtS g o H g' o1 H') (h : RestL g (w ++ o) H a vs) : RestL g' (w ++ o1) H' a vs := by
  have hl : H a ≠ none := by rw [h.2.2]; simp
  have ho : a ∉ o := fun m => h.2.1 (List.mem_append_right _ m)
  refine ⟨x.out h.1 hl, fun m => ?_, x.keep a _ h.2.2 h.1 ho⟩
  rcases List.mem_append.mp m with m | m
  · exact h.2.1 (List.mem_append_left _ m)
  · exact (x.lam a m).elim ho hl
theorem ScrL.extS {a : Addr} {vs : List V} (x : ExtS g o H g' o1 H') (h : ScrL K g (w ++ o) H a vs) : ScrL K g' (w ++ o1) H' a vs := by
  rcases h with ⟨h1, h2, h3⟩ | h
  · have ho : a ∉ o := fun m => h2 (List.mem_append_right _ m)
    have kp : ∀ u, H a = some u → H' a = some u := fun u e => x.keep a u e h1 ho
    refine .inl ⟨x.out h1 (Rd.live h3), fun m => ?_, ?_⟩
    · rcases List.mem_append.mp m with m | m
      · exact h2 (List.mem_append_left _ m)
      · rcases x.lam a m with z | z
        · exact ho z
        · exact Rd.live h3 z
    · rcases h3 with h3 | ⟨ob, h3⟩
      · exact .inl (kp _ h3)
      · exact .inr ⟨ob, kp _ h3⟩
  · exact .inr h
theorem ExtS.get (x : ExtS g o H g' o1 H') {n : Nat} {a : Addr} (h : g[n]? = some a) : g'[n]? = some a := by
  obtain ⟨ns, e, _⟩ := x.more
  have hl : n < g.length := by
    rcases Nat.lt_or_ge n g.length with q | q
    · exact q
    · rw [List.getElem?_eq_none q] at h; cases h
  rw [e, List.getElem?_append_left hl]
  exact h
theorem SqT.extS {a : Addr} {vs : List V} (x : ExtS g o H g' o1 H') (h : SqT K H a vs) : SqT K H' a vs := by
  rcases h with h | h
  · exact .inl (x.tups a vs h)
  · exact .inr h
mutual
theorem RelD.extS (x : ExtS g o H g' o1 H') : ∀ (d : D) (v : V), RelD K g (w ++ o) H d v → RelD K g' (w ++ o1) H' d v
  | .non, _, h => h
  | .bl _, _, h => h
  | .int _, _, h => h
  | .str _, _, h => h
  | .raw _, _, h => h
  | .tup l, _, ⟨a, vs, e, q, r⟩ => ⟨a, vs, e, SqT.extS x q, RelDs.extS x l vs r⟩
  | .lst l, _, ⟨a, vs, e, q, r⟩ => ⟨a, vs, e, q.extS x, RelDs.extS x l vs r⟩
  | .loc n, _, ⟨a, e, q⟩ => ⟨a, e, x.get q⟩
  | .scr l, _, ⟨a, e, q⟩ => ⟨a, e, q.extS x⟩
theorem RelDs.extS (x : ExtS g o H g' o1 H') : ∀ (l : List D) (vs : List V), RelDs K g (w ++ o) H l vs → RelDs K g' (w ++ o1) H' l vs
  | [], _, h => h
  | d :: ds, _, ⟨v, r, e, q, t⟩ => ⟨v, r, e, RelD.extS x d v q, RelDs.extS x ds r t⟩
end
/-- a later heap in which nothing that stood has changed -/
def Grow (K : PySem.W.Frag) (g : List Addr) (H H' : Hp) : Prop := Ext g H g H' ∧ ∀ f S, RelS K g f H S → RelS K g f H' S
theorem Grow.refl : Grow K g H H := ⟨.refl, fun _ _ h => h⟩
theorem Grow.new {p : Addr} {u : HO} (h : H p = none) : Grow K g H (upd H p u) := ⟨.new h, fun _ _ s => s.new h⟩
/-- the iterator gives the items of l, in order, whatever is done between -/
structure Walks (K : PySem.W.Frag) (g w o : List Addr) (H : Hp) (J : It) (l : List D) : Prop where
  item : ∀ i d g1 o1 H1, l[i]? = some d → ExtS g o H g1 o1 H1 → J.go i H1 ∧ ∀ x H2, J.yld i H1 x H2 → Grow K g1 H1 H2 ∧ RelD K g1 (w ++ o1) H2 d x
  stop : ∀ i g1 o1 H1, l.length ≤ i → ExtS g o H g1 o1 H1 → J.stop i H1
def tI (K : PySem.W.Frag) (m : ML) : TI := fun σ H R => ∃ g w o ρ S l S', Sta K g w o ρ S σ H ∧ m ρ S = .ok l S' ∧
  ∀ g' H' J, Ext g H g' H' → RelS K g' (w ++ o) H' S' → Walks K g' w o H' J l → R J H'
def IM (X : Cx) (tg iter : Expr) (m : ML) : Prop := PI X tg iter (tI X.K m)
end
section
variable {X : Cx} {tg iter e c : Expr} {p : Pat} {pos : Pos} {me : ME} {ml : ML} {mb : MS} {mc mt : MT} {body : List Stmt}
theorem PI.of {t t' : TI} (h : PI X tg iter t) (i : ∀ σ H Q, t' σ H Q → t σ H Q) : PI X tg iter t' := ⟨fun pins s σ H Q I q => h.run pins s σ H Q I (i σ H Q q)⟩
theorem lt_of_get {α : Type} {l : List α} {i : Nat} {x : α} (h : l[i]? = some x) : i < l.length := by
  rcases Nat.lt_or_ge i l.length with q | q
  · exact q
  · rw [List.getElem?_eq_none q] at h; cases h
/-- the items of a list that rests, of a tuple -/
def seqD : D → Store → R (List D)
  | .lst l, S => .ok l S
  | _, _ => .bad
def tupD : D → Store → R (List D)
  | .tup l, S => .ok l S
  | _, _ => .bad
theorem seqD_ok {d : D} {S S' : Store} {l : List D} (h : seqD d S = .ok l S') : d = .lst l ∧ S' = S := by cases d <;> cases h; exact ⟨rfl, rfl⟩
theorem tupD_ok {d : D} {S S' : Store} {l : List D} (h : tupD d S = .ok l S') : d = .tup l ∧ S' = S := by cases d <;> cases h; exact ⟨rfl, rfl⟩
def iLst (m : ME) : ML := fun ρ S => (m ρ S).bind seqD
def iTup (m : ME) : ML := fun ρ S => (m ρ S).bind tupD
theorem Walks.list {K : PySem.W.Frag} {g w o : List Addr} {H : Hp} {a : Addr} {vs : List V} {l : List D} (hr : RestL g (w ++ o) H a vs) (r : RelDs K g (w ++ o) H l vs) : Walks K g w o H (Itl K a) l where
  item := fun i d g1 o1 H1 h x => by
    have q := hr.extS x
    have r1 := RelDs.extS x l vs r
    obtain ⟨v, e, rv⟩ := r1.get h
    refine ⟨⟨vs, v, q.sq, e⟩, fun y H2 ⟨e2, hy⟩ => ?_⟩
    subst e2
    have := hy vs q.sq
    rw [e] at this
    cases this
    exact ⟨.refl, rv⟩
  stop := fun i g1 o1 H1 h x => ⟨vs, (hr.extS x).sq, by rw [← r.length]; exact h⟩
theorem Walks.tuple {K : PySem.W.Frag} {g w o : List Addr} {H : Hp} {a : Addr} {vs : List V} {l : List D} (hr : SqT K H a vs) (r : RelDs K g (w ++ o) H l vs) : Walks K g w o H (Itt K a) l where
  item := fun i d g1 o1 H1 h x => by
    have q := SqT.extS x hr
    have r1 := RelDs.extS x l vs r
    obtain ⟨v, e, rv⟩ := r1.get h
    refine ⟨⟨vs, v, q, e⟩, fun y H2 ⟨e2, hy⟩ => ?_⟩
    subst e2
    have := hy vs q
    rw [e] at this
    cases this
    exact ⟨.refl, rv⟩
  stop := fun i g1 o1 H1 h x => ⟨vs, SqT.extS x hr, by rw [← r.length]; exact h⟩
theorem im_list (h : EM X iter me) : IM X tg iter (iLst me) := PI.of (pi_list h) fun σ H Rr ⟨g, w, o, ρ, S, l, S', s, hm, q⟩ => by
  obtain ⟨d, S1, h1, h2⟩ := R.bind_ok hm
  obtain ⟨rfl, rfl⟩ := seqD_ok h2
  refine ⟨g, w, o, ρ, S, _, _, s, h1, fun v g1 H1 x1 s1 ⟨a, vs, e, hr, r⟩ => ⟨a, e, ⟨vs, hr.sq⟩, q g1 H1 _ x1 s1 (.list hr r)⟩⟩
theorem im_tup (h : EM X iter me) : IM X tg iter (iTup me) := PI.of (pi_tup h) fun σ H Rr ⟨g, w, o, ρ, S, l, S', s, hm, q⟩ => by
  obtain ⟨d, S1, h1, h2⟩ := R.bind_ok hm
  obtain ⟨rfl, rfl⟩ := tupD_ok h2
  refine ⟨g, w, o, ρ, S, _, _, s, h1, fun v g1 H1 x1 s1 ⟨a, vs, e, hr, r⟩ => ⟨a, e, ⟨vs, hr⟩, q g1 H1 _ x1 s1 (.tuple hr r)⟩⟩
/-- range -/
def rangeD (lo hi : Int) : List D := (List.range (hi - lo).toNat).map fun k => .int (lo + (k : Nat))
theorem Walks.range {K : PySem.W.Frag} {g w o : List Addr} {H : Hp} {lo : Int} {n : Nat} : Walks K g w o H (Itr lo n) ((List.range n).map fun k => .int (lo + (k : Nat))) where
  item := fun i d g1 o1 H1 h x => by
    have hi : i < n := by have := lt_of_get h; simpa using this
    refine ⟨hi, fun y H2 ⟨e2, hy⟩ => ?_⟩
    subst e2; subst hy
    rw [List.getElem?_map, List.getElem?_range hi] at h
    cases h
    exact ⟨.refl, rfl⟩
  stop := fun i g1 o1 H1 h x => by
    have : n ≤ i := by simpa using h
    exact this
def iRange1 (l : MA) : ML := fun ρ S => (l ρ S).bind fun ds S1 => match ds with
  | [.int j] => if -(2 ^ 62) ≤ j ∧ j < 2 ^ 62 then .ok (rangeD 0 j) S1 else .bad
  | _ => .bad
def iRange2 (l : MA) : ML := fun ρ S => (l ρ S).bind fun ds S1 => match ds with
  | [.int i, .int j] => if -(2 ^ 62) ≤ i ∧ i < 2 ^ 62 ∧ -(2 ^ 62) ≤ j ∧ j < 2 ^ 62 then .ok (rangeD i j) S1 else .bad
  | _ => .bad
theorem im_range1 {a : Expr} {l : MA} {p : Pos} (hg : Gl X "range") (hm : X.mg "range" = none) (ha : AM X [a] l) (hs : starEach [a] X.env = [(false, eval a X.env)] := by rfl) : IM X tg (.Call (.Name "range" p) [a] [] pos) (iRange1 l) :=
  PI.of (pi_range1 hg hm ha hs) fun σ H Rr ⟨g, w, o, ρ, S, l, S', s, hm, q⟩ => by
    obtain ⟨ds, S1, h1, h2⟩ := R.bind_ok hm
    split at h2
    · rename_i j
      split at h2
      · rename_i hj
        cases h2
        refine ⟨g, w, o, ρ, S, _, _, s, h1, fun vs g1 H1 x1 s1 ⟨v, r, e, rv, rn⟩ => ⟨j, ?_, hj.1, hj.2, q g1 H1 _ x1 s1 ?_⟩⟩
        · rw [e]; cases rv; cases rn; rfl
        · unfold rangeD; rw [Int.sub_zero]; exact .range
      · cases h2
    · cases h2
theorem im_range2 {a b : Expr} {l : MA} {p : Pos} (hg : Gl X "range") (hm : X.mg "range" = none) (ha : AM X [a, b] l) (hs : starEach [a, b] X.env = [(false, eval a X.env), (false, eval b X.env)] := by rfl)
    (hs2 : starEach [b] X.env = [(false, eval b X.env)] := by rfl) : IM X tg (.Call (.Name "range" p) [a, b] [] pos) (iRange2 l) :=
  PI.of (pi_range2 hg hm ha hs hs2) fun σ H Rr ⟨g, w, o, ρ, S, l, S', s, hm, q⟩ => by
    obtain ⟨ds, S1, h1, h2⟩ := R.bind_ok hm
    split at h2
    · rename_i i j
      split at h2
      · rename_i hj
        cases h2
        refine ⟨g, w, o, ρ, S, _, _, s, h1, fun vs g1 H1 x1 s1 ⟨v, r, e, rv, v2, r2, e2, rv2, rn⟩ => ⟨i, j, ?_, hj, q g1 H1 _ x1 s1 .range⟩⟩
        rw [e]; cases rv; subst e2; cases rv2; cases rn; rfl
      · cases h2
    · cases h2

/-! ### for -/
def mForL (p : Pat) (mb : MS) : List D → MS
  | [], ρ, S => .ok (.nx ρ) S
  | d :: ds, ρ, S => match p.bind d with
    | none => .bad
    | some l => (mb (setD ρ l) S).bind fun fl S1 => match fl with
      | .nx ρ1 => mForL p mb ds ρ1 S1
      | .ct ρ1 => mForL p mb ds ρ1 S1
      | .bk ρ1 => .ok (.nx ρ1) S1
      | .rt d => .ok (.rt d) S1
def mFor (p : Pat) (it : ML) (mb : MS) : MS := fun ρ S => (it ρ S).bind fun l S1 => mForL p mb l ρ S1
theorem sm_for (hp : PassesOwn (model X.prog X.w) X.A X.env X.xe) (hc : X.calm = true) (hi : IM X tg iter ml) (hg : GM X tg p) (hb : SsM X body mb) (hs : ∀ x, foldedSetIterable iter X.env x = pure x := by intro _; rfl) :
    SM X (.For tg iter body [] pos) (mFor p ml mb) := PS.of (ps_for hp hc hi hg hb hs) fun E σ H ⟨g, w, o, ρ, S, fl, S', s, hm, q⟩ => by
  obtain ⟨l, S1, h1, hm⟩ := R.bind_ok hm
  refine ⟨g, w, o, ρ, S, l, S1, s, h1, fun g1 H1 J x1 s1 wk => ?_⟩
  refine ⟨fun i m σ2 H2 => m = l.length - i ∧ i ≤ l.length ∧ ∃ g2 o2 ρ2 S2 fl S', ExtS g1 o H1 g2 o2 H2 ∧ Sta X.K g2 w o2 ρ2 S2 σ2 H2 ∧ mForL p mb (l.drop i) ρ2 S2 = .ok fl S' ∧ FinS X.K g2 w o2 H2 fl S' E,
    ⟨l.length, by simp, Nat.zero_le _, g1, o, ρ, S1, fl, S', .refl, s.ext x1 s1, by simpa using hm, q.after x1.s⟩, ?_⟩
  rintro i m σ2 H2 ⟨rfl, hi, g2, o2, ρ2, S2, fl, S', x2, s2, hm, q⟩
  by_cases hlt : i < l.length
  · have hd : l.drop i = l[i] :: l.drop (i + 1) := List.drop_eq_getElem_cons hlt
    have hget : l[i]? = some l[i] := List.getElem?_eq_getElem hlt
    obtain ⟨go, yl⟩ := wk.item i l[i] g2 o2 H2 hget x2
    rw [hd] at hm
    unfold mForL at hm
    split at hm
    · cases hm
    rename_i bl hbl
    obtain ⟨f3, S3, h3, hm⟩ := R.bind_ok hm
    refine .inr ⟨go, fun σ3 H3 => ∃ g3 o3 ρ3 S3 fl S', ExtS g1 o H1 g3 o3 H3 ∧ Sta X.K g3 w o3 ρ3 S3 σ3 H3 ∧ mForL p mb (l.drop (i + 1)) ρ3 S3 = .ok fl S' ∧ FinS X.K g3 w o3 H3 fl S' E, fun σ' H' n => ⟨l.length - (i + 1), by omega, rfl, hlt, n⟩, fun x H3 hy => ?_⟩
    obtain ⟨⟨x3, t3⟩, rx⟩ := yl x H3 hy
    have s3 : Sta X.K g2 w o2 ρ2 S2 σ2 H3 := s2.ext x3 (t3 _ _ s2.sto)
    refine ⟨g2, w ++ o2, l[i], bl, rx, hbl, fun vs rv => ?_⟩
    refine ⟨g2, w, o2, _, S2, f3, S3, s3.setA rv, h3, fun g4 o4 H4 x4 => ?_⟩
    have x24 := x3.s.trans x4
    cases f3 with
    | nx ρ1 => exact fun σ' st => ⟨g4, o4, ρ1, S3, fl, S', x2.trans x24, st, hm, q.after x24⟩
    | ct ρ1 => exact fun σ' st => ⟨g4, o4, ρ1, S3, fl, S', x2.trans x24, st, hm, q.after x24⟩
    | bk ρ1 => cases hm; exact q g4 o4 H4 x24
    | rt d => cases hm; exact q g4 o4 H4 x24
  · have e : i = l.length := by omega
    subst e
    rw [List.drop_length] at hm
    cases hm
    exact .inl ⟨wk.stop _ g2 o2 H2 (Nat.le_refl _) x2, q g2 o2 H2 .refl σ2 s2⟩

/-! ### while -/
def mWhileN (c : MT) (b : MS) : Nat → MS
  | 0, _, _ => .bad
  | n + 1, ρ, S => (c ρ S).bind fun k S1 => if k = true then (b ρ S1).bind fun fl S2 => match fl with
      | .nx ρ1 => mWhileN c b n ρ1 S2
      | .ct ρ1 => mWhileN c b n ρ1 S2
      | .bk ρ1 => .ok (.nx ρ1) S2
      | .rt d => .ok (.rt d) S2
    else .ok (.nx ρ) S1
/-- more turns than any loop here takes -/
def manyTurns : Nat := 2 ^ 64
def mWhile (c : MT) (b : MS) : MS := mWhileN c b manyTurns
theorem mWhileN_more {c : MT} {b : MS} {fl : Fl} {S' : Store} : ∀ {n m : Nat} {ρ : MEnv} {S : Store}, n ≤ m → mWhileN c b n ρ S = .ok fl S' → mWhileN c b m ρ S = .ok fl S'
  | 0, _, _, _, _, h => by cases h
  | n + 1, 0, _, _, hl, _ => by omega
  | n + 1, m + 1, ρ, S, hl, h => by
    unfold mWhileN at h ⊢
    obtain ⟨k, S1, h1, h2⟩ := R.bind_ok h
    rw [h1]
    show (if k = true then _ else _) = _
    cases k with
    | false => exact h2
    | true =>
      rw [if_pos rfl] at h2 ⊢
      obtain ⟨f2, S2, h3, h4⟩ := R.bind_ok h2
      rw [h3]
      cases f2 with
      | nx ρ1 => exact mWhileN_more (by omega) h4
      | ct ρ1 => exact mWhileN_more (by omega) h4
      | bk ρ1 => exact h4
      | rt d => exact h4
theorem sm_while (hp : PassesOwn (model X.prog X.w) X.A X.env X.xe) (hc : TM X c mc) (hb : SsM X body mb) : SM X (.While c body [] pos) (mWhile mc mb) := PS.of (ps_while hp hc hb) fun E σ H ⟨g, w, o, ρ, S, fl, S', s, hm, q⟩ => by
  refine ⟨fun n σ2 H2 => ∃ g2 o2 ρ2 S2 fl S', ExtS g o H g2 o2 H2 ∧ Sta X.K g2 w o2 ρ2 S2 σ2 H2 ∧ mWhileN mc mb n ρ2 S2 = .ok fl S' ∧ FinS X.K g2 w o2 H2 fl S' E, ⟨manyTurns, g, o, ρ, S, fl, S', .refl, s, hm, q⟩, ?_⟩
  rintro n σ2 H2 ⟨g2, o2, ρ2, S2, fl, S', x2, s2, hm, q⟩
  cases n with
  | zero => cases hm
  | succ n =>
    unfold mWhileN at hm
    obtain ⟨k, S3, h1, hm⟩ := R.bind_ok hm
    refine ⟨g2, w, o2, ρ2, S2, k, S3, s2, h1, fun g3 H3 x3 t3 => ?_⟩
    have s3 := s2.ext x3 t3
    cases k with
    | false => cases hm; exact q g3 o2 H3 x3.s σ2 s3
    | true =>
      rw [if_pos rfl] at hm
      obtain ⟨f4, S4, h4, hm⟩ := R.bind_ok hm
      refine iteT ⟨fun σ5 H5 => ∃ g5 o5 ρ5 S5 fl S', ExtS g o H g5 o5 H5 ∧ Sta X.K g5 w o5 ρ5 S5 σ5 H5 ∧ mWhileN mc mb n ρ5 S5 = .ok fl S' ∧ FinS X.K g5 w o5 H5 fl S' E, fun σ' H' hn => ⟨n, Nat.lt_succ_self _, hn⟩, ?_⟩
      refine ⟨g3, w, o2, ρ2, S3, f4, S4, s3, h4, fun g4 o4 H4 x4 => ?_⟩
      have x24 := x3.s.trans x4
      cases f4 with
      | nx ρ1 => exact fun σ' st => ⟨g4, o4, ρ1, S4, fl, S', x2.trans x24, st, hm, q.after x24⟩
      | ct ρ1 => exact fun σ' st => ⟨g4, o4, ρ1, S4, fl, S', x2.trans x24, st, hm, q.after x24⟩
      | bk ρ1 => cases hm; exact q g4 o4 H4 x24
      | rt d => cases hm; exact q g4 o4 H4 x24
end
end Mo
set_option maxRecDepth 100000
set_option maxHeartbeats 1000000
/-! Mo: comprehensions; own lists and cells that change. -/
namespace Mo
open PySem PySem.Spec PyProof.Rows L2

section
variable {K : PySem.W.Frag} {g f : List Addr} {H : Hp} {p : Addr} {u : HO}
theorem Rd.mut {b : Addr} {v : HO} (hm : Mut (H p)) (hv : ¬ Mut (some v)) (h : Rd H b v) : b ≠ p := by
  intro e
  subst e
  rcases h with h | ⟨ob, h⟩
  · rw [h] at hm; exact hv hm
  · rw [h] at hm; exact hm
theorem Rd.upd {b : Addr} {v : HO} (hne : b ≠ p) (h : Rd H b v) : Rd (upd H p u) b v := by
  rcases h with h | ⟨ob, h⟩
  · exact .inl (by rw [upd_ne hne]; exact h)
  · exact .inr ⟨ob, by rw [upd_ne hne]; exact h⟩
/-- p is forbidden, or a cell: what rests is elsewhere -/
theorem RestL.upd {a : Addr} {vs : List V} (hp : p ∈ f ∨ p ∈ g) (h : RestL g f H a vs) : RestL g f (upd H p u) a vs := by
  have ne : a ≠ p := by
    intro e
    subst e
    exact hp.elim h.2.1 h.1
  exact ⟨h.1, h.2.1, by rw [upd_ne ne]; exact h.2.2⟩
theorem ScrL.upd {a : Addr} {vs : List V} (hp : p ∈ f ∨ p ∈ g) (h : ScrL K g f H a vs) : ScrL K g f (upd H p u) a vs := by
  rcases h with ⟨h1, h2, h3⟩ | h
  · refine .inl ⟨h1, h2, Rd.upd (fun e => ?_) h3⟩
    subst e
    exact hp.elim h2 h1
  · exact .inr h
theorem SqT.upd {a : Addr} {vs : List V} (hm : Mut (H p)) (h : SqT K H a vs) : SqT K (upd H p u) a vs := by
  rcases h with h | h
  · exact .inl (Rd.upd (Rd.mut (v := .tup vs) hm (fun z => z) h) h)
  · exact .inr h
mutual
theorem RelD.upd (hm : Mut (H p)) (hp : p ∈ f ∨ p ∈ g) : ∀ (d : D) (v : V), RelD K g f H d v → RelD K g f (upd H p u) d v
  | .non, _, h => h
  | .bl _, _, h => h
  | .int _, _, h => h
  | .str _, _, h => h
  | .raw _, _, h => h
  | .tup l, _, ⟨a, vs, e, q, r⟩ => ⟨a, vs, e, SqT.upd hm q, RelDs.upd hm hp l vs r⟩
  | .lst l, _, ⟨a, vs, e, q, r⟩ => ⟨a, vs, e, q.upd hp, RelDs.upd hm hp l vs r⟩
  | .loc n, _, h => h
  | .scr l, _, ⟨a, e, q⟩ => ⟨a, e, q.upd hp⟩
theorem RelDs.upd (hm : Mut (H p)) (hp : p ∈ f ∨ p ∈ g) : ∀ (l : List D) (vs : List V), RelDs K g f H l vs → RelDs K g f (upd H p u) l vs
  | [], _, h => h
  | d :: ds, _, ⟨v, r, e, q, t⟩ => ⟨v, r, e, RelD.upd hm hp d v q, RelDs.upd hm hp ds r t⟩
end
theorem RelKv.upd {κ : Type} (hm : Mut (H p)) (hp : p ∈ f ∨ p ∈ g) : ∀ (l : List (κ × D)) (vs : List (κ × V)), RelKv K g f H l vs → RelKv K g f (upd H p u) l vs
  | [], _, h => h
  | d :: ds, _, ⟨v, r, e, q, t⟩ => ⟨v, r, e, RelD.upd hm hp d.2 v q, RelKv.upd hm hp ds r t⟩
theorem RelC.upd {a : Addr} (hm : Mut (H p)) (hp : p ∈ f ∨ p ∈ g) (hne : a ≠ p) : ∀ {c : Cell}, RelC K g f H a c → RelC K g f (upd H p u) a c
  | .lst l, ⟨vs, e, r⟩ => ⟨vs, by rw [upd_ne hne]; exact e, RelDs.upd hm hp l vs r⟩
  | .dK l, ⟨vs, e, r⟩ => ⟨vs, by rw [upd_ne hne]; exact e, RelKv.upd hm hp l vs r⟩
  | .dT l, ⟨vs, e, r, r'⟩ => ⟨vs, by rw [upd_ne hne]; exact e, RelKv.upd hm hp _ _ r, RelKv.upd hm hp _ _ r'⟩
  | .dF l, ⟨vs, ⟨ob, e⟩, r⟩ => ⟨vs, ⟨ob, by rw [upd_ne hne]; exact e⟩, RelKv.upd hm hp l vs r⟩
theorem RelS.updF {S : Store} (s : RelS K g f H S) (hm : Mut (H p)) (hp : p ∈ f) (hn : p ∉ g) : RelS K g f (upd H p u) S :=
  ⟨s.len, s.nod, fun n c a e1 e2 => (s.cel n c a e1 e2).upd hm (.inl hp) fun e => hn (e ▸ List.mem_of_getElem? e2)⟩
/-- a cell of the store changes -/
theorem RelS.updG {S : Store} {n : Nat} {c : Cell} (s : RelS K g f H S) (hm : Mut (H p)) (hp : g[n]? = some p) (r : RelC K g f (upd H p u) p c) : RelS K g f (upd H p u) (S.set n c) where
  len := by rw [List.length_set]; exact s.len
  nod := s.nod
  cel := fun m d a e1 e2 => by
    by_cases hk : n = m
    · subst hk
      rw [hp] at e2; cases e2
      have hl : n < S.length := by rw [← s.len]; exact lt_of_get hp
      rw [List.getElem?_set_self hl] at e1
      cases e1
      exact r
    · rw [List.getElem?_set_ne hk] at e1
      refine (s.cel m d a e1 e2).upd hm (.inr (List.mem_of_getElem? hp)) fun e => ?_
      subst e
      have h1 := lt_of_get hp
      have h2 := lt_of_get e2
      rw [List.getElem?_eq_getElem h1] at hp
      rw [List.getElem?_eq_getElem h2] at e2
      cases hp
      exact hk ((List.getElem_inj s.nod).mp (Option.some.inj e2).symm)
/-- a forbidden place that no name stands for changes -/
theorem Sta.updF {w o : List Addr} {ρ : MEnv} {S : Store} {σ : L2.St} (s : Sta K g w o ρ S σ H) (hm : Mut (H p)) (hp : p ∈ w ++ o) (hn : p ∉ g) (hno : ∀ (i : Nat) (c : Cell), ρ[i]? = some (some (Slot.own c)) → σ[i]? ≠ some (some (V.ref p))) : Sta K g w o ρ S σ (upd H p u) where
  len := s.len
  val := fun i d e => let ⟨v, e1, r⟩ := s.val i d e; ⟨v, e1, RelD.upd hm (.inl hp) d v r⟩
  own := fun i c e => let ⟨a, e1, m, r⟩ := s.own i c e; ⟨a, e1, m, r.upd hm (.inl hp) fun q => hno i c e (q ▸ e1)⟩
  inj := s.inj
  out := s.out
  liv := fun a m => by
    by_cases e : a = p
    · subst e; rw [upd_same]; simp
    · rw [upd_ne e]; exact s.liv a m
  sto := s.sto.updF hm hp hn
/-- the own cell of name i changes -/
theorem Sta.updO {w o : List Addr} {ρ : MEnv} {S : Store} {σ : L2.St} {i : Nat} {c c' : Cell} (s : Sta K g w o ρ S σ H) (hi : ρ[i]? = some (some (.own c))) (hσ : σ[i]? = some (some (V.ref p))) (hm : Mut (H p)) (r : RelC K g (w ++ o) (L2.upd H p u) p c') :
    Sta K g w o (ρ.set i (some (.own c'))) S σ (L2.upd H p u) := by
  obtain ⟨a, e1, m, r0⟩ := s.own i c hi
  rw [hσ] at e1; cases e1
  have hn := (s.out p m).1
  have hf : p ∈ w ++ o := List.mem_append_right _ m
  have hl : i < ρ.length := lt_of_get hi
  refine ⟨by rw [List.length_set]; exact s.len, fun j d e => ?_, fun j d e => ?_, fun j k d e a h1 h2 h3 h4 => ?_, s.out, fun a ma => ?_, s.sto.updF hm hf hn⟩
  · by_cases hj : i = j
    · subst hj; rw [List.getElem?_set_self hl] at e; cases e
    · rw [List.getElem?_set_ne hj] at e
      obtain ⟨v, e1, r1⟩ := s.val j d e
      exact ⟨v, e1, RelD.upd hm (.inl hf) d v r1⟩
  · by_cases hj : i = j
    · subst hj
      rw [List.getElem?_set_self hl] at e
      cases e
      exact ⟨p, hσ, m, r⟩
    · rw [List.getElem?_set_ne hj] at e
      obtain ⟨a, e1, m1, r1⟩ := s.own j d e
      exact ⟨a, e1, m1, r1.upd hm (.inl hf) fun q => hj (s.inj i j c d p hi e hσ (q ▸ e1))⟩
  · have own_of : ∀ {j : Nat} {d : Cell}, (ρ.set i (some (.own c')))[j]? = some (some (Slot.own d)) → ∃ d', ρ[j]? = some (some (Slot.own d')) := fun {j d} h => by
      by_cases hj : i = j
      · exact ⟨c, hj ▸ hi⟩
      · rw [List.getElem?_set_ne hj] at h; exact ⟨d, h⟩
    obtain ⟨d1, q1⟩ := own_of h1
    obtain ⟨d2, q2⟩ := own_of h2
    exact s.inj j k d1 d2 a q1 q2 h3 h4
  · by_cases e : a = p
    · subst e; rw [upd_same]; simp
    · rw [upd_ne e]; exact s.liv a ma
theorem ExtS.updO {o : List Addr} (hm : Mut (H p)) (ho : p ∈ o) : ExtS g o H g o (L2.upd H p u) where
  more := ⟨[], by simp, fun _ h => nomatch h⟩
  keep := fun a v e _ h => by
    have : a ≠ p := fun q => h (q ▸ ho)
    rw [upd_ne this]; exact e
  live := fun a h => by
    by_cases e : a = p
    · subst e; rw [upd_same]; simp
    · rw [upd_ne e]; exact h
  tups := fun a vs h => Rd.upd (Rd.mut (v := .tup vs) hm (fun z => z) h) h
  frz := fun a o u h => by
    have : a ≠ p := fun e => by subst e; rw [h] at hm; exact hm
    rw [upd_ne this]; exact h
  lam := fun _ h => .inl h
theorem Ext.updG (hm : Mut (H p)) (ho : p ∈ g) : Ext g H g (L2.upd H p u) where
  more := ⟨[], by simp, fun _ h => nomatch h⟩
  keep := fun a v e h => by
    have : a ≠ p := fun q => h (q ▸ ho)
    rw [upd_ne this]; exact e
  live := fun a h => by
    by_cases e : a = p
    · subst e; rw [upd_same]; simp
    · rw [upd_ne e]; exact h
  tups := fun a vs h => Rd.upd (Rd.mut (v := .tup vs) hm (fun z => z) h) h
  frz := fun a o u h => by
    have : a ≠ p := fun e => by subst e; rw [h] at hm; exact hm
    rw [upd_ne this]; exact h
end

/-! ### comprehensions -/
def wipeM (ρ : MEnv) : List Nat → MEnv
  | [] => ρ
  | v :: vs => (wipeM ρ vs).set v none
theorem Sta.unset {K : PySem.W.Frag} {g w o : List Addr} {ρ : MEnv} {S : Store} {σ : L2.St} {H : Hp} {i : Nat} (s : Sta K g w o ρ S σ H) : Sta K g w o (ρ.set i none) S (σ.set i none) H := by
  have back : ∀ {j : Nat} {d : Slot}, (ρ.set i none)[j]? = some (some d) → i ≠ j ∧ ρ[j]? = some (some d) := fun {j d} h => by
    by_cases hj : i = j
    · subst hj
      have hl : i < ρ.length := by have := lt_of_get h; simpa using this
      rw [List.getElem?_set_self hl] at h; cases h
    · rw [List.getElem?_set_ne hj] at h; exact ⟨hj, h⟩
  refine ⟨by rw [List.length_set, List.length_set]; exact s.len, fun j d h => ?_, fun j d h => ?_, fun j k c d a h1 h2 h3 h4 => ?_, s.out, s.liv, s.sto⟩
  · obtain ⟨hj, h⟩ := back h
    rw [List.getElem?_set_ne hj]
    exact s.val j d h
  · obtain ⟨hj, h⟩ := back h
    rw [List.getElem?_set_ne hj]
    exact s.own j d h
  · obtain ⟨n1, h1⟩ := back h1
    obtain ⟨n2, h2⟩ := back h2
    rw [List.getElem?_set_ne n1] at h3
    rw [List.getElem?_set_ne n2] at h4
    exact s.inj j k c d a h1 h2 h3 h4
theorem Sta.wipe {K : PySem.W.Frag} {g w o : List Addr} {ρ : MEnv} {S : Store} {σ : L2.St} {H : Hp} (s : Sta K g w o ρ S σ H) : ∀ vs : List Nat, Sta K g w o (wipeM ρ vs) S (wipe σ vs) H
  | [] => s
  | v :: vs => (Sta.wipe s vs).unset
theorem wipe_get {σ : L2.St} : ∀ {vs : List Nat} {i : Nat}, (wipe σ vs)[i]? = if i ∈ vs then (if i < σ.length then some none else none) else σ[i]?
  | [], i => by simp [wipe]
  | v :: vs, i => by
    unfold L2.wipe
    by_cases hi : v = i
    · subst hi
      rw [if_pos List.mem_cons_self]
      by_cases hl : v < σ.length
      · rw [List.getElem?_set_self (by rw [wipe_length]; exact hl), if_pos hl]
      · rw [List.getElem?_eq_none (by rw [List.length_set, wipe_length]; omega), if_neg hl]
    · rw [List.getElem?_set_ne hi, wipe_get (vs := vs)]
      by_cases hm : i ∈ vs
      · rw [if_pos hm, if_pos (List.mem_cons_of_mem _ hm)]
      · rw [if_neg hm, if_neg (by simp only [List.mem_cons, not_or]; exact ⟨fun e => hi e.symm, hm⟩)]
theorem setV_len : ∀ (l : List (Nat × V)) (σ : L2.St), (setV σ l).length = σ.length
  | [], _ => rfl
  | (i, x) :: r, σ => by
    have := setV_len r (σ.set i (some x))
    rw [List.length_set] at this
    exact this
theorem setV_get : ∀ (l : List (Nat × V)) (σ : L2.St) (i : Nat), i ∉ l.map (·.1) → (setV σ l)[i]? = σ[i]?
  | [], _, _, _ => rfl
  | (j, x) :: r, σ, i, h => by
    have h1 : j ≠ i := fun e => h (by rw [List.map_cons, e]; exact List.mem_cons_self)
    have := setV_get r (σ.set j (some x)) i fun m => h (by rw [List.map_cons]; exact List.mem_cons_of_mem _ m)
    rw [List.getElem?_set_ne h1] at this
    exact this
theorem wipe_setV {σ : L2.St} {vs : List Nat} {l : List (Nat × V)} (h : ∀ i ∈ l.map (·.1), i ∈ vs) : wipe (setV (wipe σ vs) l) vs = wipe σ vs := by
  apply List.ext_getElem?
  intro i
  rw [wipe_get, wipe_get]
  by_cases hm : i ∈ vs
  · rw [if_pos hm, if_pos hm, setV_len, wipe_length]
  · rw [if_neg hm, if_neg hm, setV_get _ _ _ fun z => hm (h i z), wipe_get, if_neg hm]
def TsM (X : Cx) (ifs : List Expr) (m : MT) : Prop := PTs X ifs (tM X.K m)
def mYes : MT := fun _ S => .ok true S
def mLcL (p : Pat) (mt : MT) (me : ME) : List D → MEnv → Store → R (List D)
  | [], _, S => .ok [] S
  | d :: ds, ρ, S => match p.bind d with
    | none => .bad
    | some l => (mt (setD ρ l) S).bind fun k S1 => if k = true then (me (setD ρ l) S1).bind fun y S2 => (mLcL p mt me ds ρ S2).bind fun r S3 => .ok (y :: r) S3
      else mLcL p mt me ds ρ S1
/-- [e for p in it if t], the block's own names at vs -/
def mLc (it : ML) (p : Pat) (vs : List Nat) (mt : MT) (me : ME) : ML := fun ρ S => (it ρ S).bind fun l S1 => (mLcL p mt me l (wipeM ρ vs) S1).bind fun r S2 => if r.length ≤ sizeLine then .ok r S2 else .bad
section
variable {X : Cx} {tg iter elt : Expr} {ifs : List Expr} {p : Pat} {pos : Pos} {ml : ML} {mt : MT} {me : ME}
theorem tsm_nil : TsM X [] mYes := ⟨fun pins s σ H Q I ⟨g, w, o, ρ, S, k, S', st, hm, q⟩ => by
  cases hm
  exact pts_nil.run pins s σ H Q I (q g H .refl st.sto)⟩
theorem tsm_one {c : Expr} (h : TM X c mt) : TsM X [c] mt := pts_one h
theorem lc_of {vs : List Nat} {σ : L2.St} {H : Hp} {Q : VK} (hv : ∀ i ∈ p.ixs, i ∈ vs) (q : tN X.K (mLc ml p vs mt me) σ H Q) : tLc (tI X.K ml) (tG X.K p) (tM X.K mt) (tE X.K me) vs σ H Q := by
  obtain ⟨g, w, o, ρ, S, res, S', s, hm, q⟩ := q
  obtain ⟨l, S1, h1, hm⟩ := R.bind_ok hm
  obtain ⟨r, S2, h2, hm⟩ := R.bind_ok hm
  have hz : r.length ≤ sizeLine := by
    split at hm
    · assumption
    · cases hm
  rw [if_pos hz] at hm
  cases hm
  refine ⟨g, w, o, ρ, S, l, S1, s, h1, fun g1 H1 J x1 s1 wk D hD => ?_⟩
  have st1 : Sta X.K g1 w o ρ S1 σ H1 := s.ext x1 s1
  have hHD : H D = none := by
    cases e : H D with
    | none => rfl
    | some u => exact absurd hD (x1.live D (by rw [e]; simp))
  have ea : w ++ (o ++ [D]) = (w ++ o) ++ [D] := (List.append_assoc w o [D]).symm
  have noOwn : ∀ (i : Nat) (c : Cell), (wipeM ρ vs)[i]? = some (some (Slot.own c)) → (wipe σ vs)[i]? ≠ some (some (V.ref D)) := fun i c h e => by
    obtain ⟨a, e1, m, _⟩ := (st1.wipe vs).own i c h
    rw [e] at e1; cases e1
    exact st1.liv D (List.mem_append_right _ m) hD
  -- the wiped state with the new list among the own places
  have st2 : Sta X.K g1 w (o ++ [D]) (wipeM ρ vs) S1 (wipe σ vs) (upd H1 D (.lst [])) := by
    have a := st1.wipe vs
    refine ⟨a.len, fun i d h => ?_, fun i c h => ?_, a.inj, fun b m => ?_, fun b m => ?_, ?_⟩
    · obtain ⟨v, e1, r1⟩ := a.val i d h
      exact ⟨v, e1, by rw [ea]; exact RelD.ext (.new hD) d v (RelD.fresh hD d v r1)⟩
    · obtain ⟨b, e1, m, r1⟩ := a.own i c h
      exact ⟨b, e1, List.mem_append_left _ m, by rw [ea]; exact (r1.fresh hD).new hD⟩
    · rcases List.mem_append.mp m with m | m
      · exact a.out b m
      · rw [List.mem_singleton.mp m]
        exact ⟨s1.noG hD, fun z => st1.noF hD (List.mem_append_left _ z)⟩
    · rw [ea] at m
      by_cases e : b = D
      · subst e; rw [upd_same]; simp
      · rw [upd_ne e]
        rcases List.mem_append.mp m with m | m
        · exact a.liv b m
        · exact absurd (List.mem_singleton.mp m) e
    · rw [ea]; exact (s1.fresh hD).new hD
  refine ⟨fun i m H2 => m = l.length - i ∧ i ≤ l.length ∧ ∃ g2 S2 acc accD rest, Ext g1 H1 g2 H2 ∧ Sta X.K g2 w (o ++ [D]) (wipeM ρ vs) S2 (wipe σ vs) H2 ∧ H2 D = some (.lst acc) ∧ RelDs X.K g2 (w ++ (o ++ [D])) H2 accD acc ∧
      mLcL p mt me (l.drop i) (wipeM ρ vs) S2 = .ok rest S' ∧ res = accD ++ rest,
    ⟨l.length, by simp, Nat.zero_le _, g1, S1, [], [], res, .new hD, st2, upd_same, rfl, by simpa using h2, rfl⟩, ?_⟩
  rintro i m H2 ⟨rfl, hi, g2, S2, acc, accD, rest, x2, s2, hacc, racc, hm, he⟩
  have xs : ExtS g1 o H1 g2 (o ++ [D]) H2 := .own x2 hD
  by_cases hlt : i < l.length
  · have hdr : l.drop i = l[i] :: l.drop (i + 1) := List.drop_eq_getElem_cons hlt
    obtain ⟨go, yl⟩ := wk.item i l[i] g2 (o ++ [D]) H2 (List.getElem?_eq_getElem hlt) xs
    rw [hdr] at hm
    unfold mLcL at hm
    split at hm
    · cases hm
    rename_i bl hbl
    obtain ⟨k, S3, h3, hm⟩ := R.bind_ok hm
    refine .inr ⟨go, fun H3 => ∃ g3 S3 acc accD rest, Ext g1 H1 g3 H3 ∧ Sta X.K g3 w (o ++ [D]) (wipeM ρ vs) S3 (wipe σ vs) H3 ∧ H3 D = some (.lst acc) ∧ RelDs X.K g3 (w ++ (o ++ [D])) H3 accD acc ∧
      mLcL p mt me (l.drop (i + 1)) (wipeM ρ vs) S3 = .ok rest S' ∧ res = accD ++ rest, fun H' n => ⟨l.length - (i + 1), by omega, rfl, hlt, n⟩, fun x H3 hy => ?_⟩
    obtain ⟨⟨x3, t3⟩, rx⟩ := yl x H3 hy
    have s3 := s2.ext x3 (t3 _ _ s2.sto)
    have racc3 := RelDs.ext x3 _ _ racc
    have nD : D ∉ g2 := (s2.out D (by simp)).1
    have hacc3 : H3 D = some (.lst acc) := x3.keep D _ hacc nD
    refine ⟨g2, w ++ (o ++ [D]), l[i], bl, rx, hbl, fun us ru => ⟨wipe_setV fun j hj => ?_, ?_⟩⟩
    · rw [ru.fst, p.bind_ixs _ _ hbl] at hj
      exact hv j hj
    refine ⟨g2, w, o ++ [D], _, S2, k, S3, s3.setA ru, h3, fun g4 H4 x4 s4 => ?_⟩
    have st4 := s3.ext x4 s4
    have racc4 := RelDs.ext x4 _ _ racc3
    have hacc4 : H4 D = some (.lst acc) := x4.keep D _ hacc3 nD
    have nD4 : D ∉ g4 := (st4.out D (by simp)).1
    have x14 := (x2.trans x3).trans x4
    cases k with
    | false =>
      rw [if_neg Bool.false_ne_true] at hm
      exact iteF ⟨g4, S3, acc, accD, rest, x14, st4, hacc4, racc4, hm, he⟩
    | true =>
      rw [if_pos rfl] at hm
      obtain ⟨y, S5, h5, hm⟩ := R.bind_ok hm
      obtain ⟨rest5, S6, h6, hm⟩ := R.bind_ok hm
      cases hm
      refine iteT ⟨g4, w, o ++ [D], _, S3, y, S5, (s3.setA ru).ext x4 s4, h5, fun v g5 H5 x5 s5 r5 => ?_⟩
      have st5 := st4.ext x5 s5
      have hacc5 : H5 D = some (.lst acc) := x5.keep D _ hacc4 nD4
      have nD5 : D ∉ g5 := (st5.out D (by simp)).1
      have racc5 := RelDs.ext x5 _ _ racc4
      have mD : Mut (H5 D) := by rw [hacc5]; trivial
      have fD : D ∈ w ++ (o ++ [D]) := by simp
      refine ⟨acc, hacc5, ?_, g5, S5, acc ++ [v], accD ++ [y], rest5, ?_, st5.updF mD fD nD5 noOwn, upd_same, RelDs.upd mD (.inl fD) _ _ (RelDs.append racc5 ⟨v, [], rfl, r5, rfl⟩), h6, by rw [he, List.append_assoc]; rfl⟩
      · have : accD.length = acc.length := racc.length
        rw [he, List.length_append, List.length_cons] at hz
        omega
      · have xx := x14.trans x5
        refine ⟨xx.more, fun a u e hn => ?_, fun a h => ?_, fun a vs h => ?_, fun a o u h => ?_⟩
        · have : a ≠ D := fun z => by subst z; rw [hD] at e; cases e
          rw [upd_ne this]; exact xx.keep a u e hn
        · by_cases z : a = D
          · subst z; rw [upd_same]; simp
          · rw [upd_ne z]; exact xx.live a h
        · have h' := xx.tups a vs h
          exact Rd.upd (Rd.mut (v := .tup vs) mD (fun z => z) h') h'
        · have h' := xx.frz a o u h
          have : a ≠ D := fun z => by subst z; rw [h'] at mD; exact mD
          rw [upd_ne this]; exact h'
  · have e : i = l.length := by omega
    subst e
    rw [List.drop_length] at hm
    cases hm
    rw [List.append_nil] at he
    subst he
    refine .inl ⟨wk.stop _ g2 (o ++ [D]) H2 (Nat.le_refl _) xs, ?_⟩
    refine q D acc g2 H2 (x1.trans x2) hHD (s2.out D (by simp)).1 hacc ?_ ?_
    · rw [← ea]; exact s2.sto
    · rw [← ea]; exact racc
theorem nm_lc {scope : Scope} {own : List (Str × Nat)} (hc : X.calm = true) (hN : X.N.Nodup) (hi : IM X tg iter ml) (ok : BlkOk X.N X.env.scope scope own) (hv : ∀ i ∈ p.ixs, i ∈ own.map (·.2))
    (hg : ∀ (s : Shared) (H : Hp) (C : Addr) (cl : List (Str × Addr)) (fp : List Addr), GM (X.blk s H scope (compEnvC scope cl C X.env) fp) tg p)
    (ht : ∀ (s : Shared) (H : Hp) (C : Addr) (cl : List (Str × Addr)) (fp : List Addr), TsM (X.blk s H scope (compEnvC scope cl C X.env) fp) ifs mt)
    (he : ∀ (s : Shared) (H : Hp) (C : Addr) (cl : List (Str × Addr)) (fp : List Addr), EM (X.blk s H scope (compEnvC scope cl C X.env) fp) elt me) (hs : ∀ x, foldedSetIterable iter X.env x = pure x := by intro _; rfl) :
    NM X (.ListComp elt [⟨tg, iter, ifs, 0⟩] scope pos) (mLc ml p (own.map (·.2)) mt me) :=
  PE.of (pe_lc (g := tG X.K p) (tt := tM X.K mt) (te := tE X.K me) hc hN hi ok hg ht he hs) fun σ H Q q => lc_of hv q
/-- name = [..]: the statement's own form -/
theorem ps_lcN {i : Nat} {y : Str} {py spos : Pos} {scope : Scope} {own : List (Str × Nat)} (hc : X.calm = true) (hN : X.N.Nodup) (hy : X.N[i]? = some y) (hyl : X.env.scope.names.lookup y = some .local)
    (hsw : swapsWith (.ListComp elt [⟨tg, iter, ifs, 0⟩] scope pos) (some (.Name y py)) spos.line X.env = pure true) (hi : IM X tg iter ml) (ok : BlkOk X.N X.env.scope scope own) (hv : ∀ i ∈ p.ixs, i ∈ own.map (·.2))
    (hg : ∀ (s : Shared) (H : Hp) (C : Addr) (cl : List (Str × Addr)) (fp : List Addr), GM (X.blk s H scope (compEnvC scope cl C X.env) fp) tg p)
    (ht : ∀ (s : Shared) (H : Hp) (C : Addr) (cl : List (Str × Addr)) (fp : List Addr), TsM (X.blk s H scope (compEnvC scope cl C X.env) fp) ifs mt)
    (he : ∀ (s : Shared) (H : Hp) (C : Addr) (cl : List (Str × Addr)) (fp : List Addr), EM (X.blk s H scope (compEnvC scope cl C X.env) fp) elt me) (hs : ∀ x, foldedSetIterable iter X.env x = pure x := by intro _; rfl) :
    PS X (.Assign [.Name y py] (.ListComp elt [⟨tg, iter, ifs, 0⟩] scope pos) spos) (tAsg (tN X.K (mLc ml p (own.map (·.2)) mt me)) (gName i)) :=
  PS.of (ps_setLc (g := tG X.K p) (tt := tM X.K mt) (te := tE X.K me) hc hN hy hyl hsw hi ok hg ht he hs) fun E σ H q => lc_of hv q
/-- .. kept as a value -/
theorem sm_valN {st : Stmt} {i : Nat} {m : ML} (h : PS X st (tAsg (tN X.K m) (gName i))) : SM X st (mSet i (mLst m)) := PS.of h fun E σ H ⟨g, w, o, ρ, S, fl, S', s, hm, q⟩ => by
  obtain ⟨d, S1, e1, hm⟩ := R.bind_ok hm
  cases hm
  obtain ⟨ds, S2, e2, hm⟩ := R.bind_ok e1
  cases hm
  refine ⟨g, w, o, ρ, S, ds, _, s, e2, fun p vs g1 H1 x1 hp n1 e3 s1 r1 => q g1 o H1 x1.s _ ((s.ext x1 (s1.less sub_app)).set ⟨p, vs, rfl, ⟨n1, s.noF hp, e3⟩, RelDs.less sub_app _ _ r1⟩)⟩
theorem sm_locN {st : Stmt} {i : Nat} {m : ML} (h : PS X st (tAsg (tN X.K m) (gName i))) : SM X st (mSet i (mLoc m)) := PS.of h fun E σ H ⟨g, w, o, ρ, S, fl, S', s, hm, q⟩ => by
  obtain ⟨d, S1, e1, hm⟩ := R.bind_ok hm
  cases hm
  obtain ⟨ds, S2, e2, hm⟩ := R.bind_ok e1
  cases hm
  refine ⟨g, w, o, ρ, S, ds, _, s, e2, fun p vs g1 H1 x1 hp n1 e3 s1 r1 => ?_⟩
  obtain ⟨ns, eg, hns⟩ := x1.more
  have x2 : Ext g H (g1 ++ [p]) H1 := ⟨⟨ns ++ [p], by rw [eg, List.append_assoc], fun b hb => by
    rcases List.mem_append.mp hb with z | z
    · exact hns b z
    · rw [List.mem_singleton.mp z]; exact hp⟩, x1.keep, x1.live, x1.tups, x1.frz⟩
  have s2 := s1.addG n1 (c := .lst ds) ⟨vs, e3, r1⟩
  exact q _ o H1 x2.s _ ((s.ext x2 s2).set ⟨p, rfl, by rw [← s1.len]; exact List.getElem?_concat_length⟩)
end
end Mo
set_option maxRecDepth 100000
set_option maxHeartbeats 1000000
/-! Mo: several names at once, some of them with cells of their own. -/
namespace Mo
open PySem PySem.Spec PyProof.Rows L2

section
variable {K : PySem.W.Frag} {g g' f w o ns : List Addr} {H H' : Hp} {p : Addr} {S S' : Store} {ρ : MEnv} {σ : L2.St}
theorem freshL {R : List Addr → Prop} (step : ∀ f p, H p = none → R f → R (f ++ [p])) : ∀ {ns : List Addr} {f : List Addr}, (∀ p ∈ ns, H p = none) → R f → R (f ++ ns)
  | [], f, _, h => by rw [List.append_nil]; exact h
  | p :: ns, f, hn, h => by
    have := freshL step (ns := ns) (f := f ++ [p]) (fun q hq => hn q (List.mem_cons_of_mem _ hq)) (step f p (hn p List.mem_cons_self) h)
    rw [List.append_assoc] at this
    exact this
theorem RelD.freshs {d : D} {v : V} (hn : ∀ p ∈ ns, H p = none) (h : RelD K g f H d v) : RelD K g (f ++ ns) H d v := freshL (R := fun f => RelD K g f H d v) (fun _ _ hp h => RelD.fresh hp d v h) hn h
theorem RelC.freshs {c : Cell} {a : Addr} (hn : ∀ p ∈ ns, H p = none) (h : RelC K g f H a c) : RelC K g (f ++ ns) H a c := freshL (R := fun f => RelC K g f H a c) (fun _ _ hp h => RelC.fresh hp h) hn h
/-- a place of its own that no name stands for as yet -/
theorem Sta.addO (s : Sta K g w o ρ S σ H) (x : Ext g H g' H') (hp : H p = none) (hn : p ∉ g') (hl : H' p ≠ none) (t : RelS K g' ((w ++ o) ++ [p]) H' S') : Sta K g' w (o ++ [p]) ρ S' σ H' := by
  have ea : w ++ (o ++ [p]) = (w ++ o) ++ [p] := (List.append_assoc w o [p]).symm
  have hpo : p ∉ w ++ o := s.noF hp
  refine ⟨s.len, fun j d h => ?_, fun j d h => ?_, s.inj, fun a ha => ?_, fun a ha => ?_, by rw [ea]; exact t⟩
  · obtain ⟨v, e1, r1⟩ := s.val j d h
    exact ⟨v, e1, by rw [ea]; exact RelD.ext x d v (RelD.fresh hp d v r1)⟩
  · obtain ⟨a, e1, m, r1⟩ := s.own j d h
    exact ⟨a, e1, List.mem_append_left _ m, by rw [ea]; exact (r1.fresh hp).ext x (s.out a m).1⟩
  · rcases List.mem_append.mp ha with m | m
    · exact ⟨x.out (s.out a m).1 (s.liv a (List.mem_append_right _ m)), (s.out a m).2⟩
    · rw [List.mem_singleton.mp m]
      exact ⟨hn, fun z => hpo (List.mem_append_left _ z)⟩
  · rw [ea] at ha
    rcases List.mem_append.mp ha with m | m
    · exact x.live a (s.liv a m)
    · rw [List.mem_singleton.mp m]
      exact hl
/-- what several names are to stand for: the own places are ns, in order -/
def RelSl (K : PySem.W.Frag) (g f : List Addr) (H : Hp) : List Slot → List V → List Addr → Prop
  | [], vs, ns => vs = [] ∧ ns = []
  | .val d :: r, vs, ns => ∃ v vr, vs = v :: vr ∧ RelD K g f H d v ∧ RelSl K g f H r vr ns
  | .own c :: r, vs, ns => ∃ a vr nr, vs = .ref a :: vr ∧ ns = a :: nr ∧ RelC K g f H a c ∧ RelSl K g f H r vr nr
abbrev MSl := MEnv → Store → R (List Slot)
def tSl (K : PySem.W.Frag) (m : MSl) : TA := fun σ H Q => ∃ g w o ρ S ss S', Sta K g w o ρ S σ H ∧ m ρ S = .ok ss S' ∧
  ∀ vs ns g' H', Ext g H g' H' → Sta K g' w (o ++ ns) ρ S' σ H' → (∀ p ∈ ns, H p = none) → ns.Nodup → RelSl K g' (w ++ (o ++ ns)) H' ss vs ns → Q vs H'
def SlM (X : Cx) (es : List Expr) (m : MSl) : Prop := PA X es (tSl X.K m)
def sNil : MSl := fun _ S => .ok [] S
def sVal (m : ME) (r : MSl) : MSl := fun ρ S => (m ρ S).bind fun d S1 => (r ρ S1).bind fun ss S2 => .ok (.val d :: ss) S2
def sOwnL (m : ML) (r : MSl) : MSl := fun ρ S => (m ρ S).bind fun l S1 => (r ρ S1).bind fun ss S2 => .ok (.own (.lst l) :: ss) S2
theorem back_none (x : Ext g H g' H') {q : Addr} (h : H' q = none) : H q = none := by
  cases e : H q with
  | none => rfl
  | some u => exact absurd h (x.live q (by rw [e]; simp))
end
section
variable {X : Cx} {e : Expr} {es : List Expr} {me : ME} {ml : ML} {r : MSl}
theorem slm_nil : SlM X [] sNil := PA.of pa_nil fun σ H Q ⟨g, w, o, ρ, S, ss, S', s, hm, q⟩ => by
  cases hm
  exact q [] [] g H .refl (by rw [List.append_nil]; exact s) (fun _ h => nomatch h) List.nodup_nil ⟨rfl, rfl⟩
theorem slm_val (ha : EM X e me) (hr : SlM X es r) (hs : starEach (e :: es) X.env = (false, eval e X.env) :: starEach es X.env := by rfl) : SlM X (e :: es) (sVal me r) := PA.of (pa_cons ha hr hs) fun σ H Q ⟨g, w, o, ρ, S, ss, S', s, hm, q⟩ => by
  obtain ⟨d, S1, h1, hm⟩ := R.bind_ok hm
  obtain ⟨dr, S2, h2, hm⟩ := R.bind_ok hm
  cases hm
  refine ⟨g, w, o, ρ, S, d, S1, s, h1, fun v g1 H1 x1 s1 r1 => ?_⟩
  refine ⟨g1, w, o, ρ, S1, dr, _, s.ext x1 s1, h2, fun vs ns g2 H2 x2 st2 hns nd rs => ?_⟩
  refine q (v :: vs) ns g2 H2 (x1.trans x2) st2 (fun p hp => back_none x1 (hns p hp)) nd ⟨v, vs, rfl, ?_, rs⟩
  rw [← List.append_assoc]
  exact RelD.ext x2 d v (RelD.freshs hns r1)
theorem slm_ownL (ha : NM X e ml) (hr : SlM X es r) (hs : starEach (e :: es) X.env = (false, eval e X.env) :: starEach es X.env := by rfl) : SlM X (e :: es) (sOwnL ml r) := PA.of (pa_cons ha hr hs) fun σ H Q ⟨g, w, o, ρ, S, ss, S', s, hm, q⟩ => by
  obtain ⟨l, S1, h1, hm⟩ := R.bind_ok hm
  obtain ⟨dr, S2, h2, hm⟩ := R.bind_ok hm
  cases hm
  refine ⟨g, w, o, ρ, S, l, S1, s, h1, fun p us g1 H1 x1 hp n1 e1 s1 r1 => ?_⟩
  have st1 := s.addO x1 hp n1 (by rw [e1]; simp) s1
  refine ⟨g1, w, o ++ [p], ρ, S1, dr, _, st1, h2, fun vs ns g2 H2 x2 st2 hns nd rs => ?_⟩
  have ea : (o ++ [p]) ++ ns = o ++ (p :: ns) := by rw [List.append_assoc]; rfl
  have ew : w ++ (o ++ (p :: ns)) = ((w ++ o) ++ [p]) ++ ns := by simp [List.append_assoc]
  rw [ea] at st2 rs
  refine q (.ref p :: vs) (p :: ns) g2 H2 (x1.trans x2) st2 (fun b hb => ?_) (List.nodup_cons.mpr ⟨fun m => ?_, nd⟩) ⟨p, vs, ns, rfl, rfl, ?_, rs⟩
  · rcases List.mem_cons.mp hb with e | hb
    · rw [e]; exact hp
    · exact back_none x1 (hns b hb)
  · have := hns p m
    rw [e1] at this
    cases this
  · rw [ew]
    exact (RelC.freshs hns (c := .lst l) ⟨us, e1, r1⟩).ext x2 n1
/-- names that take them -/
def setSl (ρ : MEnv) : List (Nat × Slot) → MEnv
  | [] => ρ
  | (i, s) :: r => setSl (ρ.set i (some s)) r
theorem Sta.setO {K : PySem.W.Frag} {g w o : List Addr} {ρ : MEnv} {S : Store} {σ : L2.St} {H : Hp} {i : Nat} {a : Addr} {c : Cell} (s : Sta K g w o ρ S σ H) (ha : a ∈ o) (hno : ∀ (j : Nat) (c : Cell), ρ[j]? = some (some (Slot.own c)) → σ[j]? ≠ some (some (V.ref a)))
    (r : RelC K g (w ++ o) H a c) : Sta K g w o (ρ.set i (some (.own c))) S (σ.set i (some (.ref a))) H := by
  have lt_of : ∀ {u : Slot} {d : Option Slot}, (ρ.set i (some u))[i]? = some d → i < ρ.length := fun {u d} h => by have := lt_of_get h; simpa using this
  refine ⟨by rw [List.length_set, List.length_set]; exact s.len, fun j d h => ?_, fun j d h => ?_, fun j k d e b h1 h2 h3 h4 => ?_, s.out, s.liv, s.sto⟩
  · by_cases hj : i = j
    · subst hj
      rw [List.getElem?_set_self (lt_of h)] at h
      cases h
    · rw [List.getElem?_set_ne hj] at h ⊢
      exact s.val j d h
  · by_cases hj : i = j
    · subst hj
      have hl := lt_of h
      rw [List.getElem?_set_self hl] at h
      cases h
      exact ⟨a, List.getElem?_set_self (by rw [← s.len]; exact hl), ha, r⟩
    · rw [List.getElem?_set_ne hj] at h ⊢
      exact s.own j d h
  · by_cases hj : i = j
    · subst hj
      have hl := lt_of h1
      rw [List.getElem?_set_self (by rw [← s.len]; exact hl)] at h3
      cases h3
      by_cases hk : i = k
      · exact hk
      · rw [List.getElem?_set_ne hk] at h2 h4
        exact absurd h4 (hno k e h2)
    · rw [List.getElem?_set_ne hj] at h1 h3
      by_cases hk : i = k
      · subst hk
        have hl := lt_of h2
        rw [List.getElem?_set_self (by rw [← s.len]; exact hl)] at h4
        cases h4
        exact absurd h3 (hno j d h1)
      · rw [List.getElem?_set_ne hk] at h2 h4
        exact s.inj j k d e b h1 h2 h3 h4
theorem Sta.setSl {K : PySem.W.Frag} {g w o : List Addr} {S : Store} {H : Hp} : ∀ (is : List Nat) (ss : List Slot) (vs : List V) (ns : List Addr) (ρ : MEnv) (σ : L2.St), Sta K g w o ρ S σ H → (∀ p ∈ ns, p ∈ o) → ns.Nodup →
    (∀ p ∈ ns, ∀ (j : Nat) (c : Cell), ρ[j]? = some (some (Slot.own c)) → σ[j]? ≠ some (some (V.ref p))) → RelSl K g (w ++ o) H ss vs ns → is.length = ss.length → Sta K g w o (Mo.setSl ρ (is.zip ss)) S (setV σ (is.zip vs)) H
  | [], [], _, _, _, _, s, _, _, _, ⟨e, _⟩, _ => by subst e; exact s
  | i :: is, .val d :: ss, _, ns, ρ, σ, s, h1, h2, h3, ⟨v, vr, e, r, t⟩, hl => by
    subst e
    refine Sta.setSl is ss vr ns (ρ.set i (some (.val d))) (σ.set i (some v)) (s.set r) h1 h2 (fun p hp j c hj => ?_) t (by simpa using hl)
    by_cases hi : i = j
    · subst hi
      have hl : i < ρ.length := by have := lt_of_get hj; simpa using this
      rw [List.getElem?_set_self hl] at hj
      cases hj
    · rw [List.getElem?_set_ne hi] at hj ⊢
      exact h3 p hp j c hj
  | i :: is, .own c :: ss, _, _, ρ, σ, s, h1, h2, h3, ⟨a, vr, nr, e, en, r, t⟩, hl => by
    subst e; subst en
    obtain ⟨n1, n2⟩ := List.nodup_cons.mp h2
    refine Sta.setSl is ss vr nr (ρ.set i (some (.own c))) (σ.set i (some (.ref a))) (s.setO (h1 a List.mem_cons_self) (fun j d hj => h3 a List.mem_cons_self j d hj) r) (fun p hp => h1 p (List.mem_cons_of_mem _ hp)) n2 (fun p hp j d hj => ?_) t (by simpa using hl)
    by_cases hi : i = j
    · subst hi
      have hl : i < ρ.length := by have := lt_of_get hj; simpa using this
      rw [List.getElem?_set_self (by rw [← s.len]; exact hl)]
      intro z
      cases z
      exact n1 hp
    · rw [List.getElem?_set_ne hi] at hj ⊢
      exact h3 p (List.mem_cons_of_mem _ hp) j d hj
  | [], _ :: _, _, _, _, _, _, _, _, _, _, hl => by simp at hl
  | _ :: _, [], _, _, _, _, _, _, _, _, _, hl => by simp at hl
/-- a, b = e, f -/
def mPar (is : List Nat) (m : MSl) : MS := fun ρ S => (m ρ S).bind fun ss S1 => if is.length = ss.length then .ok (.nx (setSl ρ (is.zip ss))) S1 else .bad
theorem par_of {is : List Nat} {m : MSl} {E : Ends} {σ : L2.St} {H : Hp} (q : tS X.K (mPar is m) E σ H) : tSl X.K m σ H fun vs H1 => vs.length = is.length ∧ E.nx (setV σ (is.zip vs)) H1 := by
  obtain ⟨g, w, o, ρ, S, fl, S', s, hm, q⟩ := q
  obtain ⟨ss, S1, h1, hm⟩ := R.bind_ok hm
  split at hm
  · rename_i hl
    cases hm
    refine ⟨g, w, o, ρ, S, ss, _, s, h1, fun vs ns g1 H1 x1 st hns nd rs => ⟨?_, q g1 (o ++ ns) H1 ?_ _ ?_⟩⟩
    · have len : ∀ (ss : List Slot) (vs : List V) (ns : List Addr), RelSl X.K g1 (w ++ (o ++ ns)) H1 ss vs ns → True := fun _ _ _ _ => trivial
      have go : ∀ {f : List Addr} (ss : List Slot) (vs : List V) (ns : List Addr), RelSl X.K g1 f H1 ss vs ns → vs.length = ss.length := by
        intro f ss
        induction ss with
        | nil => intro vs ns h; rw [h.1]; rfl
        | cons c ss ih =>
          intro vs ns h
          cases c with
          | val d => obtain ⟨v, vr, e, _, t⟩ := h; rw [e, List.length_cons, List.length_cons, ih _ _ t]
          | own c => obtain ⟨a, vr, nr, e, _, _, t⟩ := h; rw [e, List.length_cons, List.length_cons, ih _ _ t]
      rw [hl]
      exact go ss vs ns rs
    · refine ⟨x1.more, fun a u h n _ => x1.keep a u h n, x1.live, x1.tups, x1.frz, fun a h => ?_⟩
      rcases List.mem_append.mp h with m | m
      · exact .inl m
      · exact .inr (hns a m)
    · refine Sta.setSl is ss vs ns ρ σ st (fun p hp => List.mem_append_right _ hp) nd (fun p hp j c hj e => ?_) rs hl
      obtain ⟨a, e1, m, _⟩ := s.own j c hj
      rw [e] at e1; cases e1
      exact s.liv p (List.mem_append_right _ m) (hns p hp)
  · cases hm
theorem sm_par2 {st : Stmt} {i j : Nat} {m : MSl} (h : PS X st (tPar i j (tSl X.K m))) : SM X st (mPar [i, j] m) := PS.of h fun E σ H q => by
  have q := par_of q
  obtain ⟨g, w, o, ρ, S, ss, S', s, hm, q⟩ := q
  refine ⟨g, w, o, ρ, S, ss, S', s, hm, fun vs ns g1 H1 x1 st1 hns nd rs => ?_⟩
  obtain ⟨hl, q⟩ := q vs ns g1 H1 x1 st1 hns nd rs
  match vs, hl, q with
  | [a, b], _, q => exact ⟨a, b, rfl, q⟩
theorem sm_par3 {st : Stmt} {i j k : Nat} {m : MSl} (h : PS X st (tPar3 i j k (tSl X.K m))) : SM X st (mPar [i, j, k] m) := PS.of h fun E σ H q => by
  have q := par_of q
  obtain ⟨g, w, o, ρ, S, ss, S', s, hm, q⟩ := q
  refine ⟨g, w, o, ρ, S, ss, S', s, hm, fun vs ns g1 H1 x1 st1 hns nd rs => ?_⟩
  obtain ⟨hl, q⟩ := q vs ns g1 H1 x1 st1 hns nd rs
  match vs, hl, q with
  | [a, b, c], _, q => exact ⟨a, b, c, rfl, q⟩
end
end Mo
set_option maxRecDepth 100000
set_option maxHeartbeats 1000000
/-! Mo: what operators, subscripts, built-ins do with data. -/
namespace Mo
open PySem PySem.Spec PyProof.Rows L2

/-! ### data as a whole -/
mutual
def toP : D → Option PyData
  | .non => some .none
  | .bl b => some (.bool b)
  | .int i => some (.int i)
  | .str x => some (.str x)
  | .tup l => (toPs l).map .tuple
  | .lst l => (toPs l).map .list
  | .loc _ => none
  | .raw _ => none
  | .scr _ => none
def toPs : List D → Option (List PyData)
  | [] => some []
  | d :: ds => match toP d, toPs ds with
    | some p, some ps => some (p :: ps)
    | _, _ => none
end
section
variable {K : PySem.W.Frag} {g f : List Addr} {H : Hp}
mutual
theorem RelD.dp : ∀ (d : D) (v : V) (p : PyData), RelD K g f H d v → toP d = some p → Dp K H v p
  | .non, _, _, h, e => by unfold toP at e; cases e; cases h; exact .non
  | .bl b, _, _, h, e => by unfold toP at e; cases e; cases h; exact .bl b
  | .int i, _, _, h, e => by unfold toP at e; cases e; cases h; exact .int i
  | .str x, _, _, h, e => by unfold toP at e; cases e; cases h; exact .str x
  | .tup l, _, _, ⟨a, vs, ev, q, r⟩, e => by
    unfold toP at e
    cases hp : toPs l with
    | none => rw [hp] at e; cases e
    | some ps => rw [hp] at e; cases e; subst ev; exact .tup q (RelDs.dp l vs ps r hp)
  | .lst l, _, _, ⟨a, vs, ev, q, r⟩, e => by
    unfold toP at e
    cases hp : toPs l with
    | none => rw [hp] at e; cases e
    | some ps => rw [hp] at e; cases e; subst ev; exact .lst q.sq (RelDs.dp l vs ps r hp)
  | .loc n, _, _, _, e => by unfold toP at e; cases e
  | .raw n, _, _, _, e => by unfold toP at e; cases e
  | .scr n, _, _, _, e => by unfold toP at e; cases e
theorem RelDs.dp : ∀ (l : List D) (vs : List V) (ps : List PyData), RelDs K g f H l vs → toPs l = some ps → DpAll K H vs ps
  | [], _, _, h, e => by unfold toPs at e; cases e; cases h; exact .nil
  | d :: ds, _, _, ⟨v, r, ev, q, t⟩, e => by
    unfold toPs at e
    split at e
    · rename_i p ps hp hps
      cases e
      subst ev
      exact .cons (RelD.dp d v p q hp) (RelDs.dp ds r ps t hps)
    · cases e
end
/-- a plain answer: nothing is made -/
theorem FinE.same {d : D} {v : V} {S : Store} {Q : VK} (q : FinE K g f H d S Q) (s : RelS K g f H S) (r : RelD K g f H d v) : Q v H := q v g H .refl s r

/-! ### numbers -/
/-- two numbers in, under c, a value out -/
def gI (c : Int → Int → Prop) [∀ i j, Decidable (c i j)] (h : Int → Int → D) : G2 := fun x y S => match x, y with
  | .int i, .int j => if c i j then .ok (h i j) S else .bad
  | _, _ => .bad
theorem od_I {c C : Int → Int → Prop} [∀ i j, Decidable (c i j)] {h : Int → Int → D} {hv : Int → Int → V} (hc : ∀ i j, c i j → C i j) (hh : ∀ K g f H i j, RelD K g f H (h i j) (hv i j)) : OpD K (rI C hv) (gI c h) := by
  intro g f H S dx dy d S' x y Q s rx ry hm q
  unfold gI at hm
  split at hm
  · rename_i i j
    split at hm
    · rename_i hcc
      cases hm
      exact ⟨i, j, rx, ry, hc i j hcc, q.same s (hh _ _ _ _ _ _)⟩
    · cases hm
  · cases hm
def gI0 (h : Int → Int → D) : G2 := fun x y S => match x, y with
  | .int i, .int j => .ok (h i j) S
  | _, _ => .bad
theorem od_I0 {h : Int → Int → D} {hv : Int → Int → V} (hh : ∀ K g f H i j, RelD K g f H (h i j) (hv i j)) : OpD K (rI0 hv) (gI0 h) := by
  intro g f H S dx dy d S' x y Q s rx ry hm q
  unfold gI0 at hm
  split at hm
  · rename_i i j
    cases hm
    exact ⟨i, j, rx, ry, q.same s (hh _ _ _ _ _ _)⟩
  · cases hm
def gOr (h h' : G2) : G2 := fun x y S => match h x y S with
  | .ok d S' => .ok d S'
  | .bad => h' x y S
theorem OpD.or {r r' : R2} {h h' : G2} (a : OpD K r h) (b : OpD K r' h') : OpD K (fun x y H Q => r x y H Q ∨ r' x y H Q) (gOr h h') := by
  intro g f H S dx dy d S' x y Q s rx ry hm q
  unfold gOr at hm
  split at hm
  · rename_i e
    cases hm
    exact .inl (a g f H S dx dy _ _ x y Q s rx ry e q)
  · exact .inr (b g f H S dx dy d S' x y Q s rx ry hm q)
abbrev gAddI : G2 := gI0 fun i j => .int (i + j)
abbrev gSubI : G2 := gI0 fun i j => .int (i - j)
def cMul (i j : Int) : Prop := i.natAbs.log2 + j.natAbs.log2 < 1000000
def cDiv (_ j : Int) : Prop := 0 < j ∧ j.natAbs.log2 < 9000
def cMod (_ j : Int) : Prop := 0 < j
def cPow (i j : Int) : Prop := 0 ≤ j ∧ j ≤ 1000000 ∧ i.natAbs < 2 ^ 64
instance : ∀ i j, Decidable (cMul i j) := fun _ _ => by unfold cMul; infer_instance
instance : ∀ i j, Decidable (cDiv i j) := fun _ _ => by unfold cDiv; infer_instance
instance : ∀ i j, Decidable (cMod i j) := fun _ _ => by unfold cMod; infer_instance
instance : ∀ i j, Decidable (cPow i j) := fun _ _ => by unfold cPow; infer_instance
abbrev gMulI : G2 := gI cMul fun i j => .int (i * j)
abbrev gDivI : G2 := gI cDiv fun i j => .int (i / j)
abbrev gModI : G2 := gI cMod fun i j => .int (i % j)
abbrev gPowI : G2 := gI cPow fun i j => .int (i ^ j.toNat)
theorem od_add : OpD K (rI0 fun i j => .int (i + j)) gAddI := od_I0 fun _ _ _ _ _ _ => rfl
theorem od_sub : OpD K (rI0 fun i j => .int (i - j)) gSubI := od_I0 fun _ _ _ _ _ _ => rfl
theorem od_mul : OpD K (rI CMulW fun i j => .int (i * j)) gMulI := od_I (fun _ _ h => h) fun _ _ _ _ _ _ => rfl
theorem od_div : OpD K (rI CDivW fun i j => .int (i / j)) gDivI := od_I (fun _ _ h => h) fun _ _ _ _ _ _ => rfl
theorem od_mod : OpD K (rI (fun _ j => 0 < j) fun i j => .int (i % j)) gModI := od_I (fun _ _ h => h) fun _ _ _ _ _ _ => rfl
theorem od_pow : OpD K (rI CPow fun i j => .int (i ^ j.toNat)) gPowI := od_I (fun _ _ h => h) fun _ _ _ _ _ _ => rfl
abbrev gLt : G2 := gI0 fun i j => .bl (decide (i < j))
abbrev gLe : G2 := gI0 fun i j => .bl (decide (i ≤ j))
abbrev gGt : G2 := gI0 fun i j => .bl (decide (j < i))
abbrev gGe : G2 := gI0 fun i j => .bl (decide (j ≤ i))
theorem od_lt : OpD K (rI0 fun i j => .bl (decide (i < j))) gLt := od_I0 fun _ _ _ _ _ _ => rfl
theorem od_le : OpD K (rI0 fun i j => .bl (decide (i ≤ j))) gLe := od_I0 fun _ _ _ _ _ _ => rfl
theorem od_gt : OpD K (rI0 fun i j => .bl (decide (j < i))) gGt := od_I0 fun _ _ _ _ _ _ => rfl
theorem od_ge : OpD K (rI0 fun i j => .bl (decide (j ≤ i))) gGe := od_I0 fun _ _ _ _ _ _ => rfl
/-- == and != of data -/
def eqD (x y : D) : Option Bool := match toP x, toP y with
  | some p, some q => if SeqAt.shaped p = true ∧ SeqAt.shaped q = true then some (PyData.eqv p q) else none
  | _, _ => none
def gEq : G2 := fun x y S => match eqD x y with
  | some b => .ok (.bl b) S
  | none => .bad
def gNe : G2 := fun x y S => match eqD x y with
  | some b => .ok (.bl (!b)) S
  | none => .bad
theorem eqD_of {x y : D} {b : Bool} (h : eqD x y = some b) : ∃ p q, toP x = some p ∧ toP y = some q ∧ SeqAt.shaped p = true ∧ SeqAt.shaped q = true ∧ b = PyData.eqv p q := by
  unfold eqD at h
  split at h
  · rename_i p q hp hq
    split at h
    · rename_i hs
      cases h
      exact ⟨p, q, hp, hq, hs.1, hs.2, rfl⟩
    · cases h
  · cases h
theorem od_eq : OpD K (rEqD K) gEq := by
  intro g f H S dx dy d S' x y Q s rx ry hm q
  unfold gEq at hm
  split at hm
  · rename_i b hb
    cases hm
    obtain ⟨p, p', h1, h2, h3, h4, rfl⟩ := eqD_of hb
    exact ⟨p, p', RelD.dp _ _ _ rx h1, RelD.dp _ _ _ ry h2, h3, h4, q.same s rfl⟩
  · cases hm
theorem od_ne : OpD K (rNeD K) gNe := by
  intro g f H S dx dy d S' x y Q s rx ry hm q
  unfold gNe at hm
  split at hm
  · rename_i b hb
    cases hm
    obtain ⟨p, p', h1, h2, h3, h4, rfl⟩ := eqD_of hb
    exact ⟨p, p', RelD.dp _ _ _ rx h1, RelD.dp _ _ _ ry h2, h3, h4, q.same s rfl⟩
  · cases hm
/-- is None, is not None -/
def isNon : D → Bool
  | .non => true
  | _ => false
theorem RelD.non_iff {d : D} {v : V} (r : RelD K g f H d v) (hr : ∀ u, d ≠ .raw u) : decide (v = .non) = isNon d := by
  cases d with
  | non => cases r; rfl
  | bl _ => cases r; rfl
  | int _ => cases r; rfl
  | str _ => cases r; rfl
  | tup l => obtain ⟨a, vs, e, _⟩ := r; subst e; rfl
  | lst l => obtain ⟨a, vs, e, _⟩ := r; subst e; rfl
  | loc n => obtain ⟨a, e, _⟩ := r; subst e; rfl
  | raw u => exact absurd rfl (hr u)
  | scr l => obtain ⟨a, e, _⟩ := r; subst e; rfl
def notRaw : D → Bool
  | .raw _ => false
  | _ => true
theorem notRaw_of {d : D} (h : notRaw d = true) : ∀ u, d ≠ .raw u := fun u e => by subst e; cases h
def gIsN : G2 := fun x y S => match y with
  | .non => if notRaw x = true then .ok (.bl (isNon x)) S else .bad
  | _ => .bad
def gNotN : G2 := fun x y S => match y with
  | .non => if notRaw x = true then .ok (.bl (!isNon x)) S else .bad
  | _ => .bad
theorem od_isN : OpD K (fun x y H Q => y = .non ∧ Q (.bl (decide (x = .non))) H) gIsN := by
  intro g f H S dx dy d S' x y Q s rx ry hm q
  unfold gIsN at hm
  split at hm
  · split at hm
    · rename_i hr
      cases hm
      refine ⟨ry, ?_⟩
      rw [rx.non_iff (notRaw_of hr)]
      exact q.same s rfl
    · cases hm
  · cases hm
theorem od_notN : OpD K (fun x y H Q => y = .non ∧ Q (.bl (!decide (x = .non))) H) gNotN := by
  intro g f H S dx dy d S' x y Q s rx ry hm q
  unfold gNotN at hm
  split at hm
  · split at hm
    · rename_i hr
      cases hm
      refine ⟨ry, ?_⟩
      rw [rx.non_iff (notRaw_of hr)]
      exact q.same s rfl
    · cases hm
  · cases hm

/-! ### subscripts -/
theorem RelDs.atI {l : List D} {vs : List V} {i : Int} {d : D} (r : RelDs K g f H l vs) (h : L2.atI l i = some d) : ∃ v, L2.atI vs i = some v ∧ RelD K g f H d v := by
  unfold L2.atI at h ⊢
  rw [← r.length]
  cases e : L2.ixN l.length i with
  | none => rw [e] at h; cases h
  | some j =>
    rw [e] at h
    exact RelDs.get r (show l[j]? = some d from h)
def gIx : G2 := fun x y S => match x, y with
  | .tup l, .int i => match atI l i with
    | some d => .ok d S
    | none => .bad
  | .lst l, .int i => match atI l i with
    | some d => .ok d S
    | none => .bad
  | .scr l, .int i => match atI l i with
    | some k => .ok (.int k) S
    | none => .bad
  | .loc n, .int i => match S[n]? with
    | some (.lst l) => match atI l i with
      | some d => .ok d S
      | none => .bad
    | _ => .bad
  | _, _ => .bad
theorem atI_map {α β : Type} (h : α → β) (l : List α) (i : Int) : atI (l.map h) i = (atI l i).map h := by
  unfold atI
  rw [List.length_map]
  cases ixN l.length i with
  | none => rfl
  | some j => show (l.map h)[j]? = _; rw [List.getElem?_map]; rfl
theorem od_ix : OpD K (rIx K) gIx := by
  intro g f H S dx dy d S' x y Q s rx ry hm q
  unfold gIx at hm
  split at hm
  · rename_i l i
    obtain ⟨a, vs, e, hq, r⟩ := rx
    split at hm
    · rename_i d' hd
      cases hm
      obtain ⟨v, hv, rv⟩ := r.atI hd
      exact .inr (.inl ⟨a, vs, i, v, e, ry, hq, hv, q.same s rv⟩)
    · cases hm
  · rename_i l i
    obtain ⟨a, vs, e, hq, r⟩ := rx
    split at hm
    · rename_i d' hd
      cases hm
      obtain ⟨v, hv, rv⟩ := r.atI hd
      exact .inl ⟨a, vs, i, v, e, ry, hq.sq, hv, q.same s rv⟩
    · cases hm
  · rename_i l i
    obtain ⟨a, e, hq⟩ := rx
    split at hm
    · rename_i k hk
      cases hm
      exact .inl ⟨a, _, i, .int k, e, ry, hq.sq, by rw [atI_map, hk]; rfl, q.same s rfl⟩
    · cases hm
  · rename_i n i
    obtain ⟨a, e, hq⟩ := rx
    split at hm
    · rename_i l hl
      split at hm
      · rename_i d' hd
        cases hm
        obtain ⟨vs, hH, r⟩ := s.cel n _ a hl hq
        obtain ⟨v, hv, rv⟩ := r.atI hd
        exact .inl ⟨a, vs, i, v, e, ry, .of hH, hv, q.same s rv⟩
      · cases hm
    · cases hm
  · cases hm
end

/-! ### lists that are read at once -/
/-- e is a list: whose, is not told -/
def FinQ (K : PySem.W.Frag) (g f : List Addr) (H : Hp) (l : List D) (S' : Store) (Q : VK) : Prop :=
  ∀ a vs g' H', Ext g H g' H' → RelS K g' f H' S' → SqL K H' a vs → RelDs K g' f H' l vs → Q (.ref a) H'
def tQ (K : PySem.W.Frag) (m : ML) : TE := fun σ H Q => ∃ g w o ρ S l S', Sta K g w o ρ S σ H ∧ m ρ S = .ok l S' ∧ FinQ K g (w ++ o) H l S' Q
def QM (X : Cx) (e : Expr) (m : ML) : Prop := PE X e (tQ X.K m)
section
variable {X : Cx} {e a b : Expr} {me mi : ME} {ml : ML} {pos p : Pos} {x : Str}
theorem qm_val (h : EM X e me) : QM X e (iLst me) := PE.of h fun σ H Q ⟨g, w, o, ρ, S, l, S', s, hm, q⟩ => by
  obtain ⟨d, S1, h1, h2⟩ := R.bind_ok hm
  obtain ⟨rfl, rfl⟩ := seqD_ok h2
  exact ⟨g, w, o, ρ, S, _, _, s, h1, fun v g1 H1 x1 s1 ⟨a, vs, ev, hr, r⟩ => by subst ev; exact q a vs g1 H1 x1 s1 hr.sq r⟩
theorem qm_new (h : NM X e ml) : QM X e ml := PE.of h fun σ H Q ⟨g, w, o, ρ, S, l, S', s, hm, q⟩ =>
  ⟨g, w, o, ρ, S, l, S', s, hm, fun p vs g1 H1 x1 hp n1 e1 s1 r1 => q p vs g1 H1 x1 (s1.less sub_app) (.of e1) (RelDs.less sub_app _ _ r1)⟩
/-- a name's own list -/
def qOwn (i : Nat) : ML := fun ρ S => match ρ[i]? with
  | some (some (.own (.lst l))) => .ok l S
  | _ => .bad
theorem qm_own {i : Nat} (h : PE X e (tVar i)) : QM X e (qOwn i) := PE.of h fun σ H Q ⟨g, w, o, ρ, S, l, S', s, hm, q⟩ => by
  unfold qOwn at hm
  split at hm
  · rename_i l' e'
    cases hm
    obtain ⟨a, e1, m, vs, hH, r⟩ := s.own i _ e'
    exact ⟨_, e1, q a vs g H .refl s.sto (.of hH) r⟩
  · cases hm
def locD : D → Store → R (List D)
  | .loc n, S => match S[n]? with
    | some (.lst l) => .ok l S
    | _ => .bad
  | _, _ => .bad
def iLoc (m : ME) : ML := fun ρ S => (m ρ S).bind locD
theorem locD_ok : ∀ {d : D} {S S' : Store} {l : List D}, locD d S = .ok l S' → ∃ n, d = .loc n ∧ S[n]? = some (.lst l) ∧ S' = S
  | .loc n, S, S', l, h => by
    dsimp only [locD] at h
    cases e : S[n]? with
    | none => rw [e] at h; cases h
    | some c =>
      rw [e] at h
      cases c with
      | lst l' => cases h; exact ⟨n, rfl, e, rfl⟩
      | dK _ => cases h
      | dT _ => cases h
      | dF _ => cases h
  | .non, _, _, _, h | .bl _, _, _, _, h | .int _, _, _, _, h | .str _, _, _, _, h | .tup _, _, _, _, h | .lst _, _, _, _, h | .raw _, _, _, _, h | .scr _, _, _, _, h => by cases h
theorem qm_loc (h : EM X e me) : QM X e (iLoc me) := PE.of h fun σ H Q ⟨g, w, o, ρ, S, l, S', s, hm, q⟩ => by
  obtain ⟨d, S1, h1, h2⟩ := R.bind_ok hm
  obtain ⟨n, rfl, hn, rfl⟩ := locD_ok h2
  exact ⟨g, w, o, ρ, S, _, _, s, h1, fun v g1 H1 x1 s1 ⟨a, ev, hg⟩ => by
    subst ev
    obtain ⟨vs, hH, r⟩ := s1.cel n _ a hn hg
    exact q a vs g1 H1 x1 s1 (.of hH) r⟩
def scrD : D → Store → R (List D)
  | .scr l, S => .ok (l.map .int) S
  | _, _ => .bad
def iScr (m : ME) : ML := fun ρ S => (m ρ S).bind scrD
theorem rel_ints {K : PySem.W.Frag} {g f : List Addr} {H : Hp} : ∀ l : List Int, RelDs K g f H (l.map .int) (l.map V.int)
  | [] => rfl
  | k :: l => ⟨.int k, _, rfl, rfl, rel_ints l⟩
theorem qm_scr (h : EM X e me) : QM X e (iScr me) := PE.of h fun σ H Q ⟨g, w, o, ρ, S, l, S', s, hm, q⟩ => by
  obtain ⟨d, S1, h1, h2⟩ := R.bind_ok hm
  cases d <;> first | cases h2; done | skip
  cases h2
  exact ⟨g, w, o, ρ, S, _, _, s, h1, fun v g1 H1 x1 s1 ⟨a, ev, hr⟩ => by subst ev; exact q a _ g1 H1 x1 s1 hr.sq (rel_ints _)⟩

/-! ### built-ins of one argument -/
/-- f(e), what e is being judged by t -/
def B1 (X : Cx) (e : Expr) (t : TE) : Prop := PA X [e] (tCons t tNil)
theorem b1 {t : TE} (h : PE X e t) (hs : starEach [e] X.env = (false, eval e X.env) :: starEach [] X.env := by rfl) : B1 X e t := pa_cons h pa_nil hs
/-- from a list to a value -/
def mQ (h : List D → Store → R D) (m : ML) : ME := fun ρ S => (m ρ S).bind h
theorem q_of {r : List V → Hp → VK → Prop} {h : List D → Store → R D} {σ : L2.St} {H : Hp} {Q : VK}
    (hr : ∀ g f H (S : Store) l d S' a vs Q, RelS X.K g f H S → SqL X.K H a vs → RelDs X.K g f H l vs → h l S = .ok d S' → FinE X.K g f H d S' Q → r [.ref a] H Q)
    (q : tE X.K (mQ h ml) σ H Q) : tCB r (tCons (tQ X.K ml) tNil) σ H Q := by
  obtain ⟨g, w, o, ρ, S, d, S', s, hm, q⟩ := q
  obtain ⟨l, S1, h1, hm⟩ := R.bind_ok hm
  exact ⟨g, w, o, ρ, S, l, S1, s, h1, fun a vs g1 H1 x1 s1 hq r1 => hr g1 (w ++ o) H1 S1 l d S' a vs Q s1 hq r1 hm fun v g2 H2 x2 s2 r2 => q v g2 H2 (x1.trans x2) s2 r2⟩
def hLen (l : List D) (S : Store) : R D := .ok (.int l.length) S
theorem em_len (h : QM X e ml) (hg : Gl X "len") (hm : X.mg "len" = none) (hs : starEach [e] X.env = (false, eval e X.env) :: starEach [] X.env := by rfl) (hpl : (backTo pos (starEach [] X.env)).any (·.1) = false := by rfl) : EM X (.Call (.Name "len" p) [e] [] pos) (mQ hLen ml) :=
  PE.of (pe_callB call_len_seq hg hm PySem.boot_len (b1 h hs) (by decide) (by decide) hs hpl) fun σ H Q q => q_of (fun g f H S l d S' a vs Q s hq r hm q => by
    cases hm
    exact ⟨a, vs, rfl, .inl hq, by rw [← r.length]; exact q.same s rfl⟩) q
def hTup (l : List D) (S : Store) : R D := .ok (.tup l) S
theorem em_tupleQ (h : QM X e ml) (hg : Gl X "tuple") (hm : X.mg "tuple" = none) (hb : bootBuiltins "tuple" = some (.type "tuple") := by decide +kernel) (hs : starEach [e] X.env = (false, eval e X.env) :: starEach [] X.env := by rfl) (hpl : (backTo pos (starEach [] X.env)).any (·.1) = false := by rfl) :
    EM X (.Call (.Name "tuple" p) [e] [] pos) (mQ hTup ml) :=
  PE.of (pe_callTy call_tuple_of hg hm hb (b1 h hs) (by decide) (by decide) hs hpl) fun σ H Q q => q_of (fun g f H S l d S' a vs Q s hq r hm q => by
    cases hm
    exact ⟨a, vs, rfl, .inl ⟨hq, fun t ht => q _ g _ (.new ht) (s.new ht) ⟨t, vs, rfl, .inl (.inl upd_same), RelDs.ext (.new ht) _ _ r⟩⟩⟩) q
/-- from a list to a new list -/
def mQL (h : List D → Store → R (List D)) (m : ML) : ML := fun ρ S => (m ρ S).bind h
theorem qn_of {r : List V → Hp → VK → Prop} {h : List D → Store → R (List D)} {σ : L2.St} {H : Hp} {Q : VK}
    (hr : ∀ g f H (S : Store) l d S' a vs Q, RelS X.K g f H S → SqL X.K H a vs → RelDs X.K g f H l vs → h l S = .ok d S' → FinN X.K g f H d S' Q → r [.ref a] H Q)
    (q : tN X.K (mQL h ml) σ H Q) : tCB r (tCons (tQ X.K ml) tNil) σ H Q := by
  obtain ⟨g, w, o, ρ, S, d, S', s, hm, q⟩ := q
  obtain ⟨l, S1, h1, hm⟩ := R.bind_ok hm
  exact ⟨g, w, o, ρ, S, l, S1, s, h1, fun a vs g1 H1 x1 s1 hq r1 => hr g1 (w ++ o) H1 S1 l d S' a vs Q s1 hq r1 hm fun p us g2 H2 x2 hp n2 e2 s2 r2 => q p us g2 H2 (x1.trans x2) (back_none x1 hp) n2 e2 s2 r2⟩
theorem FinN.put {K : PySem.W.Frag} {g f : List Addr} {H : Hp} {l : List D} {S : Store} {Q : VK} {vs : List V} (q : FinN K g f H l S Q) (s : RelS K g f H S) (r : RelDs K g f H l vs) : ∀ t, H t = none → Q (.ref t) (upd H t (.lst vs)) :=
  fun t ht => q t vs g _ (.new ht) ht (s.noG ht) upd_same ((s.fresh ht).new ht) (RelDs.ext (.new ht) _ _ (RelDs.fresh ht _ _ r))
def hList (l : List D) (S : Store) : R (List D) := .ok l S
theorem nm_listQ (h : QM X e ml) (hg : Gl X "list") (hm : X.mg "list" = none) (hb : bootBuiltins "list" = some (.type "list") := by decide +kernel) (hs : starEach [e] X.env = (false, eval e X.env) :: starEach [] X.env := by rfl) (hpl : (backTo pos (starEach [] X.env)).any (·.1) = false := by rfl) :
    NM X (.Call (.Name "list" p) [e] [] pos) (mQL hList ml) :=
  PE.of (pe_callTy call_list_of hg hm hb (b1 h hs) (by decide) (by decide) hs hpl) fun σ H Q q => qn_of (fun g f H S l d S' a vs Q s hq r hm q => by
    cases hm
    exact ⟨a, vs, rfl, .inl hq, q.put s r⟩) q
/-- all, any, sum of flat items -/
def blsD : List D → Option (List Bool)
  | [] => some []
  | .bl b :: r => (blsD r).map (b :: ·)
  | _ => none
def intsD : List D → Option (List Int)
  | [] => some []
  | .int b :: r => (intsD r).map (b :: ·)
  | _ => none
theorem blsD_rel {K : PySem.W.Frag} {g f : List Addr} {H : Hp} : ∀ {l : List D} {vs : List V} {bs : List Bool}, RelDs K g f H l vs → blsD l = some bs → vs = bs.map V.bl
  | [], _, _, h, e => by unfold blsD at e; cases e; cases h; rfl
  | d :: l, _, _, ⟨v, r, ev, q, t⟩, e => by
    cases d <;> unfold blsD at e <;> first | cases e; done | skip
    rename_i b
    cases hb : blsD l with
    | none => rw [hb] at e; cases e
    | some bs => rw [hb] at e; cases e; subst ev; cases q; rw [blsD_rel t hb]; rfl
theorem intsD_rel {K : PySem.W.Frag} {g f : List Addr} {H : Hp} : ∀ {l : List D} {vs : List V} {bs : List Int}, RelDs K g f H l vs → intsD l = some bs → vs = bs.map V.int
  | [], _, _, h, e => by unfold intsD at e; cases e; cases h; rfl
  | d :: l, _, _, ⟨v, r, ev, q, t⟩, e => by
    cases d <;> unfold intsD at e <;> first | cases e; done | skip
    rename_i b
    cases hb : intsD l with
    | none => rw [hb] at e; cases e
    | some bs => rw [hb] at e; cases e; subst ev; cases q; rw [intsD_rel t hb]; rfl
def hAll (l : List D) (S : Store) : R D := match blsD l with
  | some bs => .ok (.bl (bs.all id)) S
  | none => .bad
def hAny (l : List D) (S : Store) : R D := match blsD l with
  | some bs => .ok (.bl (bs.any id)) S
  | none => .bad
def hSum (l : List D) (S : Store) : R D := match intsD l with
  | some ns => .ok (.int ns.sum) S
  | none => .bad
theorem em_all (hc : X.calm = true) (h : QM X e ml) (hg : Gl X "all") (hm : X.mg "all" = none) (hb : bootBuiltins "all" = some (.builtin "all") := by decide +kernel) (hs : starEach [e] X.env = (false, eval e X.env) :: starEach [] X.env := by rfl) (hpl : (backTo pos (starEach [] X.env)).any (·.1) = false := by rfl) :
    EM X (.Call (.Name "all" p) [e] [] pos) (mQ hAll ml) :=
  PE.of (pe_callB (cr_all hc) hg hm hb (b1 h hs) (by decide) (by decide) hs hpl) fun σ H Q q => q_of (fun g f H S l d S' a vs Q s hq r hm q => by
    unfold hAll at hm
    split at hm
    · rename_i bs hbs
      cases hm
      have := blsD_rel r hbs
      subst this
      exact ⟨a, bs, rfl, hq, q.same s rfl⟩
    · cases hm) q
theorem em_any (hc : X.calm = true) (h : QM X e ml) (hg : Gl X "any") (hm : X.mg "any" = none) (hb : bootBuiltins "any" = some (.builtin "any") := by decide +kernel) (hs : starEach [e] X.env = (false, eval e X.env) :: starEach [] X.env := by rfl) (hpl : (backTo pos (starEach [] X.env)).any (·.1) = false := by rfl) :
    EM X (.Call (.Name "any" p) [e] [] pos) (mQ hAny ml) :=
  PE.of (pe_callB (cr_any hc) hg hm hb (b1 h hs) (by decide) (by decide) hs hpl) fun σ H Q q => q_of (fun g f H S l d S' a vs Q s hq r hm q => by
    unfold hAny at hm
    split at hm
    · rename_i bs hbs
      cases hm
      have := blsD_rel r hbs
      subst this
      exact ⟨a, bs, rfl, hq, q.same s rfl⟩
    · cases hm) q
theorem em_sum (hc : X.calm = true) (h : QM X e ml) (hg : Gl X "sum") (hm : X.mg "sum" = none) (hb : bootBuiltins "sum" = some (.builtin "sum") := by decide +kernel) (hs : starEach [e] X.env = (false, eval e X.env) :: starEach [] X.env := by rfl) (hpl : (backTo pos (starEach [] X.env)).any (·.1) = false := by rfl) :
    EM X (.Call (.Name "sum" p) [e] [] pos) (mQ hSum ml) :=
  PE.of (pe_callB (cr_sum hc) hg hm hb (b1 h hs) (by decide) (by decide) hs hpl) fun σ H Q q => q_of (fun g f H S l d S' a vs Q s hq r hm q => by
    unfold hSum at hm
    split at hm
    · rename_i bs hbs
      cases hm
      have := intsD_rel r hbs
      subst this
      exact ⟨a, bs, rfl, hq, q.same s rfl⟩
    · cases hm) q

/-! ### built-ins of values -/
def mB1 (h : D → Store → R D) (m : ME) : ME := fun ρ S => (m ρ S).bind h
def mA (h : List D → Store → R D) (m : MA) : ME := fun ρ S => (m ρ S).bind h
theorem a_of {r : List V → Hp → VK → Prop} {h : List D → Store → R D} {l : MA} {σ : L2.St} {H : Hp} {Q : VK}
    (hr : ∀ g f H (S : Store) l d S' vs Q, RelS X.K g f H S → RelDs X.K g f H l vs → h l S = .ok d S' → FinE X.K g f H d S' Q → r vs H Q)
    (q : tE X.K (mA h l) σ H Q) : tCB r (tA X.K l) σ H Q := by
  obtain ⟨g, w, o, ρ, S, d, S', s, hm, q⟩ := q
  obtain ⟨l, S1, h1, hm⟩ := R.bind_ok hm
  exact ⟨g, w, o, ρ, S, l, S1, s, h1, fun vs g1 H1 x1 s1 r1 => hr g1 (w ++ o) H1 S1 l d S' vs Q s1 r1 hm fun v g2 H2 x2 s2 r2 => q v g2 H2 (x1.trans x2) s2 r2⟩
def hAbs : List D → Store → R D
  | [.int i], S => .ok (.int (if i < 0 then -i else i)) S
  | _, _ => .bad
def hMax2 : List D → Store → R D
  | [.int i, .int j], S => .ok (.int (if j > i then j else i)) S
  | _, _ => .bad
def hMin2 : List D → Store → R D
  | [.int i, .int j], S => .ok (.int (if j < i then j else i)) S
  | _, _ => .bad
def hInt : List D → Store → R D
  | [.int i], S => .ok (.int i) S
  | [.bl k], S => .ok (.int (if k then 1 else 0)) S
  | _, _ => .bad
variable {l : MA} {es : List Expr}
theorem em_abs (h : AM X [e] l) (hg : Gl X "abs") (hm : X.mg "abs" = none) (hb : bootBuiltins "abs" = some (.builtin "abs") := by decide +kernel) (hs : starEach [e] X.env = (false, eval e X.env) :: starEach [] X.env := by rfl) (hpl : (backTo pos (starEach [] X.env)).any (·.1) = false := by rfl) :
    EM X (.Call (.Name "abs" p) [e] [] pos) (mA hAbs l) :=
  PE.of (pe_callB call_abs hg hm hb h (by decide) (by decide) hs hpl) fun σ H Q q => a_of (fun g f H S l d S' vs Q s r hm q => by
    unfold hAbs at hm
    split at hm
    · cases hm
      obtain ⟨v, t, ev, rv, rn⟩ := r
      cases rv; cases rn
      exact ⟨_, ev, q.same s rfl⟩
    · cases hm) q
theorem em_max2 (hc : X.calm = true) (h : AM X [a, b] l) (hg : Gl X "max") (hm : X.mg "max" = none) (hb : bootBuiltins "max" = some (.builtin "max") := by decide +kernel) (hs : starEach [a, b] X.env = (false, eval a X.env) :: starEach [b] X.env := by rfl) (hpl : (backTo pos (starEach [b] X.env)).any (·.1) = false := by rfl) :
    EM X (.Call (.Name "max" p) [a, b] [] pos) (mA hMax2 l) :=
  PE.of (pe_callB (call_max2 hc) hg hm hb h (by decide) (by decide) hs hpl) fun σ H Q q => a_of (fun g f H S l d S' vs Q s r hm q => by
    unfold hMax2 at hm
    split at hm
    · cases hm
      obtain ⟨v, t, ev, rv, v2, t2, ev2, rv2, rn⟩ := r
      cases rv; subst ev2; cases rv2; cases rn
      exact ⟨_, _, ev, q.same s rfl⟩
    · cases hm) q
theorem em_min2 (hc : X.calm = true) (h : AM X [a, b] l) (hg : Gl X "min") (hm : X.mg "min" = none) (hb : bootBuiltins "min" = some (.builtin "min") := by decide +kernel) (hs : starEach [a, b] X.env = (false, eval a X.env) :: starEach [b] X.env := by rfl) (hpl : (backTo pos (starEach [b] X.env)).any (·.1) = false := by rfl) :
    EM X (.Call (.Name "min" p) [a, b] [] pos) (mA hMin2 l) :=
  PE.of (pe_callB (call_min2 hc) hg hm hb h (by decide) (by decide) hs hpl) fun σ H Q q => a_of (fun g f H S l d S' vs Q s r hm q => by
    unfold hMin2 at hm
    split at hm
    · cases hm
      obtain ⟨v, t, ev, rv, v2, t2, ev2, rv2, rn⟩ := r
      cases rv; subst ev2; cases rv2; cases rn
      exact ⟨_, _, ev, q.same s rfl⟩
    · cases hm) q
theorem em_int1 (h : AM X [e] l) (hg : Gl X "int") (hm : X.mg "int" = none) (hb : bootBuiltins "int" = some (.type "int") := by decide +kernel) (hs : starEach [e] X.env = (false, eval e X.env) :: starEach [] X.env := by rfl) (hpl : (backTo pos (starEach [] X.env)).any (·.1) = false := by rfl) :
    EM X (.Call (.Name "int" p) [e] [] pos) (mA hInt l) :=
  PE.of (pe_callTy call_int1 hg hm hb h (by decide) (by decide) hs hpl) fun σ H Q q => a_of (fun g f H S l d S' vs Q s r hm q => by
    unfold hInt at hm
    split at hm
    · cases hm
      obtain ⟨v, t, ev, rv, rn⟩ := r
      cases rv; cases rn
      exact .inl ⟨_, ev, q.same s rfl⟩
    · cases hm
      obtain ⟨v, t, ev, rv, rn⟩ := r
      cases rv; cases rn
      exact .inr ⟨_, ev, q.same s rfl⟩
    · cases hm) q
/-- -a -/
def gNeg : D → Store → R D
  | .int i, S => .ok (.int (-i)) S
  | _, _ => .bad
theorem em_neg (h : EM X a me) : EM X (.UnaryOp .USub a pos) (mB1 gNeg me) := PE.of (pe_un un_neg h) fun σ H Q ⟨g, w, o, ρ, S, d, S', s, hm, q⟩ => by
  obtain ⟨d1, S1, h1, h2⟩ := R.bind_ok hm
  cases d1 <;> first | cases h2; done | skip
  cases h2
  exact ⟨g, w, o, ρ, S, _, _, s, h1, fun v g1 H1 x1 s1 r1 => ⟨_, r1, q _ g1 H1 x1 s1 rfl⟩⟩

/-! ### a list that changes -/
/-- x.append(e), x a name with a list of its own -/
def mApp (i : Nat) (m : ME) : MS := fun ρ S => (m ρ S).bind fun d S1 => match ρ[i]? with
  | some (some (.own (.lst l))) => if l.length < sizeLine then .ok (.nx (ρ.set i (some (.own (.lst (l ++ [d])))))) S1 else .bad
  | _ => .bad
theorem sm_append {o : Expr} {apos cpos spos : Pos} {i : Nat} (ho : PE X o (tVar i)) (ha : EM X e me) (hbase : attributeBase o "append" X.env (eval o X.env) = eval o X.env := by rfl)
    (hfew : ((backTo cpos (starEach [e] X.env)).all (fun x => !x.1) && (backToKw cpos (keywordEach [] X.env)).all (fun x => x.1.isSome) && decide ([e].length + ([] : List Keyword).length + (if ([] : List Keyword).isEmpty then 0 else 1) < 30)) = true := by rfl)
    (hline : (apos.endLine == cpos.line) = true := by rfl) (hs : starEach [e] X.env = (false, eval e X.env) :: starEach [] X.env := by rfl) (hplain : (backTo cpos (starEach [] X.env)).any (·.1) = false := by rfl)
    (hsw : swapsWith (.Call (.Attribute o "append" apos) [e] [] cpos) none spos.line X.env = pure false := by rfl) : SM X (.Expr (.Call (.Attribute o "append" apos) [e] [] cpos) spos) (mApp i me) :=
  PS.of (ps_expr (pe_bm PySem.F.plainAttrs_list PySem.F.slot_list_append PySem.F.type_list_append mt_append ho (pa_cons ha pa_nil hs) hbase hfew hline hs hplain) hsw) fun E σ H ⟨g, w, o, ρ, S, fl, S', s, hm, q⟩ => by
    obtain ⟨d, S1, h1, hm⟩ := R.bind_ok hm
    split at hm
    · rename_i l hl
      split at hm
      · rename_i hz
        cases hm
        obtain ⟨a, e1, m, vs, hH, r⟩ := s.own i _ hl
        refine ⟨_, e1, .inl ⟨rfl, vs, .of hH⟩, ?_⟩
        refine ⟨g, w, o, ρ, S, d, _, s, h1, fun v g1 H1 x1 s1 r1 => ?_⟩
        have st1 := s.ext x1 s1
        obtain ⟨a', e1', m', vs', hH', r'⟩ := st1.own i _ hl
        rw [e1] at e1'; cases e1'
        have mD : Mut (H1 a) := by rw [hH']; trivial
        have fD : a ∈ w ++ o := List.mem_append_right _ m
        refine ⟨a, vs', v, rfl, rfl, hH', by rw [← r'.length]; exact hz, q g1 o _ (x1.s.trans (.updO mD m)) _ (st1.updO hl e1 mD ?_)⟩
        exact ⟨vs' ++ [v], upd_same, RelDs.upd mD (.inl fD) _ _ (RelDs.append r' ⟨v, [], rfl, r1, rfl⟩)⟩
      · cases hm
    · cases hm
/-- x[i] = e, x a cell of the store -/
def putC (c k d : D) (S : Store) : Option Store := match c, k with
  | .loc n, .int j => match S[n]? with
    | some (.lst l) => (ixN l.length j).map fun m => S.set n (.lst (l.set m d))
    | _ => none
  | _, _ => none
theorem putC_ok : ∀ {c k d : D} {S S' : Store}, putC c k d S = some S' → ∃ n j l m, c = .loc n ∧ k = .int j ∧ S[n]? = some (.lst l) ∧ ixN l.length j = some m ∧ S' = S.set n (.lst (l.set m d))
  | .loc n, .int j, d, S, S', h => by
    dsimp only [putC] at h
    cases e : S[n]? with
    | none => rw [e] at h; cases h
    | some c =>
      rw [e] at h
      cases c with
      | lst l =>
        cases e2 : ixN l.length j with
        | none => have h : (ixN l.length j).map (fun m => S.set n (.lst (l.set m d))) = some S' := h; rw [e2] at h; cases h
        | some m => have h : (ixN l.length j).map (fun m => S.set n (.lst (l.set m d))) = some S' := h; rw [e2] at h; cases h; exact ⟨n, j, l, m, rfl, rfl, e, e2, rfl⟩
      | dK _ => cases h
      | dT _ => cases h
      | dF _ => cases h
  | .loc n, .non, _, _, _, h | .loc n, .bl _, _, _, _, h | .loc n, .str _, _, _, _, h | .loc n, .tup _, _, _, _, h | .loc n, .lst _, _, _, _, h | .loc n, .loc _, _, _, _, h | .loc n, .raw _, _, _, _, h | .loc n, .scr _, _, _, _, h => by cases h
  | .non, _, _, _, _, h | .bl _, _, _, _, _, h | .int _, _, _, _, _, h | .str _, _, _, _, _, h | .tup _, _, _, _, _, h | .lst _, _, _, _, _, h | .raw _, _, _, _, _, h | .scr _, _, _, _, _, h => by cases h
def mSetC (o i e : ME) : MS := fun ρ S => (e ρ S).bind fun d S1 => (o ρ S1).bind fun c S2 => (i ρ S2).bind fun k S3 => match putC c k d S3 with
  | some S4 => .ok (.nx ρ) S4
  | none => .bad
theorem sm_setC {st : Stmt} {mo : ME} (h : PS X st (tAsg (tE X.K me) (gSub (tE X.K mo) (tE X.K mi) rSetL))) : SM X st (mSetC mo mi me) := PS.of h fun E σ H ⟨g, w, o, ρ, S, fl, S', s, hm, q⟩ => by
  obtain ⟨d, S1, h1, hm⟩ := R.bind_ok hm
  obtain ⟨c, S2, h2, hm⟩ := R.bind_ok hm
  obtain ⟨k, S3, h3, hm⟩ := R.bind_ok hm
  split at hm
  · rename_i S4 hp
    cases hm
    obtain ⟨n, j, l, m, rfl, rfl, hl, hmx, rfl⟩ := putC_ok hp
    refine ⟨g, w, o, ρ, S, d, S1, s, h1, fun v g1 H1 x1 s1 r1 => ?_⟩
    have t1 := s.ext x1 s1
    refine ⟨g1, w, o, ρ, S1, _, S2, t1, h2, fun vc g2 H2 x2 s2 r2 => ?_⟩
    have t2 := t1.ext x2 s2
    refine ⟨g2, w, o, ρ, S2, _, S3, t2, h3, fun vk g3 H3 x3 s3 r3 => ?_⟩
    have t3 := t2.ext x3 s3
    obtain ⟨a, ea, hg⟩ := RelD.ext x3 _ _ r2
    obtain ⟨vs, hH, r⟩ := s3.cel n _ a hl hg
    have mD : Mut (H3 a) := by rw [hH]; trivial
    have gD : a ∈ g3 := List.mem_of_getElem? hg
    have rv := RelD.ext (x2.trans x3) d v r1
    refine ⟨a, vs, j, m, ea, r3, hH, by rw [← r.length]; exact hmx, ?_⟩
    have x4 : Ext g3 H3 g3 (upd H3 a (.lst (vs.set m v))) := .updG mD gD
    have s4 := s3.updG (c := .lst (l.set m d)) (u := .lst (vs.set m v)) mD hg ⟨_, upd_same, RelDs.upd mD (.inr gD) _ _ (RelDs.set r rv)⟩
    exact q g3 o _ (((x1.trans x2).trans x3).trans x4).s σ (t3.ext x4 s4)
  · cases hm
end
end Mo
set_option maxRecDepth 100000
set_option maxHeartbeats 1000000
/-! Mo: the law's own head. -/
namespace Mo
open PySem PySem.Spec PyProof.Rows L2

section
variable {P : Program} {w : World} {K : PySem.W.Frag} {mg mb : Str → Option Value} {k : Nat} {fa a : Addr} {fd : FuncData} {x : Str} {s : Shared} {ob : Obj} {its : Array Value} {n : Nat}
/-- from an abstract heap that holds the script alone, or nothing -/
theorem head_core (kin : K.In s.heap) (hG : s.heap.Ns mainGlobals mg) (hB : s.heap.Ns builtinsNs mb) (hbb : ∀ y : Str, y ≠ "__name__" → mb y = bootBuiltins y) (lim : s.heap.NoLimit) (gens : s.gens = #[])
    (ho : s.heap.get? a = some ob) (hd : ob.data = .seq its n) (hr : Room k callerA) (F : ∀ base : Heap, K.In base → base.Ns mainGlobals mg → FnG P w K mg base CX0 k fa fd [x] (spM K 1 m))
    (hbind : ∀ (s : Shared) (u : Value), BindsTo s fd ⟨[u], []⟩ [(x, u)]) (H : Hp) (hH : ∀ b u, H b = some u → b = a ∧ K.lookup a = none ∧ ∃ xs, u = .frz ob (.lst xs)) (hok : HOk P w H s.heap)
    (hsp : spM K 1 m [.ref a] H (fun v _ => v = .bl true) E0) :
    codeAny (model P w) callerA (.call (.ref fa) ⟨[.ref a], []⟩) (fun r s' => r = .ok (.ret (.bool true)) ∧ OldK s.heap s'.heap ∧ s'.os = s.os ∧ AllBare s'.gens) s := by
  have un : ∀ {b : Addr}, b ≠ a → H b = none := fun {b} hb => by
    cases e : H b with
    | none => rfl
    | some u => exact absurd (hH b u e).1 hb
  have apart : ∀ {b : Addr} {o : Obj} {es : Array DictEntry} {ep : Nat}, s.heap.get? b = some o → o.data = .dict es ep → b ≠ a := fun {b o es ep} e d z => by
    subst z
    rw [ho] at e
    cases e
    rw [hd] at d
    cases d
  have ns : ∀ {b : Addr} {f : Str → Option Value}, s.heap.Ns b f → (hidT s.heap H).Ns b f := by
    rintro b f ⟨o, es, ep, e, d, r⟩
    exact ⟨o, es, ep, hidT_get e (un (apart e d)), d, r⟩
  have kin' : K.In (hidT s.heap H) := by
    intro b o e
    refine hidT_get (kin b o e) ?_
    cases q : H b with
    | none => rfl
    | some u =>
      obtain ⟨hb, hk, _⟩ := hH b u q
      subst hb
      rw [hk] at e
      cases e
  have lim' : (hidT s.heap H).NoLimit := by
    obtain ⟨mc, h1, h2⟩ := lim
    exact ⟨mc, ns h1, h2⟩
  have env : Env0 P w K mg (hidT s.heap H) callerA [] s H :=
    { frames := rfl, mod := ⟨kin', ns hG, ⟨mb, ns hB, hbb⟩, lim'⟩, bs := fun b o e => of_hidT e, bsz := Nat.le_of_eq (hidT_size _ _), funs := trivial, frf := fun b hb => (nomatch hb), hok := hok, bare := .of_eq gens }
  refine codeAny_mono ((F _ kin' (ns hG)).go callerA [] s H ⟨[.ref a], []⟩ [.ref a] [.ref a] _ _ rfl hr env (hbind s (.ref a)) (.cons rfl .nil) hsp) ?_
  intro r s' hq
  match r, hq with
  | .error e, hq => exact hq.elim
  | .ok .next, hq => exact hq.elim
  | .ok .brk, hq => exact hq.elim
  | .ok .cont, hq => exact hq.elim
  | .ok (.ret u), ⟨v, H', os, bare, ch, hok', rv, q⟩ =>
    subst q
    cases rv
    refine ⟨rfl, OldK.of_keep fun b o e => ?_, os, bare⟩
    by_cases hb : b = a
    · subst hb
      cases q : H b with
      | none => exact ch.keep b o e q (fun z => nomatch z) (fun z => nomatch z)
      | some u =>
        obtain ⟨_, _, xs, rfl⟩ := hH b u q
        have e1 := (hok b _ q).1
        have e2 := (hok' b _ (ch.frzs b ob _ q)).1
        rw [e] at e1
        cases e1
        exact e2
    · exact ch.keep b o e (un hb) (fun z => nomatch z) (fun z => nomatch z)
end
section
variable {l : PySem.W.OpenLaw} {n k : Nat} {q : Program} {loose : List Str} {XP : (Str → Option Value) → Heap → Prop} {YP : World → Heap → Prop} {d : DefRec} {K : Params → PySem.W.Frag} {x : Str} {m : MF}
/-- what k_head leaves, from the law's meaning at every script -/
theorem walk_g (hn : l.most = some n) (hn2 : n ≤ sizeLine) (hdf : d.params.defaults = []) (hr : Room k callerA) (hY : ∀ (w : World) (h : Heap), YP w h → (K w.params).In h)
    (F : ∀ (w : World) (mg : Str → Option Value) (fa : Addr) (h : Heap), (K w.params).In h → h.Ns mainGlobals mg → mg d.name = some (.ref fa) →
      ∃ fd : FuncData, (∀ (s : Shared) (u : Value), BindsTo s fd ⟨[u], []⟩ [(x, u)]) ∧ ∀ base : Heap, (K w.params).In base → base.Ns mainGlobals mg → FnG l.prog w (K w.params) mg base CX0 k fa fd [x] (spM (K w.params) 1 m))
    (hm : ∀ ns : List Int, ns.length ≤ n → ∃ S', m [.scr ns] [] = .ok (.bl true) S') : PySem.W.WalkO q loose XP YP l.row.toRowW d [] (fun f vs => PySem.call f vs) := by
  refine Att.attach_call hn hdf ?_
  intro w s0 s1 mg mb fa o pm cd doc a vs ns G Y ho hd hcd hmg hobj hints hlen hg
  have KX := hY w _ Y
  obtain ⟨fd, hb, hF⟩ := F w mg fa _ KX G.T.g hmg
  have rv := vals_ints hints
  have hz : ns.length ≤ sizeLine := Nat.le_trans hlen hn2
  obtain ⟨S', hS⟩ := hm ns hlen
  have sp : ∀ H : Hp, ScrL (K w.params) [] [] H a (ns.map V.int) → spM (K w.params) 1 m [.ref a] H (fun v _ => v = .bl true) E0 := fun H hs =>
    ⟨rfl, [], [], [.scr ns], [], .bl true, S', fun b hb => (nomatch hb), ⟨rfl, List.nodup_nil, fun n c a e _ => by simp at e⟩, ⟨.ref a, [], rfl, ⟨a, rfl, hs⟩, rfl⟩, hS, fun v g' H' _ _ r => r⟩
  by_cases hk : (K w.params).lookup a = none
  · refine head_core (H := fun b => if b = a then some (.frz { cls := .type "list", data := .seq vs.toArray } (.lst (ns.map V.int))) else none) KX G.T.g G.T.b G.T.builtins G.T.nolimit hg hobj rfl hr hF hb (fun b u e => ?_) (fun b u e => ?_) (sp _ (.inl ⟨(fun z => nomatch z), (fun z => nomatch z), .inr ⟨_, if_pos rfl⟩⟩))
    · skip
      by_cases hba : b = a
      · rw [if_pos hba] at e
        cases e
        exact ⟨hba, hk, _, rfl⟩
      · rw [if_neg hba] at e; cases e
    · dsimp only at e
      by_cases hba : b = a
      · rw [if_pos hba] at e
        cases e
        subst hba
        exact ⟨hobj, by rw [List.length_map]; exact hz, vs, _, rv, hobj⟩
      · rw [if_neg hba] at e; cases e
  · cases e : (K w.params).lookup a with
    | none => exact absurd e hk
    | some oK =>
      have e2 := KX a oK e
      rw [hobj] at e2
      cases e2
      refine head_core (H := fun _ => none) KX G.T.g G.T.b G.T.builtins G.T.nolimit hg hobj rfl hr hF hb (fun b u e => nomatch e) (fun b u e => nomatch e) (sp _ (.inr ⟨_, vs.toArray, _, e, rfl, rfl, rfl, ?_, by simpa using rv⟩))
      rw [List.size_toArray, hints.length]
      exact hz
end
end Mo
set_option maxRecDepth 100000
set_option maxHeartbeats 1000000
/-! Mo: order, sorted, min, max, repr of data; dicts as cells of the store. -/
namespace Mo
open PySem PySem.Spec PyProof.Rows L2

/-! ### back from data -/
mutual
def ofP : PyData → D
  | .none => .non
  | .bool b => .bl b
  | .int i => .int i
  | .str x => .str x
  | .tuple l => .tup (ofPs l)
  | .list l => .lst (ofPs l)
  | .dict _ => .non
def ofPs : List PyData → List D
  | [] => []
  | p :: ps => ofP p :: ofPs ps
end
mutual
theorem ofP_toP : ∀ (d : D) (p : PyData), toP d = some p → ofP p = d
  | .non, _, e => by unfold toP at e; cases e; rw [ofP]
  | .bl b, _, e => by unfold toP at e; cases e; rw [ofP]
  | .int i, _, e => by unfold toP at e; cases e; rw [ofP]
  | .str x, _, e => by unfold toP at e; cases e; rw [ofP]
  | .tup l, _, e => by
    unfold toP at e
    cases h : toPs l with
    | none => rw [h] at e; cases e
    | some ps => rw [h] at e; cases e; rw [ofP, ofPs_toPs l ps h]
  | .lst l, _, e => by
    unfold toP at e
    cases h : toPs l with
    | none => rw [h] at e; cases e
    | some ps => rw [h] at e; cases e; rw [ofP, ofPs_toPs l ps h]
  | .loc n, _, e => by unfold toP at e; cases e
  | .raw n, _, e => by unfold toP at e; cases e
  | .scr n, _, e => by unfold toP at e; cases e
theorem ofPs_toPs : ∀ (l : List D) (ps : List PyData), toPs l = some ps → ofPs ps = l
  | [], _, e => by unfold toPs at e; cases e; rw [ofPs]
  | d :: ds, _, e => by
    unfold toPs at e
    split at e
    · rename_i p ps hp hps
      cases e
      rw [ofPs, ofP_toP d p hp, ofPs_toPs ds ps hps]
    · cases e
end
mutual
theorem toP_noDict : ∀ (d : D) (p : PyData), toP d = some p → p.hasDict = false
  | .non, _, e => by unfold toP at e; cases e; rw [PyData.hasDict]
  | .bl b, _, e => by unfold toP at e; cases e; rw [PyData.hasDict]
  | .int i, _, e => by unfold toP at e; cases e; rw [PyData.hasDict]
  | .str x, _, e => by unfold toP at e; cases e; rw [PyData.hasDict]
  | .tup l, _, e => by
    unfold toP at e
    cases h : toPs l with
    | none => rw [h] at e; cases e
    | some ps => rw [h] at e; cases e; rw [PyData.hasDict, toPs_noDict l ps h]
  | .lst l, _, e => by
    unfold toP at e
    cases h : toPs l with
    | none => rw [h] at e; cases e
    | some ps => rw [h] at e; cases e; rw [PyData.hasDict, toPs_noDict l ps h]
  | .loc n, _, e => by unfold toP at e; cases e
  | .raw n, _, e => by unfold toP at e; cases e
  | .scr n, _, e => by unfold toP at e; cases e
theorem toPs_noDict : ∀ (l : List D) (ps : List PyData), toPs l = some ps → PyData.hasDictAll ps = false
  | [], _, e => by unfold toPs at e; cases e; rw [PyData.hasDictAll]
  | d :: ds, _, e => by
    unfold toPs at e
    split at e
    · rename_i p ps hp hps
      cases e
      rw [PyData.hasDictAll, toP_noDict d p hp, toPs_noDict ds ps hps]; rfl
    · cases e
end
theorem toPs_length : ∀ {l : List D} {ps : List PyData}, toPs l = some ps → l.length = ps.length
  | [], _, e => by unfold toPs at e; cases e; rfl
  | d :: ds, _, e => by
    unfold toPs at e
    split at e
    · rename_i p ps hp hps
      cases e
      rw [List.length_cons, List.length_cons, toPs_length hps]
    · cases e
theorem toPs_get : ∀ {l : List D} {ps : List PyData} {i : Nat} {d : D}, toPs l = some ps → l[i]? = some d → ∃ p, ps[i]? = some p ∧ toP d = some p
  | [], _, i, _, _, h => by simp at h
  | d :: ds, _, i, e, hp, h => by
    unfold toPs at hp
    split at hp
    · rename_i p ps h1 h2
      cases hp
      cases i with
      | zero => simp at h; subst h; exact ⟨p, rfl, h1⟩
      | succ i => exact toPs_get (i := i) h2 (by simpa using h)
    · cases hp

/-! ### repr -/
def notNoneP : PyData → Bool
  | .none => false
  | _ => true
/-- what repr gives of a tuple or a list -/
def shownOk (p : PyData) : Prop := p.showable = true ∧ p.depth ≤ 60 ∧ p.shown.length ≤ sizeLine
instance : ∀ p, Decidable (shownOk p) := fun _ => by unfold shownOk; infer_instance
def gRepr (d : D) (S : Store) : R D := match d with
  | .tup _ => match toP d with
    | some p => if shownOk p then .ok (.str p.shown) S else .bad
    | none => .bad
  | .lst _ => match toP d with
    | some p => if shownOk p then .ok (.str p.shown) S else .bad
    | none => .bad
  | _ => .bad
section
variable {X : Cx}
theorem cr_repr (hg : X.A.guards = some []) (hu : X.A.units + 64 < cLine) : CallR X (.builtin "repr") (fun xs H Q => ∃ a p, xs = [.ref a] ∧ Dp X.K H (.ref a) p ∧ p.hasDict = false ∧ shownOk p ∧ Q (.str p.shown) H) := by
  intro pins s σ H xs us Q I r h
  obtain ⟨a, p, rfl, hd, nd, ⟨h1, h2, h3⟩, q⟩ := h
  rw [Vals.ref1 r]
  obtain ⟨as, rd⟩ := Dp.reads I p (.ref a) (.ref a) hd rfl
  refine repr_of_reads' rd h1 (fun z => by rw [nd] at z; cases z) hg (by omega) (fun _ _ e => e) (fun h' u tk hk => ?_) h3
  exact ⟨.str p.shown, H, I.kept (t' := tk) hk, ⟨u, rfl⟩, q⟩
variable {e a b : Expr} {me ma mb mk mv : ME} {ml : ML} {l : MA} {pos p : Pos}
theorem em_repr (hgd : X.A.guards = some []) (hu : X.A.units + 64 < cLine) (h : EM X e me) (hg : Gl X "repr") (hm : X.mg "repr" = none) (hb : bootBuiltins "repr" = some (.builtin "repr") := by decide +kernel) (hs : starEach [e] X.env = (false, eval e X.env) :: starEach [] X.env := by rfl) (hpl : (backTo pos (starEach [] X.env)).any (·.1) = false := by rfl) :
    EM X (.Call (.Name "repr" p) [e] [] pos) (mB1 gRepr me) :=
  PE.of (pe_callB (cr_repr hgd hu) hg hm hb (b1 h hs) (by decide) (by decide) hs hpl) fun σ H Q ⟨g, w, o, ρ, S, d, S', s, hm, q⟩ => by
    obtain ⟨d1, S1, h1, h2⟩ := R.bind_ok hm
    refine ⟨g, w, o, ρ, S, d1, S1, s, h1, fun v g1 H1 x1 s1 r1 => ?_⟩
    unfold gRepr at h2
    split at h2
    · rename_i l
      split at h2
      · rename_i pd hp
        split at h2
        · rename_i hok
          cases h2
          have dp := RelD.dp _ _ _ r1 hp
          obtain ⟨a, vs, ev, _⟩ := r1
          subst ev
          exact ⟨a, pd, rfl, dp, toP_noDict _ _ hp, hok, q _ g1 H1 x1 s1 rfl⟩
        · cases h2
      · cases h2
    · rename_i l
      split at h2
      · rename_i pd hp
        split at h2
        · rename_i hok
          cases h2
          have dp := RelD.dp _ _ _ r1 hp
          obtain ⟨a, vs, ev, _⟩ := r1
          subst ev
          exact ⟨a, pd, rfl, dp, toP_noDict _ _ hp, hok, q _ g1 H1 x1 s1 rfl⟩
        · cases h2
      · cases h2
    · cases h2

/-! ### min, max of data -/
def alikeB (ps : List PyData) : Bool := ps.all (fun x => ps.all (PySem.W.alike x)) && ps.all notNoneP
theorem alikeB_of {ps : List PyData} (h : alikeB ps = true) : PySem.W.AlikeAll ps := by
  unfold alikeB at h
  rw [Bool.and_eq_true, List.all_eq_true, List.all_eq_true] at h
  refine ⟨fun x hx y hy => List.all_eq_true.mp (h.1 x hx) y hy, fun x hx e => ?_⟩
  have := h.2 x hx
  subst e
  cases this
def hMinD (l : List D) (S : Store) : R D := match toPs l with
  | some (p :: ps) => if alikeB (p :: ps) = true ∧ PyData.depthAll (p :: ps) ≤ 60 then .ok (ofP (PySem.W.minD p ps)) S else .bad
  | _ => .bad
def hMaxD (l : List D) (S : Store) : R D := match toPs l with
  | some (p :: ps) => if alikeB (p :: ps) = true ∧ PyData.depthAll (p :: ps) ≤ 60 then .ok (ofP (PySem.W.maxD p ps)) S else .bad
  | _ => .bad
theorem alike_data {ps : List PyData} (h : PySem.W.AlikeAll ps) {x y : PyData} (hx : x ∈ ps) (hy : y ∈ ps) : PySem.W.alike x y = true := h.1 x hx y hy
theorem minD_mem (x : PyData) : ∀ xs : List PyData, PySem.W.minD x xs ∈ x :: xs := by
  intro xs
  unfold PySem.W.minD
  induction xs generalizing x with
  | nil => simp
  | cons y ys ih =>
    rw [List.foldl_cons]
    have := ih (if PySem.W.dataLt y x = true then y else x)
    rcases List.mem_cons.mp this with e | e
    · rw [e]
      split <;> simp
    · simp [e]
theorem maxD_mem (x : PyData) : ∀ xs : List PyData, PySem.W.maxD x xs ∈ x :: xs := by
  intro xs
  unfold PySem.W.maxD
  induction xs generalizing x with
  | nil => simp
  | cons y ys ih =>
    rw [List.foldl_cons]
    have := ih (if PySem.W.dataLt x y = true then y else x)
    rcases List.mem_cons.mp this with e | e
    · rw [e]
      split <;> simp
    · simp [e]
/-- the answer: one of the items, the least (the greatest) -/
theorem pick_item {K : PySem.W.Frag} {g f : List Addr} {H : Hp} {l : List D} {ps : List PyData} {vs : List V} {its : List Value} {h h' : Heap} {as bs : List Addr} {i : Nat} {v : Value} {p : PyData} (ha : PySem.W.AlikeAll ps) (hp : toPs l = some ps) (r : RelDs K g f H l vs) (rv : Vals vs its)
    (hr : ReadsAll h its ps as) (hk : ∀ b o, h.get? b = some o → h'.get? b = some o) (hi : its[i]? = some v) (hm : p ∈ ps) (hb : Reads h' v p bs) : ∃ x, RelV x v ∧ RelD K g f H (ofP p) x := by
  obtain ⟨bs', rd, hlt, mem, _⟩ := PySem.W.readsAll_at hr i v hi
  have hl : i < l.length := by rw [toPs_length hp]; exact hlt
  obtain ⟨x, ex, rx⟩ := r.get (List.getElem?_eq_getElem hl)
  obtain ⟨p', ep, tp⟩ := toPs_get hp (List.getElem?_eq_getElem hl)
  have e1 : ps.getD i .none = p' := by rw [List.getD_eq_getElem?_getD, ep]; rfl
  rw [e1] at rd mem
  have e2 : p' = p := PySem.W.alike_unique p' p v _ _ (ha.1 p' mem p hm) (PySem.W.reads_keeps hk rd) hb
  subst e2
  obtain ⟨u, eu, ru⟩ := rv.get ex
  rw [eu] at hi
  cases hi
  exact ⟨x, ru, by rw [ofP_toP _ _ tp]; exact rx⟩
theorem cr_minD (hc : X.calm = true) (hu : X.A.units + 64 < cLine) : CallR X (.builtin "min") (fun xs H Q => ∃ a vs l d S g f, xs = [.ref a] ∧ SqL X.K H a vs ∧ RelDs X.K g f H l vs ∧ hMinD l S = .ok d S ∧ ∀ v, RelD X.K g f H d v → Q v H) := by
  intro pins s σ H xs us Q I r h
  obtain ⟨a, vs, l, d, S, g, f, rfl, hs, rl, hm, q⟩ := h
  rw [Vals.ref1 r]
  obtain ⟨its, rv, pl, _⟩ := I.list hs
  unfold hMinD at hm
  split at hm
  · rename_i p ps hp
    split at hm
    · rename_i hc2
      cases hm
      have ha := alikeB_of hc2.1
      obtain ⟨as, hr⟩ := Dp.readsAll I _ _ its (RelDs.dp _ _ _ rl hp) rv
      refine PySem.W.min_list_data (I.ok.hd hc) pl.isList (x := p) (xs := ps) (by simpa using hr) ha (by omega) fun i v h' tk bs hi hb hk => ?_
      obtain ⟨x, rx, rd⟩ := pick_item ha hp rl rv hr hk (by simpa using hi) (minD_mem p ps) hb
      exact ⟨x, H, I.kept (t' := tk) hk, rx, q x rd⟩
    · cases hm
  · cases hm
theorem cr_maxD (hc : X.calm = true) (hu : X.A.units + 64 < cLine) : CallR X (.builtin "max") (fun xs H Q => ∃ a vs l d S g f, xs = [.ref a] ∧ SqL X.K H a vs ∧ RelDs X.K g f H l vs ∧ hMaxD l S = .ok d S ∧ ∀ v, RelD X.K g f H d v → Q v H) := by
  intro pins s σ H xs us Q I r h
  obtain ⟨a, vs, l, d, S, g, f, rfl, hs, rl, hm, q⟩ := h
  rw [Vals.ref1 r]
  obtain ⟨its, rv, pl, _⟩ := I.list hs
  unfold hMaxD at hm
  split at hm
  · rename_i p ps hp
    split at hm
    · rename_i hc2
      cases hm
      have ha := alikeB_of hc2.1
      obtain ⟨as, hr⟩ := Dp.readsAll I _ _ its (RelDs.dp _ _ _ rl hp) rv
      refine PySem.W.max_list_data (I.ok.hd hc) pl.isList (x := p) (xs := ps) (by simpa using hr) ha (by omega) fun i v h' tk bs hi hb hk => ?_
      obtain ⟨x, rx, rd⟩ := pick_item ha hp rl rv hr hk (by simpa using hi) (maxD_mem p ps) hb
      exact ⟨x, H, I.kept (t' := tk) hk, rx, q x rd⟩
    · cases hm
  · cases hm
theorem hMinD_S {l : List D} {S S' : Store} {d : D} (h : hMinD l S = .ok d S') : S' = S ∧ hMinD l S = .ok d S := by
  have h0 := h
  unfold hMinD at h
  split at h
  · split at h
    · cases h; exact ⟨rfl, h0⟩
    · cases h
  · cases h
theorem hMaxD_S {l : List D} {S S' : Store} {d : D} (h : hMaxD l S = .ok d S') : S' = S ∧ hMaxD l S = .ok d S := by
  have h0 := h
  unfold hMaxD at h
  split at h
  · split at h
    · cases h; exact ⟨rfl, h0⟩
    · cases h
  · cases h
theorem em_minQ (hc : X.calm = true) (hu : X.A.units + 64 < cLine) (h : QM X e ml) (hg : Gl X "min") (hm : X.mg "min" = none) (hb : bootBuiltins "min" = some (.builtin "min") := by decide +kernel) (hs : starEach [e] X.env = (false, eval e X.env) :: starEach [] X.env := by rfl) (hpl : (backTo pos (starEach [] X.env)).any (·.1) = false := by rfl) :
    EM X (.Call (.Name "min" p) [e] [] pos) (mQ hMinD ml) :=
  PE.of (pe_callB (cr_minD hc hu) hg hm hb (b1 h hs) (by decide) (by decide) hs hpl) fun σ H Q q => q_of (fun g f H S l d S' a vs Q s hq r hm q => by
    obtain ⟨rfl, h2⟩ := hMinD_S hm
    exact ⟨a, vs, l, d, S', g, f, rfl, hq, r, h2, fun v rv => q.same s rv⟩) q
theorem em_maxQ (hc : X.calm = true) (hu : X.A.units + 64 < cLine) (h : QM X e ml) (hg : Gl X "max") (hm : X.mg "max" = none) (hb : bootBuiltins "max" = some (.builtin "max") := by decide +kernel) (hs : starEach [e] X.env = (false, eval e X.env) :: starEach [] X.env := by rfl) (hpl : (backTo pos (starEach [] X.env)).any (·.1) = false := by rfl) :
    EM X (.Call (.Name "max" p) [e] [] pos) (mQ hMaxD ml) :=
  PE.of (pe_callB (cr_maxD hc hu) hg hm hb (b1 h hs) (by decide) (by decide) hs hpl) fun σ H Q q => q_of (fun g f H S l d S' a vs Q s hq r hm q => by
    obtain ⟨rfl, h2⟩ := hMaxD_S hm
    exact ⟨a, vs, l, d, S', g, f, rfl, hq, r, h2, fun v rv => q.same s rv⟩) q
end
end Mo
set_option maxRecDepth 100000
set_option maxHeartbeats 1000000
/-! Mo: max and min of two data, sorted, dicts, enumerate, list * n. -/
namespace Mo
open PySem PySem.Spec PyProof.Rows L2

/-! ### max(a, b), min(a, b) of data -/
section
variable {prog : Program} {w : World} {A : Around} {E : Value → Shared → Prop} {s : Shared}
theorem max_two_data {a b : Value} {x y : PyData} {as bs : List Addr} {Q : Value → Shared → Prop} (hh : A.handled = none) (ra : Reads s.heap a x as) (rb : Reads s.heap b y bs) (hal : PySem.W.AlikeAll [x, y]) (hu : A.units + 1 + PyData.depthAll [x, y] < cLine)
    (h : ∀ h' tk, (∀ c o, s.heap.get? c = some o → h'.get? c = some o) → Q (if PySem.W.dataLt x y = true then b else a) { s with heap := h', toks := tk }) : wpAny (model prog w) A (call (.builtin "max") [a, b]) Q E s := by
  have hT : (s.heap.push { cls := .type "tuple", data := .seq #[a, b] }).IsTuple s.heap.objs.size #[a, b] := ⟨_, Heap.get?_push_size _ rfl, rfl, 0, rfl⟩
  have nm : (toString "max" ++ toString ".loop" : String) = "max.loop" := by decide
  have k0 : ∀ c o, s.heap.get? c = some o → (s.heap.push { cls := .type "tuple", data := .seq #[a, b] }).get? c = some o := fun c o e => Heap.get?_push_of_some _ e
  have hr : ReadsAll (s.heap.push { cls := .type "tuple", data := .seq #[a, b] }) #[a, b].toList [x, y] (as ++ (bs ++ [])) := .cons (Reads.keeps k0 ra) (.cons (Reads.keeps k0 rb) .nil)
  refine call_function_tree F.kind_max F.plain_max F.entry_max (F.args_max2 _ _) ?_
  show wpAny _ A.in1 (Builtin.Builtins.bindParams "max" ["key", "default"] 0 ⟨[], []⟩ >>= _) _ _ s
  refine wpAny_bind (wpAny_of_eq (show Builtin.Builtins.bindParams "max" ["key", "default"] 0 ⟨[], []⟩ = pure [none, none] from rfl) ?_)
  show wpAny _ A.in1 (newTuple [a, b] >>= _) _ _ s
  refine wpAny_bind (wpAny_newObj_type ?_)
  refine wpAny_bind (PySem.W.iter_tupleW (A := A.in1) (s := { s with heap := s.heap.push { cls := .type "tuple", data := .seq #[a, b] } }) hh hT fun s2 e W st hfp hw hk => ?_)
  refine wpAny_bind (wpAny_newObj_type ?_)
  have nf : s2.heap.objs.size ∉ [(s.heap.push { cls := .type "tuple", data := .seq #[a, b] }).objs.size, s.heap.objs.size] := fun hm => Nat.lt_irrefl _ (hfp _ hm)
  rw [nm]
  refine wpAny_pure ⟨plainId_quiet F.plain_max_loop _, codeAny_max_loop_firstH W _ hw _ (PySem.W.cmpIn_gt (A := A.in1) (s := { s with heap := s.heap.push { cls := .type "tuple", data := .seq #[a, b] } }) hr hal (by show A.units + 1 + _ < _; exact hu)) s2.heap.objs.size nf (fresh_in hk) _ (by show 0 < 2; decide)
    (fun c o q => Heap.get?_push_of_some _ (hk c o q)) (W.frame 0 s2 _ s2.toks st (Nat.le_refl _) fun c _ o q => Heap.get?_push_of_some _ q) (Heap.get?_push_size _ rfl) fun v s' hP hm => ?_⟩
  obtain ⟨h', tk, rfl, hk'⟩ := PySem.W.moved_old e rfl (Moved.drop_new (tk := s2.toks) hm (Nat.le_refl _))
  have hv : v = if PySem.W.dataLt x y = true then b else a := by
    cases hc : PySem.W.dataLt x y <;> simp [argBest, hc] at hP <;> simp [hP]
  rw [hv]
  exact h h' tk fun c o q => hk' c o (k0 c o q)
theorem min_two_data {a b : Value} {x y : PyData} {as bs : List Addr} {Q : Value → Shared → Prop} (hh : A.handled = none) (ra : Reads s.heap a x as) (rb : Reads s.heap b y bs) (hal : PySem.W.AlikeAll [x, y]) (hu : A.units + 1 + PyData.depthAll [x, y] < cLine)
    (h : ∀ h' tk, (∀ c o, s.heap.get? c = some o → h'.get? c = some o) → Q (if PySem.W.dataLt y x = true then b else a) { s with heap := h', toks := tk }) : wpAny (model prog w) A (call (.builtin "min") [a, b]) Q E s := by
  have hT : (s.heap.push { cls := .type "tuple", data := .seq #[a, b] }).IsTuple s.heap.objs.size #[a, b] := ⟨_, Heap.get?_push_size _ rfl, rfl, 0, rfl⟩
  have nm : (toString "min" ++ toString ".loop" : String) = "min.loop" := by decide
  have k0 : ∀ c o, s.heap.get? c = some o → (s.heap.push { cls := .type "tuple", data := .seq #[a, b] }).get? c = some o := fun c o e => Heap.get?_push_of_some _ e
  have hr : ReadsAll (s.heap.push { cls := .type "tuple", data := .seq #[a, b] }) #[a, b].toList [x, y] (as ++ (bs ++ [])) := .cons (Reads.keeps k0 ra) (.cons (Reads.keeps k0 rb) .nil)
  refine call_function_tree F.kind_min F.plain_min F.entry_min (F.args_min2 _ _) ?_
  show wpAny _ A.in1 (Builtin.Builtins.bindParams "min" ["key", "default"] 0 ⟨[], []⟩ >>= _) _ _ s
  refine wpAny_bind (wpAny_of_eq (show Builtin.Builtins.bindParams "min" ["key", "default"] 0 ⟨[], []⟩ = pure [none, none] from rfl) ?_)
  show wpAny _ A.in1 (newTuple [a, b] >>= _) _ _ s
  refine wpAny_bind (wpAny_newObj_type ?_)
  refine wpAny_bind (PySem.W.iter_tupleW (A := A.in1) (s := { s with heap := s.heap.push { cls := .type "tuple", data := .seq #[a, b] } }) hh hT fun s2 e W st hfp hw hk => ?_)
  refine wpAny_bind (wpAny_newObj_type ?_)
  have nf : s2.heap.objs.size ∉ [(s.heap.push { cls := .type "tuple", data := .seq #[a, b] }).objs.size, s.heap.objs.size] := fun hm => Nat.lt_irrefl _ (hfp _ hm)
  rw [nm]
  refine wpAny_pure ⟨plainId_quiet F.plain_min_loop _, codeAny_min_loop_firstH W _ hw _ (PySem.W.cmpIn_lt (A := A.in1) (s := { s with heap := s.heap.push { cls := .type "tuple", data := .seq #[a, b] } }) hr hal (by show A.units + 1 + _ < _; exact hu)) s2.heap.objs.size nf (fresh_in hk) _ (by show 0 < 2; decide)
    (fun c o q => Heap.get?_push_of_some _ (hk c o q)) (W.frame 0 s2 _ s2.toks st (Nat.le_refl _) fun c _ o q => Heap.get?_push_of_some _ q) (Heap.get?_push_size _ rfl) fun v s' hP hm => ?_⟩
  obtain ⟨h', tk, rfl, hk'⟩ := PySem.W.moved_old e rfl (Moved.drop_new (tk := s2.toks) hm (Nat.le_refl _))
  have hv : v = if PySem.W.dataLt y x = true then b else a := by
    cases hc : PySem.W.dataLt y x <;> simp [argBest, hc] at hP <;> simp [hP]
  rw [hv]
  exact h h' tk fun c o q => hk' c o (k0 c o q)
end
/-- the two alike, not too deep -/
def two? (x y : D) : Option (PyData × PyData) := match toP x, toP y with
  | some p, some q => if alikeB [p, q] = true ∧ PyData.depthAll [p, q] ≤ 60 then some (p, q) else none
  | _, _ => none
def hMax2D : List D → Store → R D
  | [x, y], S => match two? x y with
    | some (p, q) => .ok (if PySem.W.dataLt p q = true then y else x) S
    | none => .bad
  | _, _ => .bad
def hMin2D : List D → Store → R D
  | [x, y], S => match two? x y with
    | some (p, q) => .ok (if PySem.W.dataLt q p = true then y else x) S
    | none => .bad
  | _, _ => .bad
theorem two_of {x y : D} {p q : PyData} (h : two? x y = some (p, q)) : toP x = some p ∧ toP y = some q ∧ PySem.W.AlikeAll [p, q] ∧ PyData.depthAll [p, q] ≤ 60 := by
  unfold two? at h
  split at h
  · rename_i p' q' h1 h2
    split at h
    · rename_i hc
      cases h
      exact ⟨h1, h2, alikeB_of hc.1, hc.2⟩
    · cases h
  · cases h
section
variable {X : Cx} {e a b : Expr} {me ma mb mk mv mo : ME} {ml : ML} {l : MA} {pos p : Pos}
theorem cr_max2D (hc : X.calm = true) (hu : X.A.units + 64 < cLine) : CallR X (.builtin "max") (fun xs H Q => ∃ x y p q, xs = [x, y] ∧ Dp X.K H x p ∧ Dp X.K H y q ∧ PySem.W.AlikeAll [p, q] ∧ PyData.depthAll [p, q] ≤ 60 ∧ Q (if PySem.W.dataLt p q = true then y else x) H) := by
  intro pins s σ H xs us Q I r h
  obtain ⟨x, y, p, q, rfl, h1, h2, ha, hd, hq⟩ := h
  obtain ⟨u, v, rfl, ru, rv⟩ := Vals.two r
  obtain ⟨as, r1⟩ := Dp.reads I p x u h1 ru
  obtain ⟨bs, r2⟩ := Dp.reads I q y v h2 rv
  refine max_two_data (I.ok.hd hc) r1 r2 ha (by omega) fun h' tk hk => ⟨_, H, I.kept (t' := tk) hk, ?_, hq⟩
  by_cases z : PySem.W.dataLt p q = true
  · rw [if_pos z, if_pos z]; exact rv
  · rw [if_neg z, if_neg z]; exact ru
theorem cr_min2D (hc : X.calm = true) (hu : X.A.units + 64 < cLine) : CallR X (.builtin "min") (fun xs H Q => ∃ x y p q, xs = [x, y] ∧ Dp X.K H x p ∧ Dp X.K H y q ∧ PySem.W.AlikeAll [p, q] ∧ PyData.depthAll [p, q] ≤ 60 ∧ Q (if PySem.W.dataLt q p = true then y else x) H) := by
  intro pins s σ H xs us Q I r h
  obtain ⟨x, y, p, q, rfl, h1, h2, ha, hd, hq⟩ := h
  obtain ⟨u, v, rfl, ru, rv⟩ := Vals.two r
  obtain ⟨as, r1⟩ := Dp.reads I p x u h1 ru
  obtain ⟨bs, r2⟩ := Dp.reads I q y v h2 rv
  refine min_two_data (I.ok.hd hc) r1 r2 ha (by omega) fun h' tk hk => ⟨_, H, I.kept (t' := tk) hk, ?_, hq⟩
  by_cases z : PySem.W.dataLt q p = true
  · rw [if_pos z, if_pos z]; exact rv
  · rw [if_neg z, if_neg z]; exact ru
theorem em_max2D (hc : X.calm = true) (hu : X.A.units + 64 < cLine) (h : AM X [a, b] l) (hg : Gl X "max") (hm : X.mg "max" = none) (hb : bootBuiltins "max" = some (.builtin "max") := by decide +kernel) (hs : starEach [a, b] X.env = (false, eval a X.env) :: starEach [b] X.env := by rfl) (hpl : (backTo pos (starEach [b] X.env)).any (·.1) = false := by rfl) :
    EM X (.Call (.Name "max" p) [a, b] [] pos) (mA hMax2D l) :=
  PE.of (pe_callB (cr_max2D hc hu) hg hm hb h (by decide) (by decide) hs hpl) fun σ H Q q => a_of (fun g f H S l d S' vs Q s r hm q => by
    match l, r, hm with
    | [x, y], ⟨v, t, ev, rv, v2, t2, ev2, rv2, rn⟩, hm =>
      dsimp only [hMax2D] at hm
      split at hm
      · rename_i p' q' h2
        cases hm
        obtain ⟨t1, t2', ha, hd⟩ := two_of h2
        cases rn; subst ev2
        refine ⟨v, v2, p', q', ev, RelD.dp _ _ _ rv t1, RelD.dp _ _ _ rv2 t2', ha, hd, ?_⟩
        by_cases z : PySem.W.dataLt p' q' = true
        · rw [if_pos z] at q ⊢; exact q.same s rv2
        · rw [if_neg z] at q ⊢; exact q.same s rv
      · cases hm
    | [], _, hm => cases hm
    | [_], _, hm => cases hm
    | _ :: _ :: _ :: _, _, hm => cases hm) q
theorem em_min2D (hc : X.calm = true) (hu : X.A.units + 64 < cLine) (h : AM X [a, b] l) (hg : Gl X "min") (hm : X.mg "min" = none) (hb : bootBuiltins "min" = some (.builtin "min") := by decide +kernel) (hs : starEach [a, b] X.env = (false, eval a X.env) :: starEach [b] X.env := by rfl) (hpl : (backTo pos (starEach [b] X.env)).any (·.1) = false := by rfl) :
    EM X (.Call (.Name "min" p) [a, b] [] pos) (mA hMin2D l) :=
  PE.of (pe_callB (cr_min2D hc hu) hg hm hb h (by decide) (by decide) hs hpl) fun σ H Q q => a_of (fun g f H S l d S' vs Q s r hm q => by
    match l, r, hm with
    | [x, y], ⟨v, t, ev, rv, v2, t2, ev2, rv2, rn⟩, hm =>
      dsimp only [hMin2D] at hm
      split at hm
      · rename_i p' q' h2
        cases hm
        obtain ⟨t1, t2', ha, hd⟩ := two_of h2
        cases rn; subst ev2
        refine ⟨v, v2, p', q', ev, RelD.dp _ _ _ rv t1, RelD.dp _ _ _ rv2 t2', ha, hd, ?_⟩
        by_cases z : PySem.W.dataLt q' p' = true
        · rw [if_pos z] at q ⊢; exact q.same s rv2
        · rw [if_neg z] at q ⊢; exact q.same s rv
      · cases hm
    | [], _, hm => cases hm
    | [_], _, hm => cases hm
    | _ :: _ :: _ :: _, _, hm => cases hm) q

/-! ### sorted -/
def encD (d : D) : PyData := (toP d).getD .none
def sortableB (ps : List PyData) : Bool := ps.all (fun p => match p with | .tuple (_ :: _) => true | _ => false) || ps.all fun p => match p with | .none => false | .tuple _ => false | _ => true
theorem sortableB_of {ps : List PyData} (h : sortableB ps = true) : PySem.W.Sortable ps := by
  unfold sortableB at h
  rw [Bool.or_eq_true, List.all_eq_true, List.all_eq_true] at h
  rcases h with h | h
  · refine .inl fun d hd => ?_
    have := h d hd
    split at this
    · exact ⟨_, _, rfl⟩
    · cases this
  · refine .inr fun d hd => ⟨fun e => ?_, fun xs e => ?_⟩
    · have := h d hd
      rw [e] at this
      cases this
    · have := h d hd
      rw [e] at this
      cases this
def sortD (l : List D) : List D := l.mergeSort (PySem.W.dataLe false encD)
def hSorted (l : List D) (S : Store) : R (List D) := match toPs l with
  | some ps => if ps.all (fun x => ps.all (PySem.W.alike x)) = true ∧ sortableB ps = true ∧ PyData.depthAll ps ≤ 60 then .ok (sortD l) S else .bad
  | none => .bad
theorem each_vals {ys : List (D × V)} : ∀ {out : List Value}, PySem.W.EachIs (fun v (b : D × V) => RelV b.2 v) out ys → Vals (ys.map (·.2)) out := by
  induction ys with
  | nil => intro out h; cases h; exact .nil
  | cons y ys ih => intro out h; cases h with | cons r t => exact .cons r (ih t)
theorem depth_le_all : ∀ {ps : List PyData} {p : PyData}, p ∈ ps → p.depth ≤ PyData.depthAll ps
  | q :: ps, p, h => by
    rw [PyData.depthAll]
    rcases List.mem_cons.mp h with e | e
    · rw [e]; exact Nat.le_max_left _ _
    · exact Nat.le_trans (depth_le_all e) (Nat.le_max_right _ _)
theorem cr_sortedD (hu : X.A.units + 64 < cLine) : CallR X (.builtin "sorted") (fun xs H Q => ∃ a vs l ps g f, xs = [.ref a] ∧ SqL X.K H a vs ∧ RelDs X.K g f H l vs ∧ toPs l = some ps ∧ PySem.W.AllAlike ps ∧ PySem.W.Sortable ps ∧ PyData.depthAll ps ≤ 60 ∧
    ∀ p us, H p = none → RelDs X.K g f H (sortD l) us → Q (.ref p) (upd H p (.lst us))) := by
  intro pins s σ H xs us Q I r h
  obtain ⟨a, vs, l, ps, g, f, rfl, hs, rl, hp, hal, hso, hd, q⟩ := h
  rw [Vals.ref1 r]
  obtain ⟨its, rv, pl, hz⟩ := I.list hs
  obtain ⟨as, hr⟩ := Dp.readsAll I _ _ its (RelDs.dp _ _ _ rl hp) rv
  -- items, values, data side by side
  have eenc : ∀ {l : List D} {ps : List PyData}, toPs l = some ps → l.map encD = ps := by
    intro l
    induction l with
    | nil => intro ps h; unfold toPs at h; cases h; rfl
    | cons d l ih =>
      intro ps h
      unfold toPs at h
      split at h
      · rename_i p ps' h1 h2
        cases h
        rw [List.map_cons, ih h2]
        unfold encD
        rw [h1]; rfl
      · cases h
  have e1 := eenc hp
  have hz1 : (l.zip vs).map (·.1) = l := List.map_fst_zip (by rw [rl.length]; exact Nat.le_refl _)
  have hz2 : (l.zip vs).map (·.2) = vs := List.map_snd_zip (by rw [rl.length]; exact Nat.le_refl _)
  have hze : (l.zip vs).map (fun b => encD b.1) = ps := by rw [← e1, ← hz1, List.map_map]; rw [hz1]; rfl
  have E1 : ∀ {zs : List (D × V)} {its : List Value}, Vals (zs.map (·.2)) its → PySem.W.EachIs (fun v (b : D × V) => RelV b.2 v) its zs := by
    intro zs
    induction zs with
    | nil => intro its h; cases h; exact .nil
    | cons z zs ih => intro its h; cases h with | cons r t => exact .cons r (ih t)
  have ea : PySem.W.EachIs (fun v (b : D × V) => RelV b.2 v) its (l.zip vs) := E1 (by rw [hz2]; exact rv)
  have er : PySem.W.EachIs (fun v (b : D × V) => ∃ as, Reads s.heap v (encD b.1) as) its (l.zip vs) := PySem.W.readsAll_each (fun b : D × V => encD b.1) (by rw [hze]; exact hr)
  have hlen : (l.zip vs).length = vs.length := by rw [← hz2, List.length_map, hz2]
  refine PySem.W.sorted_data (R := fun v (b : D × V) => RelV b.2 v) (enc := fun b : D × V => encD b.1) pl.isList ea er (by rw [hze]; exact hal) (by rw [hze]; exact hso) (by rw [hlen]; exact hz) (fun b hb => ?_) fun out hl2 ho => ?_
  · have : encD b.1 ∈ ps := by rw [← hze]; exact List.mem_map.mpr ⟨b, hb, rfl⟩
    have := depth_le_all this
    omega
  · obtain ⟨ep, he'⟩ := PyProof.Rows.sortedAll_at s.heap its (List.toArray out)
    have hs2 : ((l.zip vs).mergeSort (PySem.W.dataLe false fun b : D × V => encD b.1)).map (·.1) = sortD l := by
      unfold sortD
      rw [List.map_mergeSort (r := PySem.W.dataLe false fun b : D × V => encD b.1) (s := PySem.W.dataLe false encD) (f := (·.1)) (fun _ _ _ _ => rfl), hz1]
    have rel : ∀ {zs : List (D × V)}, (∀ z ∈ zs, RelD X.K g f H z.1 z.2) → RelDs X.K g f H (zs.map (·.1)) (zs.map (·.2)) := by
      intro zs
      induction zs with
      | nil => intro _; rfl
      | cons z zs ih => intro hz; exact ⟨z.2, _, rfl, hz z List.mem_cons_self, ih fun y hy => hz y (List.mem_cons_of_mem _ hy)⟩
    have relz : ∀ {l : List D} {vs : List V}, RelDs X.K g f H l vs → ∀ z ∈ l.zip vs, RelD X.K g f H z.1 z.2 := by
      intro l
      induction l with
      | nil => intro vs h z hz; simp at hz
      | cons d l ih =>
        intro vs h z hz
        obtain ⟨v, r, e, q, t⟩ := h
        subst e
        rcases List.mem_cons.mp hz with e | hz
        · rw [e]; exact q
        · exact ih t z hz
    have rr : RelDs X.K g f H (sortD l) (((l.zip vs).mergeSort (PySem.W.dataLe false fun b : D × V => encD b.1)).map (·.2)) := by
      rw [← hs2]
      exact rel fun z hz => relz rl z ((List.mergeSort_perm _ _).mem_iff.mp hz)
    refine ⟨.ref _, upd H (s.heap.objs.size + 1) (.lst _), I.laid (t' := s.toks) (fun _ _ => PyProof.Rows.sortedAll_old) (Nat.le_succ _) ⟨?_, out, ep, each_vals ho, he'⟩, rfl, q _ _ (I.hok.fresh (Nat.le_succ _)) rr⟩
    rw [List.length_map, (List.mergeSort_perm _ _).length_eq, hlen]
    exact hz
theorem nm_sorted (hu : X.A.units + 64 < cLine) (h : QM X e ml) (hg : Gl X "sorted") (hm : X.mg "sorted" = none) (hb : bootBuiltins "sorted" = some (.builtin "sorted") := by decide +kernel) (hs : starEach [e] X.env = (false, eval e X.env) :: starEach [] X.env := by rfl) (hpl : (backTo pos (starEach [] X.env)).any (·.1) = false := by rfl) :
    NM X (.Call (.Name "sorted" p) [e] [] pos) (mQL hSorted ml) :=
  PE.of (pe_callB (cr_sortedD hu) hg hm hb (b1 h hs) (by decide) (by decide) hs hpl) fun σ H Q q => qn_of (fun g f H S l d S' a vs Q s hq r hm q => by
    unfold hSorted at hm
    split at hm
    · rename_i ps hp
      split at hm
      · rename_i hc
        cases hm
        refine ⟨a, vs, l, ps, g, f, rfl, hq, r, hp, fun x hx y hy => ?_, sortableB_of hc.2.1, hc.2.2, fun t us ht rs => q.put s rs t ht⟩
        exact List.all_eq_true.mp (List.all_eq_true.mp hc.1 x hx) y hy
      · cases hm
    · cases hm) q

/-! ### list * n, list + list -/
def gRep : D → D → Store → R (List D)
  | .lst l, .int k, S => if -(2 ^ 63) ≤ k ∧ k < 2 ^ 63 ∧ l.length * k.toNat ≤ sizeLine then .ok (List.replicate k.toNat l).flatten S else .bad
  | _, _, _ => .bad
def gCatL : D → D → Store → R (List D)
  | .lst l, .lst m, S => if l.length + m.length ≤ sizeLine then .ok (l ++ m) S else .bad
  | _, _, _ => .bad
def n2 (h : D → D → Store → R (List D)) (a b : ME) : ML := fun ρ S => (a ρ S).bind fun x S1 => (b ρ S1).bind fun y S2 => h x y S2
theorem nop_of {r : R2} {h : D → D → Store → R (List D)} (od : ∀ (g f : List Addr) (H : Hp) (S : Store) (dx dy : D) (d : List D) (S' : Store) (x y : V) (Q : VK), RelS X.K g f H S → RelD X.K g f H dx x → RelD X.K g f H dy y → h dx dy S = .ok d S' → FinN X.K g f H d S' Q → r x y H Q)
    {σ : L2.St} {H : Hp} {Q : VK} (q : tN X.K (n2 h ma mb) σ H Q) : tOp r (tE X.K ma) (tE X.K mb) σ H Q := by
  obtain ⟨g, w, o, ρ, S, d, S', s, hm, q⟩ := q
  obtain ⟨x, S1, h1, hm⟩ := R.bind_ok hm
  obtain ⟨y, S2, h2, hm⟩ := R.bind_ok hm
  refine ⟨g, w, o, ρ, S, x, S1, s, h1, fun vx g1 H1 x1 s1 r1 => ?_⟩
  refine ⟨g1, w, o, ρ, S1, y, S2, s.ext x1 s1, h2, fun vy g2 H2 x2 s2 r2 => ?_⟩
  exact od g2 (w ++ o) H2 S2 x y d S' vx vy Q s2 (RelD.ext x2 x vx r1) r2 hm fun p vs g3 H3 x3 hp n3 e3 s3 r3 => q p vs g3 H3 ((x1.trans x2).trans x3) (back_none (x1.trans x2) hp) n3 e3 s3 r3
theorem rel_rep {K : PySem.W.Frag} {g f : List Addr} {H : Hp} {l : List D} {vs : List V} (r : RelDs K g f H l vs) : ∀ k : Nat, RelDs K g f H (List.replicate k l).flatten (List.replicate k vs).flatten
  | 0 => rfl
  | k + 1 => by
    rw [List.replicate_succ, List.replicate_succ, List.flatten_cons, List.flatten_cons]
    exact RelDs.append r (rel_rep r k)
theorem nm_rep (ha : EM X a ma) (hb : EM X b mb) : NM X (.BinOp a .Mult b pos) (n2 gRep ma mb) := PE.of (pe_op op_rep ha hb) fun σ H Q q => nop_of (fun g f H S dx dy d S' x y Q s rx ry hm q => by
  unfold gRep at hm
  split at hm
  · rename_i l k
    split at hm
    · rename_i hc
      cases hm
      obtain ⟨a, vs, ev, hr, r⟩ := rx
      exact ⟨a, k, vs, ev, ry, hr.2.2, hc.1, hc.2.1, by rw [← r.length]; exact hc.2.2, q.put s (rel_rep r _)⟩
    · cases hm
  · cases hm) q
theorem nm_cat (ha : EM X a ma) (hb : EM X b mb) : NM X (.BinOp a .Add b pos) (n2 gCatL ma mb) := PE.of (pe_op op_cat ha hb) fun σ H Q q => nop_of (fun g f H S dx dy d S' x y Q s rx ry hm q => by
  unfold gCatL at hm
  split at hm
  · rename_i l m
    split at hm
    · rename_i hc
      cases hm
      obtain ⟨a, vs, ev, hr, r⟩ := rx
      obtain ⟨a2, vs2, ev2, hr2, r2⟩ := ry
      exact ⟨a, a2, vs, vs2, ev, ev2, hr.2.2, hr2.2.2, by rw [← r.length, ← r2.length]; exact hc, q.put s (RelDs.append r r2)⟩
    · cases hm
  · cases hm) q
end
end Mo
set_option maxRecDepth 100000
set_option maxHeartbeats 1000000
/-! Mo: dicts as cells of the store, enumerate, append to a cell. -/
namespace Mo
open PySem PySem.Spec PyProof.Rows L2

section
variable {κ : Type} [DecidableEq κ]
def valA (l : List (κ × D)) (k : κ) : Option D := (l.find? fun kv => decide (kv.1 = k)).map (·.2)
def putA (l : List (κ × D)) (k : κ) (d : D) : List (κ × D) :=
  if (l.any fun kv => decide (kv.1 = k)) = true then l.map (fun kv => if kv.1 = k then (kv.1, d) else kv) else l ++ [(k, d)]
variable {K : PySem.W.Frag} {g f : List Addr} {H : Hp}
theorem RelKv.length : ∀ {l : List (κ × D)} {kvs : List (κ × V)}, RelKv K g f H l kvs → l.length = kvs.length
  | [], _, h => by cases h; rfl
  | p :: ps, _, ⟨v, r, e, _, t⟩ => by rw [e, List.length_cons, List.length_cons, RelKv.length t]
theorem RelKv.keys : ∀ {l : List (κ × D)} {kvs : List (κ × V)}, RelKv K g f H l kvs → kvs.map (·.1) = l.map (·.1)
  | [], _, h => by cases h; rfl
  | p :: ps, _, ⟨v, r, e, _, t⟩ => by rw [e, List.map_cons, List.map_cons, RelKv.keys t]
theorem RelKv.any {k : κ} : ∀ {l : List (κ × D)} {kvs : List (κ × V)}, RelKv K g f H l kvs → (kvs.any fun kv => decide (kv.1 = k)) = (l.any fun kv => decide (kv.1 = k))
  | [], _, h => by cases h; rfl
  | p :: ps, _, ⟨v, r, e, _, t⟩ => by rw [e, List.any_cons, List.any_cons, RelKv.any t]
theorem RelKv.val {k : κ} : ∀ {l : List (κ × D)} {kvs : List (κ × V)}, RelKv K g f H l kvs → (∀ d, valA l k = some d → ∃ v, valV kvs k = some v ∧ RelD K g f H d v) ∧ (valA l k = none → valV kvs k = none)
  | [], _, h => by cases h; exact ⟨(fun d e => nomatch e), (fun _ => rfl)⟩
  | p :: ps, _, ⟨v, r, e, q, t⟩ => by
    subst e
    obtain ⟨i1, i2⟩ := RelKv.val (k := k) t
    by_cases hk : p.1 = k
    · refine ⟨fun d hd => ⟨v, by simp [valV, List.find?_cons, hk], ?_⟩, fun hn => ?_⟩
      · simp [valA, List.find?_cons, hk] at hd
        subst hd
        exact q
      · simp [valA, List.find?_cons, hk] at hn
    · have e1 : valA (p :: ps) k = valA ps k := by simp [valA, List.find?_cons, hk]
      have e2 : valV ((p.1, v) :: r) k = valV r k := by simp [valV, List.find?_cons, hk]
      rw [e1, e2]
      exact ⟨i1, i2⟩
theorem RelKv.append {d : D} {v : V} {k : κ} : ∀ {l : List (κ × D)} {kvs : List (κ × V)}, RelKv K g f H l kvs → RelD K g f H d v → RelKv K g f H (l ++ [(k, d)]) (kvs ++ [(k, v)])
  | [], _, h, q => by cases h; exact ⟨v, [], rfl, q, rfl⟩
  | p :: ps, _, ⟨v', r, e, q', t⟩, q => by subst e; exact ⟨v', _, rfl, q', RelKv.append t q⟩
theorem RelKv.swap {d : D} {v : V} {k : κ} : ∀ {l : List (κ × D)} {kvs : List (κ × V)}, RelKv K g f H l kvs → RelD K g f H d v → RelKv K g f H (l.map fun kv => if kv.1 = k then (kv.1, d) else kv) (kvs.map fun kv => if kv.1 = k then (kv.1, v) else kv)
  | [], _, h, q => by cases h; rfl
  | p :: ps, _, ⟨v', r, e, q', t⟩, q => by
    subst e
    rw [List.map_cons, List.map_cons]
    by_cases hk : p.1 = k
    · rw [if_pos hk, if_pos hk]
      exact ⟨v, _, rfl, q, RelKv.swap t q⟩
    · rw [if_neg hk, if_neg hk]
      exact ⟨v', _, rfl, q', RelKv.swap t q⟩
theorem RelKv.put {l : List (κ × D)} {kvs : List (κ × V)} {d : D} {v : V} {k : κ} (r : RelKv K g f H l kvs) (q : RelD K g f H d v) : RelKv K g f H (putA l k d) (putK kvs k v) := by
  unfold putA putK
  rw [r.any]
  split
  · exact r.swap q
  · exact r.append q
end
def keyD : D → Option Key
  | .int i => some (.inl i)
  | .str x => some (.inr x)
  | _ => none
theorem keyD_rel {K : PySem.W.Frag} {g f : List Addr} {H : Hp} {d : D} {v : V} {k : Key} (r : RelD K g f H d v) (h : keyD d = some k) : v = kV k := by
  cases d <;> unfold keyD at h <;> first | cases h; done | skip
  · cases h; cases r; rfl
  · cases h; cases r; rfl
def dictAt (S : Store) : D → Option (List (Key × D))
  | .loc n => match S[n]? with
    | some (.dK l) => some l
    | _ => none
  | _ => none
theorem dictAt_of {S : Store} {d : D} {l : List (Key × D)} (h : dictAt S d = some l) : ∃ n, d = .loc n ∧ S[n]? = some (.dK l) := by
  cases d with
  | loc n =>
    dsimp only [dictAt] at h
    cases e : S[n]? with
    | none => rw [e] at h; cases h
    | some c =>
      rw [e] at h
      cases c with
      | dK l' => cases h; exact ⟨n, rfl, e⟩
      | lst _ => cases h
      | dT _ => cases h
      | dF _ => cases h
  | _ => cases h
/-- read, walked through or not -/
def dictR (S : Store) : D → Option (List (Key × D))
  | .loc n => match S[n]? with
    | some (.dK l) => some l
    | some (.dF l) => some l
    | _ => none
  | _ => none
theorem dictR_of {S : Store} {d : D} {l : List (Key × D)} (h : dictR S d = some l) : ∃ n, d = .loc n ∧ (S[n]? = some (.dK l) ∨ S[n]? = some (.dF l)) := by
  cases d with
  | loc n =>
    dsimp only [dictR] at h
    cases e : S[n]? with
    | none => rw [e] at h; cases h
    | some c =>
      rw [e] at h
      cases c with
      | dK l' => cases h; exact ⟨n, rfl, .inl e⟩
      | lst _ => cases h
      | dT _ => cases h
      | dF l' => cases h; exact ⟨n, rfl, .inr e⟩
  | _ => cases h
theorem RelS.rd {K : PySem.W.Frag} {g f : List Addr} {H : Hp} {S : Store} {n : Nat} {a : Addr} {l : List (Key × D)} (s : RelS K g f H S) (hn : S[n]? = some (.dK l) ∨ S[n]? = some (.dF l)) (hg : g[n]? = some a) : ∃ kvs, Rd H a (.dK kvs) ∧ RelKv K g f H l kvs := by
  rcases hn with hn | hn
  · obtain ⟨kvs, hH, r⟩ := s.cel n _ a hn hg
    exact ⟨kvs, .inl hH, r⟩
  · obtain ⟨kvs, hH, r⟩ := s.cel n _ a hn hg
    exact ⟨kvs, .inr hH, r⟩
section
variable {X : Cx} {e a b o i : Expr} {me ma mb mk mx mv mo : ME} {ml : ML} {l : MA} {pos p apos cpos : Pos}
def mDNewK : ME := fun _ S => .ok (.loc S.length) (S ++ [.dK []])
theorem em_dnewK : EM X (.Dict [] [] pos) mDNewK := PE.of pe_dnewK fun σ H Q ⟨g, w, o, ρ, S, d, S', s, hm, q⟩ => by
  cases hm
  intro p hp
  have x : Ext g H (g ++ [p]) (upd H p (.dK [])) := ⟨⟨[p], rfl, fun b hb => by rw [List.mem_singleton.mp hb]; exact hp⟩, fun a u h _ => (Ext.new (g := []) hp).keep a u h (by simp), (Ext.new (g := []) hp).live, (Ext.new (g := []) hp).tups, (Ext.new (g := []) hp).frz⟩
  exact q _ (g ++ [p]) _ x (((s.sto.fresh hp).new hp).addG (s.sto.noG hp) (c := .dK []) ⟨[], upd_same, rfl⟩) ⟨p, rfl, by rw [← s.sto.len]; exact List.getElem?_concat_length⟩
/-- d[k] -/
def gDGet : G2 := fun x y S => match dictR S x, keyD y with
  | some l, some k => match valA l k with
    | some d => .ok d S
    | none => .bad
  | _, _ => .bad
theorem em_dget (hu : X.A.units + 64 < cLine) (ho : EM X o mo) (hi : EM X i mk) (hs : NoSl i) : EM X (.Subscript o i pos) (m2 gDGet mo mk) :=
  PE.of (pe_dget (by omega) ho hi hs) fun σ H Q q => op_of (r := fun x y H Q => ∃ a v, x = V.ref a ∧ DGet H a y (some v) ∧ Q v H) (fun g f H S dx dy d S' x y Q s rx ry hm q => by
    unfold gDGet at hm
    split at hm
    · rename_i l k hl hk
      split at hm
      · rename_i d' hd
        cases hm
        obtain ⟨n, rfl, hn⟩ := dictR_of hl
        obtain ⟨a, ev, hg⟩ := rx
        obtain ⟨kvs, hH, r⟩ := s.rd hn hg
        obtain ⟨v, hv, rv⟩ := (r.val (k := k)).1 _ hd
        refine ⟨a, v, ev, ?_, q.same s rv⟩
        rw [keyD_rel ry hk, ← hv]
        exact .inl ⟨kvs, k, hH, rfl, rfl⟩
      · cases hm
    · cases hm) q
/-- d.get(k, x) -/
def mDGet2 (md mk mx : ME) : ME := fun ρ S => (md ρ S).bind fun c S1 => match dictR S1 c with
  | none => .bad
  | some _ => (mk ρ S1).bind fun y S2 => (mx ρ S2).bind fun z S3 => match dictR S3 c, keyD y with
    | some l, some k => .ok ((valA l k).getD z) S3
    | _, _ => .bad
theorem em_dget2 {f : Expr} (hu : X.A.units + 64 < cLine) (ho : EM X o mo) (he : EM X e mk) (hf : EM X f mx) (m : M2 X o "get" apos e f cpos) : EM X (.Call (.Attribute o "get" apos) [e, f] [] cpos) (mDGet2 mo mk mx) :=
  PE.of (pe_dget2 (by omega) ho he hf m) fun σ H Q ⟨g, w, o, ρ, S, d, S', s, hm, q⟩ => by
    obtain ⟨c, S1, h1, hm⟩ := R.bind_ok hm
    split at hm
    · cases hm
    rename_i l0 hl0
    obtain ⟨y, S2, h2, hm⟩ := R.bind_ok hm
    obtain ⟨z, S3, h3, hm⟩ := R.bind_ok hm
    split at hm
    · rename_i l k hl hk
      cases hm
      obtain ⟨n, rfl, hn0⟩ := dictR_of hl0
      obtain ⟨n', en, hn⟩ := dictR_of hl
      cases en
      refine ⟨g, w, o, ρ, S, _, S1, s, h1, fun vc g1 H1 x1 s1 ⟨a, ev, hg⟩ => ?_⟩
      obtain ⟨kvs0, hH0, _⟩ := s1.rd hn0 hg
      refine ⟨a, ev, .inl ⟨kvs0, hH0⟩, ?_⟩
      have t1 := s.ext x1 s1
      refine ⟨g1, w, o, ρ, S1, y, S2, t1, h2, fun vy g2 H2 x2 s2 r2 => ?_⟩
      refine ⟨g2, w, o, ρ, S2, z, _, t1.ext x2 s2, h3, fun vz g3 H3 x3 s3 r3 => ?_⟩
      obtain ⟨kvs, hH, r⟩ := s3.rd hn ((x2.trans x3).get hg)
      refine ⟨valV kvs k, ?_, q _ g3 H3 ((x1.trans x2).trans x3) s3 ?_⟩
      · rw [keyD_rel r2 hk]
        exact .inl ⟨kvs, k, hH, rfl, rfl⟩
      · cases hv : valA l k with
        | none => rw [(r.val (k := k)).2 hv]; exact r3
        | some d => obtain ⟨v, e, rv⟩ := (r.val (k := k)).1 d hv; rw [e]; exact rv
    · cases hm
/-- d[k] = v -/
def putDict (c y d : D) (S : Store) : Option Store := match c with
  | .loc n => match dictAt S (.loc n), keyD y with
    | some l, some k => if l.length < sizeLine then some (S.set n (.dK (putA l k d))) else none
    | _, _ => none
  | _ => none
theorem putDict_ok {c y d : D} {S S' : Store} (h : putDict c y d S = some S') : ∃ n l k, c = .loc n ∧ S[n]? = some (.dK l) ∧ keyD y = some k ∧ l.length < sizeLine ∧ S' = S.set n (.dK (putA l k d)) := by
  cases c with
  | loc n =>
    dsimp only [putDict] at h
    cases e1 : dictAt S (.loc n) with
    | none => rw [e1] at h; cases h
    | some l =>
      cases e2 : keyD y with
      | none => rw [e1, e2] at h; cases h
      | some k =>
        rw [e1, e2] at h
        dsimp only at h
        split at h
        · rename_i hz
          cases h
          obtain ⟨n', en, hn⟩ := dictAt_of e1
          cases en
          exact ⟨n, l, k, rfl, hn, rfl, hz, rfl⟩
        · cases h
  | _ => cases h
def mDPut (md mk mv : ME) : MS := fun ρ S => (mv ρ S).bind fun d S1 => (md ρ S1).bind fun c S2 => (mk ρ S2).bind fun y S3 => match putDict c y d S3 with
  | some S4 => .ok (.nx ρ) S4
  | none => .bad
theorem sm_dput {value : Expr} {pos' : Pos} (hu : X.A.units + 64 < cLine) (ho : EM X o mo) (hi : EM X i mk) (hv : EM X value mv) (hs : swapsWith value (some (.Subscript o i pos')) pos.line X.env = pure false := by rfl) :
    SM X (.Assign [.Subscript o i pos'] value pos) (mDPut mo mk mv) := PS.of (ps_dput (by omega) ho hi hv hs) fun E σ H ⟨g, w, o, ρ, S, fl, S', s, hm, q⟩ => by
  obtain ⟨d, S1, h1, hm1⟩ := R.bind_ok hm
  obtain ⟨c, S2, h2, hm2⟩ := R.bind_ok hm1
  obtain ⟨y, S3, h3, hm3⟩ := R.bind_ok hm2
  split at hm3
  · rename_i S4 hp
    cases hm3
    obtain ⟨n, l, k, rfl, hn, hk, hz, rfl⟩ := putDict_ok hp
    refine ⟨g, w, o, ρ, S, d, S1, s, h1, fun v g1 H1 x1 s1 r1 => ?_⟩
    have t1 := s.ext x1 s1
    refine ⟨g1, w, o, ρ, S1, _, S2, t1, h2, fun vc g2 H2 x2 s2 r2 => ?_⟩
    have t2 := t1.ext x2 s2
    refine ⟨g2, w, o, ρ, S2, y, S3, t2, h3, fun vy g3 H3 x3 s3 r3 => ?_⟩
    have t3 := t2.ext x3 s3
    obtain ⟨a, ea, hg⟩ := RelD.ext x3 _ _ r2
    obtain ⟨kvs, hH, r⟩ := s3.cel n _ a hn hg
    have mD : Mut (H3 a) := by rw [hH]; trivial
    have gD : a ∈ g3 := List.mem_of_getElem? hg
    have rv := RelD.ext (x2.trans x3) d v r1
    refine ⟨a, upd H3 a (.dK (putK kvs k v)), ea, ?_, ?_⟩
    · rw [keyD_rel r3 hk]
      exact DPut.k hH (by rw [← r.length]; exact hz)
    · have x4 : Ext g3 H3 g3 (upd H3 a (.dK (putK kvs k v))) := .updG mD gD
      have s4 := s3.updG (c := .dK (putA l k d)) (u := .dK (putK kvs k v)) mD hg ⟨_, upd_same, RelKv.upd mD (.inr gD) _ _ (r.put rv)⟩
      exact q g3 o _ (((x1.trans x2).trans x3).trans x4).s σ (t3.ext x4 s4)
  · cases hm3
/-- d.setdefault(k, x) -/
def setDef (c y z : D) (S : Store) : R D := match c with
  | .loc n => match dictAt S (.loc n), keyD y with
    | some l, some k => if l.length < sizeLine then (match valA l k with
      | some d => .ok d S
      | none => .ok z (S.set n (.dK (putA l k z)))) else .bad
    | _, _ => .bad
  | _ => .bad
theorem setDef_ok {c y z d : D} {S S' : Store} (h : setDef c y z S = .ok d S') : ∃ n l k, c = .loc n ∧ S[n]? = some (.dK l) ∧ keyD y = some k ∧ l.length < sizeLine ∧ ((valA l k = some d ∧ S' = S) ∨ (valA l k = none ∧ d = z ∧ S' = S.set n (.dK (putA l k z)))) := by
  cases c with
  | loc n =>
    dsimp only [setDef] at h
    cases e1 : dictAt S (.loc n) with
    | none => rw [e1] at h; cases h
    | some l =>
      cases e2 : keyD y with
      | none => rw [e1, e2] at h; cases h
      | some k =>
        rw [e1, e2] at h
        dsimp only at h
        split at h
        · rename_i hz
          obtain ⟨n', en, hn⟩ := dictAt_of e1
          cases en
          refine ⟨n, l, k, rfl, hn, rfl, hz, ?_⟩
          cases e3 : valA l k with
          | some d' => rw [e3] at h; cases h; exact .inl ⟨rfl, rfl⟩
          | none => rw [e3] at h; cases h; exact .inr ⟨rfl, rfl, rfl⟩
        · cases h
  | _ => cases h
def mDSet (md mk mx : ME) : ME := fun ρ S => (md ρ S).bind fun c S1 => match dictAt S1 c with
  | none => .bad
  | some _ => (mk ρ S1).bind fun y S2 => (mx ρ S2).bind fun z S3 => setDef c y z S3
theorem em_dsetd {f : Expr} (ho : EM X o mo) (he : EM X e mk) (hf : EM X f mx) (m : M2 X o "setdefault" apos e f cpos) : EM X (.Call (.Attribute o "setdefault" apos) [e, f] [] cpos) (mDSet mo mk mx) :=
  PE.of (pe_dsetd ho he hf m) fun σ H Q ⟨g, w, o, ρ, S, d, S', s, hm, q⟩ => by
    obtain ⟨c, S1, h1, hm1⟩ := R.bind_ok hm
    split at hm1
    · cases hm1
    rename_i l0 hl0
    obtain ⟨y, S2, h2, hm2⟩ := R.bind_ok hm1
    obtain ⟨z, S3, h3, hm3⟩ := R.bind_ok hm2
    obtain ⟨n, l, k, rfl, hn, hk, hz, hor⟩ := setDef_ok hm3
    obtain ⟨n0, en0, hn0⟩ := dictAt_of hl0
    cases en0
    refine ⟨g, w, o, ρ, S, _, S1, s, h1, fun vc g1 H1 x1 s1 ⟨a, ev, hg⟩ => ?_⟩
    obtain ⟨kvs0, hH0, _⟩ := s1.cel n _ a hn0 hg
    refine ⟨a, ev, .inl ⟨kvs0, .inl hH0⟩, ?_⟩
    have t1 := s.ext x1 s1
    refine ⟨g1, w, o, ρ, S1, y, S2, t1, h2, fun vy g2 H2 x2 s2 r2 => ?_⟩
    refine ⟨g2, w, o, ρ, S2, z, S3, t1.ext x2 s2, h3, fun vz g3 H3 x3 s3 r3 => ?_⟩
    have hg3 := (x2.trans x3).get hg
    obtain ⟨kvs, hH, r⟩ := s3.cel n _ a hn hg3
    have mD : Mut (H3 a) := by rw [hH]; trivial
    have gD : a ∈ g3 := List.mem_of_getElem? hg3
    refine ⟨kvs, k, hH, keyD_rel r2 hk, by rw [← r.length]; exact hz, fun v hv => ?_, fun hv => ?_⟩
    · rcases hor with ⟨hva, rfl⟩ | ⟨hva, _, _⟩
      · obtain ⟨v', e', rv⟩ := (r.val (k := k)).1 d hva
        rw [hv] at e'
        cases e'
        exact q v g3 H3 ((x1.trans x2).trans x3) s3 rv
      · rw [(r.val (k := k)).2 hva] at hv; cases hv
    · rcases hor with ⟨hva, _⟩ | ⟨hva, rfl, rfl⟩
      · obtain ⟨v', e', rv⟩ := (r.val (k := k)).1 d hva
        rw [hv] at e'; cases e'
      · have x4 : Ext g3 H3 g3 (upd H3 a (.dK (putK kvs k vz))) := .updG mD gD
        have s4 := s3.updG (c := .dK (putA l k d)) (u := .dK (putK kvs k vz)) mD hg3 ⟨_, upd_same, RelKv.upd mD (.inr gD) _ _ (r.put r3)⟩
        exact q vz g3 _ (((x1.trans x2).trans x3).trans x4) s4 (RelD.ext x4 _ _ r3)
/-- e.append(x), e a list of the store -/
def appC (c d : D) (S : Store) : Option Store := match c with
  | .loc n => match locD (.loc n) S with
    | .ok l _ => if l.length < sizeLine then some (S.set n (.lst (l ++ [d]))) else none
    | .bad => none
  | _ => none
theorem appC_ok {c d : D} {S S' : Store} (h : appC c d S = some S') : ∃ n l, c = .loc n ∧ S[n]? = some (.lst l) ∧ l.length < sizeLine ∧ S' = S.set n (.lst (l ++ [d])) := by
  cases c with
  | loc n =>
    dsimp only [appC] at h
    cases e : locD (.loc n) S with
    | bad => rw [e] at h; cases h
    | ok l S1 =>
      rw [e] at h
      dsimp only at h
      split at h
      · rename_i hz
        cases h
        obtain ⟨n2, en, hn, _⟩ := locD_ok e
        cases en
        exact ⟨n, l, rfl, hn, hz, rfl⟩
      · cases h
  | _ => cases h
def isLoc (c : D) (S : Store) : Bool := match locD c S with
  | .ok _ _ => true
  | .bad => false
theorem isLoc_of {c : D} {S : Store} (h : isLoc c S = true) : ∃ n l, c = .loc n ∧ S[n]? = some (.lst l) := by
  unfold isLoc at h
  cases e : locD c S with
  | bad => rw [e] at h; cases h
  | ok l S1 => obtain ⟨n, e1, e2, _⟩ := locD_ok e; exact ⟨n, l, e1, e2⟩
def mAppC (mo me : ME) : MS := fun ρ S => (mo ρ S).bind fun c S1 => if isLoc c S1 = true then (me ρ S1).bind fun d S2 => match appC c d S2 with
    | some S3 => .ok (.nx ρ) S3
    | none => .bad
  else .bad
theorem sm_appC {spos : Pos} (ho : EM X o mo) (ha : EM X e me) (hbase : attributeBase o "append" X.env (eval o X.env) = eval o X.env := by rfl)
    (hfew : ((backTo cpos (starEach [e] X.env)).all (fun x => !x.1) && (backToKw cpos (keywordEach [] X.env)).all (fun x => x.1.isSome) && decide ([e].length + ([] : List Keyword).length + (if ([] : List Keyword).isEmpty then 0 else 1) < 30)) = true := by rfl)
    (hline : (apos.endLine == cpos.line) = true := by rfl) (hs : starEach [e] X.env = (false, eval e X.env) :: starEach [] X.env := by rfl) (hplain : (backTo cpos (starEach [] X.env)).any (·.1) = false := by rfl)
    (hsw : swapsWith (.Call (.Attribute o "append" apos) [e] [] cpos) none spos.line X.env = pure false := by rfl) : SM X (.Expr (.Call (.Attribute o "append" apos) [e] [] cpos) spos) (mAppC mo me) :=
  PS.of (ps_expr (pe_bm PySem.F.plainAttrs_list PySem.F.slot_list_append PySem.F.type_list_append mt_append ho (pa_cons ha pa_nil hs) hbase hfew hline hs hplain) hsw) fun E σ H ⟨g, w, o, ρ, S, fl, S', s, hm, q⟩ => by
    obtain ⟨c, S1, h1, hm1⟩ := R.bind_ok hm
    split at hm1
    · rename_i hloc
      obtain ⟨d, S2, h2, hm2⟩ := R.bind_ok hm1
      split at hm2
      · rename_i S3 hp
        cases hm2
        obtain ⟨n, l, rfl, hn, hz, rfl⟩ := appC_ok hp
        obtain ⟨n1, l1, en, hn1⟩ := isLoc_of hloc
        cases en
        refine ⟨g, w, o, ρ, S, _, _, s, h1, fun vc g1 H1 x1 s1 ⟨a, ev, hg⟩ => ?_⟩
        obtain ⟨vs1, hH1, _⟩ := s1.cel n _ a hn1 hg
        subst ev
        refine ⟨.inl ⟨rfl, vs1, .of hH1⟩, ?_⟩
        have t1 := s.ext x1 s1
        refine ⟨g1, w, o, ρ, _, d, _, t1, h2, fun v g2 H2 x2 s2 r2 => ?_⟩
        have t2 := t1.ext x2 s2
        have hg2 := x2.get hg
        obtain ⟨vs, hH, r⟩ := s2.cel n _ a hn hg2
        have mD : Mut (H2 a) := by rw [hH]; trivial
        have gD : a ∈ g2 := List.mem_of_getElem? hg2
        have x4 : Ext g2 H2 g2 (upd H2 a (.lst (vs ++ [v]))) := .updG mD gD
        have s4 := s2.updG (c := .lst (l ++ [d])) (u := .lst (vs ++ [v])) mD hg2 ⟨_, upd_same, RelDs.upd mD (.inr gD) _ _ (RelDs.append r ⟨v, [], rfl, r2, rfl⟩)⟩
        exact ⟨a, vs, v, rfl, rfl, hH, by rw [← r.length]; exact hz, q g2 o _ ((x1.trans x2).trans x4).s σ (t2.ext x4 s4)⟩
      · cases hm2
    · cases hm1
/-- sorted(d): its keys, numbers -/
def intKeys : List (Key × D) → Option (List Int)
  | [] => some []
  | (.inl k, _) :: r => (intKeys r).map (k :: ·)
  | _ => none
def sortI (l : List Int) : List Int := l.mergeSort fun a b => decide (a ≤ b)
theorem intKeys_of : ∀ {l : List (Key × D)} {ks : List Int}, intKeys l = some ks → l.map (·.1) = ks.map Sum.inl
  | [], _, h => by unfold intKeys at h; cases h; rfl
  | (.inl k, d) :: r, _, h => by
    unfold intKeys at h
    cases e : intKeys r with
    | none => rw [e] at h; cases h
    | some ks => rw [e] at h; cases h; rw [List.map_cons, List.map_cons, intKeys_of e]
  | (.inr k, d) :: r, _, h => by unfold intKeys at h; cases h
def hSortedDI (d : D) (S : Store) : R (List D) := match dictR S d with
  | some l => match intKeys l with
    | some ks => if ks.length < 64 then .ok ((sortI ks).map .int) S else .bad
    | none => .bad
  | none => .bad
theorem sorted_one : ∀ {xs ys : List Int}, xs.Perm ys → xs.Pairwise (· ≤ ·) → ys.Pairwise (· ≤ ·) → xs = ys := fun {xs ys} hp h1 h2 =>
  hp.eq_of_pairwise (fun a b _ _ h h' => Int.le_antisymm h h') h1 h2
theorem nm_sortedDI (hc : X.calm = true) (h : EM X e me) (hg : Gl X "sorted") (hm : X.mg "sorted" = none) (hb : bootBuiltins "sorted" = some (.builtin "sorted") := by decide +kernel) (hs : starEach [e] X.env = (false, eval e X.env) :: starEach [] X.env := by rfl) (hpl : (backTo pos (starEach [] X.env)).any (·.1) = false := by rfl) :
    NM X (.Call (.Name "sorted" p) [e] [] pos) (fun ρ S => (me ρ S).bind hSortedDI) :=
  PE.of (pe_callB (call_sortedDI hc) hg hm hb (b1 h hs) (by decide) (by decide) hs hpl) fun σ H Q ⟨g, w, o, ρ, S, d, S', s, hm, q⟩ => by
    obtain ⟨c, S1, h1, h2⟩ := R.bind_ok hm
    refine ⟨g, w, o, ρ, S, c, S1, s, h1, fun v g1 H1 x1 s1 r1 => ?_⟩
    unfold hSortedDI at h2
    split at h2
    · rename_i l hl
      split at h2
      · rename_i ks hk
        split at h2
        · rename_i h64
          cases h2
          obtain ⟨n, rfl, hn⟩ := dictR_of hl
          obtain ⟨a, ev, hgn⟩ := r1
          obtain ⟨kvs, hH, r⟩ := s1.rd hn hgn
          subst ev
          refine ⟨a, kvs, ks, rfl, hH, by rw [r.keys, intKeys_of hk], h64, fun ys t hp hw ht => ?_⟩
          have e1 : ys = sortI ks := sorted_one (hp.trans (List.mergeSort_perm _ _).symm) hw (by
            have := List.pairwise_mergeSort (le := fun a b : Int => decide (a ≤ b)) (fun a b c h1 h2 => by simp at *; omega) (fun a b => by simp; omega) ks
            exact this.imp fun h => by simpa using h)
          subst e1
          have q' : FinN X.K g1 (w ++ o) H1 ((sortI ks).map .int) _ Q := fun p vs g2 H2 x2 hp n2 e2 s2 r2 => q p vs g2 H2 (x1.trans x2) (back_none x1 hp) n2 e2 s2 r2
          exact q'.put s1 (rel_ints _) t ht
        · cases h2
      · cases h2
    · cases h2
/-- enumerate(list) -/
def enumD : Nat → List D → List D
  | _, [] => []
  | k, d :: ds => .tup [.int (k : Nat), d] :: enumD (k + 1) ds
theorem enumD_get : ∀ {l : List D} {k i : Nat} {d : D}, (enumD k l)[i]? = some d → ∃ e, l[i]? = some e ∧ d = .tup [.int ((k + i : Nat) : Int), e]
  | [], _, i, _, h => by simp [enumD] at h
  | d :: ds, k, 0, _, h => by simp [enumD] at h; exact ⟨d, rfl, h.symm⟩
  | d :: ds, k, i + 1, _, h => by
    obtain ⟨e, h1, h2⟩ := enumD_get (l := ds) (k := k + 1) (i := i) (by simpa [enumD] using h)
    exact ⟨e, by simpa using h1, by rw [h2, show k + 1 + i = k + (i + 1) by omega]⟩
theorem enumD_length : ∀ (l : List D) (k : Nat), (enumD k l).length = l.length
  | [], _ => rfl
  | d :: ds, k => by rw [enumD, List.length_cons, List.length_cons, enumD_length ds]
theorem Walks.enum {K : PySem.W.Frag} {g w o : List Addr} {H : Hp} {a : Addr} {vs : List V} {l : List D} (hr : RestL g (w ++ o) H a vs) (r : RelDs K g (w ++ o) H l vs) : Walks K g w o H (Ite K a) (enumD 0 l) where
  item := fun i d g1 o1 H1 h x => by
    have q := hr.extS x
    have r1 := RelDs.extS x l vs r
    obtain ⟨e, h1, h2⟩ := enumD_get h
    obtain ⟨v, ev, rv⟩ := r1.get h1
    refine ⟨⟨vs, v, q.sq, ev⟩, fun y H2 ⟨T, z, ey, hT, eH, hz⟩ => ?_⟩
    have := hz vs q.sq
    rw [ev] at this
    cases this
    subst ey; subst eH; subst h2
    refine ⟨.new hT, T, _, rfl, .inl (.inl upd_same), .int _, _, rfl, ?_, v, [], rfl, RelD.ext (.new hT) e v rv, rfl⟩
    show V.int _ = V.int _
    rw [Nat.zero_add]
  stop := fun i g1 o1 H1 h x => ⟨vs, (hr.extS x).sq, by rw [← r.length, ← enumD_length l 0]; exact h⟩
def iEnumM (m : ME) : ML := fun ρ S => (m ρ S).bind fun d S1 => (seqD d S1).bind fun l S2 => .ok (enumD 0 l) S2
theorem im_enum {elts : List Expr} {kk : Nat} {tpos : Pos} (h : EM X e me) (hg : Gl X "enumerate") (hm : X.mg "enumerate" = none) (hs : starEach [e] X.env = [(false, eval e X.env)] := by rfl) : IM X (.Tuple elts kk tpos) (.Call (.Name "enumerate" p) [e] [] pos) (iEnumM me) :=
  PI.of (pi_enum hg hm (b1 h hs) hs) fun σ H Rr ⟨g, w, o, ρ, S, l, S', s, hm, q⟩ => by
    obtain ⟨d, S1, h1, hm⟩ := R.bind_ok hm
    obtain ⟨l', S2, h2, hm⟩ := R.bind_ok hm
    obtain ⟨rfl, rfl⟩ := seqD_ok h2
    cases hm
    exact ⟨g, w, o, ρ, S, _, _, s, h1, fun v g1 H1 x1 s1 ⟨a, vs, ev, hr, r⟩ => by subst ev; exact ⟨a, vs, rfl, hr.sq, q g1 H1 _ x1 s1 (.enum hr r)⟩⟩
/-- what is walked, a list or a tuple -/
def iSeqD : D → Store → R (List D)
  | .lst l, S => .ok l S
  | .tup l, S => .ok l S
  | _, _ => .bad
def iSeq (m : ME) : ML := fun ρ S => (m ρ S).bind iSeqD
theorem im_seq {tg : Expr} (h : EM X e me) : IM X tg e (iSeq me) := ⟨fun pins s σ H Rr I ⟨g, w, o, ρ, S, l, S', st, hm, q⟩ => by
  obtain ⟨d, S1, h1, h2⟩ := R.bind_ok hm
  cases d <;> first | cases h2; done | skip
  · cases h2
    exact (im_tup (tg := tg) h).run pins s σ H Rr I ⟨g, w, o, ρ, S, l, S', st, by unfold iTup; rw [h1]; rfl, q⟩
  · cases h2
    exact (im_list (tg := tg) h).run pins s σ H Rr I ⟨g, w, o, ρ, S, l, S', st, by unfold iLst; rw [h1]; rfl, q⟩⟩
/-- len of a value -/
def gLen (d : D) (S : Store) : R D := match d with
  | .tup l => .ok (.int l.length) S
  | .lst l => .ok (.int l.length) S
  | .scr l => .ok (.int l.length) S
  | .loc n => match S[n]? with
    | some (.lst l) => .ok (.int l.length) S
    | _ => .bad
  | _ => .bad
theorem em_lenV (h : EM X e me) (hg : Gl X "len") (hm : X.mg "len" = none) (hs : starEach [e] X.env = (false, eval e X.env) :: starEach [] X.env := by rfl) (hpl : (backTo pos (starEach [] X.env)).any (·.1) = false := by rfl) : EM X (.Call (.Name "len" p) [e] [] pos) (mB1 gLen me) :=
  PE.of (pe_callB call_len_seq hg hm PySem.boot_len (b1 h hs) (by decide) (by decide) hs hpl) fun σ H Q ⟨g, w, o, ρ, S, d, S', s, hm, q⟩ => by
    obtain ⟨c, S1, h1, h2⟩ := R.bind_ok hm
    refine ⟨g, w, o, ρ, S, c, S1, s, h1, fun v g1 H1 x1 s1 r1 => ?_⟩
    cases c with
    | tup l => cases h2; obtain ⟨a, vs, ev, hr, r⟩ := r1; subst ev; exact ⟨a, vs, rfl, .inr hr, by rw [← r.length]; exact q _ g1 H1 x1 s1 rfl⟩
    | lst l => cases h2; obtain ⟨a, vs, ev, hr, r⟩ := r1; subst ev; exact ⟨a, vs, rfl, .inl hr.sq, by rw [← r.length]; exact q _ g1 H1 x1 s1 rfl⟩
    | scr l =>
      cases h2; obtain ⟨a, ev, hr⟩ := r1; subst ev
      refine ⟨a, _, rfl, .inl hr.sq, ?_⟩
      rw [List.length_map]
      exact q _ g1 H1 x1 s1 rfl
    | loc n =>
      obtain ⟨a, ev, hg⟩ := r1
      subst ev
      dsimp only [gLen] at h2
      cases en : S1[n]? with
      | none => rw [en] at h2; cases h2
      | some c =>
        rw [en] at h2
        cases c with
        | lst l => cases h2; obtain ⟨vs, hH, r⟩ := s1.cel n _ a en hg; exact ⟨a, vs, rfl, .inl (.of hH), by rw [← r.length]; exact q _ g1 H1 x1 s1 rfl⟩
        | dK l => cases h2
        | dT l => cases h2
        | dF l => cases h2
    | _ => cases h2
end
end Mo
set_option maxRecDepth 100000
set_option maxHeartbeats 1000000
/-! Mo: what a generated text names. -/
namespace Mo
open PySem PySem.Spec PyProof.Rows L2

/-- a def of the program, with its meaning -/
structure Own (P : Program) (w : World) (K : PySem.W.Frag) (mg : Str → Option Value) (base : Heap) (k n : Nat) (x : Str) (ps : List Str) (a : Addr) (fd : FuncData) (m : MF) : Prop where
  at_ : mg x = some (.ref a)
  kp : PySem.W.keepIn K (.ref a) = true
  ok : FnG P w K mg base CX0 k a fd ps (spM K n m)
/-- places among the positional values and, behind them, the keywords' -/
def pickIx (ix : List Nat) {α : Type} (us ws : List α) : List α := ix.filterMap fun i => (us ++ ws)[i]?
theorem vals_pick {xs : List V} {ys : List Value} (r : Vals xs ys) : ∀ ix : List Nat, Vals (ix.filterMap fun i => xs[i]?) (ix.filterMap fun i => ys[i]?)
  | [] => .nil
  | i :: ix => by
    cases e : xs[i]? with
    | none =>
      have e2 := r.none_of e
      rw [List.filterMap_cons_none e, List.filterMap_cons_none e2]
      exact vals_pick r ix
    | some x =>
      obtain ⟨u, e2, ru⟩ := r.get e
      rw [List.filterMap_cons_some e, List.filterMap_cons_some e2]
      exact .cons ru (vals_pick r ix)
theorem rel_pick {K : PySem.W.Frag} {g f : List Addr} {H : Hp} {xs : List D} {ys : List V} (r : RelDs K g f H xs ys) : ∀ ix : List Nat, RelDs K g f H (ix.filterMap fun i => xs[i]?) (ix.filterMap fun i => ys[i]?)
  | [] => rfl
  | i :: ix => by
    cases e : xs[i]? with
    | none =>
      have e2 : ys[i]? = none := by
        rw [List.getElem?_eq_none_iff] at e ⊢
        rw [← r.length]; exact e
      rw [List.filterMap_cons_none e, List.filterMap_cons_none e2]
      exact rel_pick r ix
    | some x =>
      obtain ⟨v, e2, rv⟩ := r.get e
      rw [List.filterMap_cons_some e, List.filterMap_cons_some e2]
      exact ⟨v, _, rfl, rv, rel_pick r ix⟩
theorem mix_of {fd : FuncData} {ps ks : List Str} {np : Nat} (ix : List Nat) (to : ∀ us ws : List Value, us.length = np → ws.length = ks.length → bindArgs fd ⟨us, ks.zip ws⟩ = pure (ps.zip (pickIx ix us ws))) : Mix fd ps ks np (pickIx ix) where
  to := to
  map := fun vs zs us ws r1 r2 _ _ => vals_pick (r1.append r2) ix
  rel := fun K g f H ds es vs zs r1 r2 _ _ => rel_pick (RelDs.append r1 r2) ix
section
variable {X : Cx} {k n : Nat} {a : Addr} {fd : FuncData} {ps : List Str} {x : Str} {p pos : Pos} {e : Expr} {es : List Expr} {l : MA} {m : MF}
theorem em_own (C : Own X.prog X.w X.K X.mg X.base k n x ps a fd m) (B : Binds X.K fd ps []) (hgd : X.A.guards = some []) (hr : Room k X.A) (hg : Gl X x) (ha : AM X (e :: es) l) (hdb : (x == ("__debug__" : Str)) = false := by decide)
    (he : starEach (e :: es) X.env = (false, eval e X.env) :: starEach es X.env := by rfl) (hpl : (backTo pos (starEach es X.env)).any (·.1) = false := by rfl) : EM X (.Call (.Name x p) (e :: es) [] pos) (mCall m n [] l) :=
  em_call C.ok hgd hr hg C.at_ C.kp B .nil (fun _ _ _ _ => rfl) ha hdb he hpl
variable {kws : List Keyword} {ks : List Str} {lk : MA} {np : Nat} {ix : List Nat}
theorem em_ownK (C : Own X.prog X.w X.K X.mg X.base k n x ps a fd m) (B : Mix fd ps ks np (pickIx ix)) (hgd : X.A.guards = some []) (hr : Room k X.A) (hg : Gl X x) (ha : AM X (e :: es) l) (hkw : KM X kws lk) (hall : (backToKw pos (keywordEach kws X.env)).all (·.1.isSome) = true := by rfl)
    (hks : (backToKw pos (keywordEach kws X.env)).filterMap (·.1) = ks := by rfl) (hdb : (x == ("__debug__" : Str)) = false := by decide) (he : starEach (e :: es) X.env = (false, eval e X.env) :: starEach es X.env := by rfl)
    (hpl : ((backTo pos (starEach (e :: es) X.env)).any (·.1) || (backToKw pos (keywordEach kws X.env)).any (·.1.isNone)) = false := by rfl) : EM X (.Call (.Name x p) (e :: es) kws pos) (mCallK m n np ks.length (pickIx ix) l lk) :=
  em_callK C.ok hgd hr hg C.at_ C.kp B ha hkw hall hks hdb he hpl
theorem em_ownK0 (C : Own X.prog X.w X.K X.mg X.base k n x ps a fd m) (B : Mix fd ps ks 0 (pickIx ix)) (hgd : X.A.guards = some []) (hr : Room k X.A) (hg : Gl X x) (hkw : KM X kws lk) (hall : (backToKw pos (keywordEach kws X.env)).all (·.1.isSome) = true := by rfl)
    (hks : (backToKw pos (keywordEach kws X.env)).filterMap (·.1) = ks := by rfl) (hdb : (x == ("__debug__" : Str)) = false := by decide)
    (hpl : ((backTo pos (starEach [] X.env)).any (·.1) || (backToKw pos (keywordEach kws X.env)).any (·.1.isNone)) = false := by rfl) : EM X (.Call (.Name x p) [] kws pos) (mCallK m n 0 ks.length (pickIx ix) aNil lk) :=
  em_callK0 C.ok hgd hr hg C.at_ C.kp B hkw hall hks hdb hpl
end
/-- room for data: what built-ins ask -/
theorem hu64 {A : Around} {k : Nat} (hr : Room k A) : A.units + 64 < cLine := hr.units
/-- an own list rests -/
def restAt (i : Nat) (ρ : MEnv) : MEnv := match ρ[i]? with
  | some (some (.own (.lst l))) => ρ.set i (some (.val (.lst l)))
  | _ => ρ
theorem rest_ok {K : PySem.W.Frag} {g w o : List Addr} {ρ : MEnv} {S : Store} {σ : L2.St} {H : Hp} (i : Nat) (s : Sta K g w o ρ S σ H) : ∃ o', (∀ a ∈ o', a ∈ o) ∧ Sta K g w o' (restAt i ρ) S σ H := by
  unfold restAt
  split
  · rename_i l hl
    obtain ⟨p, e1, m, vs, hH, r⟩ := s.own i _ hl
    have hi := lt_of_get hl
    refine ⟨o.filter (fun a => decide (a ≠ p)), fun a h => (List.mem_filter.mp h).1, ?_⟩
    have sub : ∀ b ∈ w ++ o.filter (fun a => decide (a ≠ p)), b ∈ w ++ o := fun b hb => by
      rcases List.mem_append.mp hb with h | h
      · exact List.mem_append_left _ h
      · exact List.mem_append_right _ (List.mem_filter.mp h).1
    have back : ∀ {j : Nat} {c : Cell}, (ρ.set i (some (.val (.lst l))))[j]? = some (some (Slot.own c)) → i ≠ j ∧ ρ[j]? = some (some (Slot.own c)) := fun {j c} h => by
      by_cases hj : i = j
      · subst hj; rw [List.getElem?_set_self hi] at h; cases h
      · rw [List.getElem?_set_ne hj] at h; exact ⟨hj, h⟩
    refine ⟨by rw [List.length_set]; exact s.len, fun j d h => ?_, fun j c h => ?_, fun j k c d a h1 h2 h3 h4 => s.inj j k c d a (back h1).2 (back h2).2 h3 h4, fun a h => s.out a (List.mem_filter.mp h).1, fun a h => s.liv a (sub a h), s.sto.less sub⟩
    · by_cases hj : i = j
      · subst hj
        rw [List.getElem?_set_self hi] at h
        cases h
        refine ⟨.ref p, e1, p, vs, rfl, ⟨(s.out p m).1, fun z => ?_, hH⟩, RelDs.less sub _ _ r⟩
        rcases List.mem_append.mp z with z | z
        · exact (s.out p m).2 z
        · have := (List.mem_filter.mp z).2
          simp at this
      · rw [List.getElem?_set_ne hj] at h
        obtain ⟨v, e2, r2⟩ := s.val j d h
        exact ⟨v, e2, RelD.less sub _ _ r2⟩
    · obtain ⟨hj, h⟩ := back h
      obtain ⟨a, e2, m2, r2⟩ := s.own j c h
      refine ⟨a, e2, List.mem_filter.mpr ⟨m2, decide_eq_true fun e => ?_⟩, r2.less sub⟩
      subst e
      exact hj (s.inj i j _ _ a hl h e1 e2)
  · exact ⟨o, fun _ h => h, s⟩
def mRest (i : Nat) (m : MS) : MS := fun ρ S => m (restAt i ρ) S
theorem ssm_rest {X : Cx} {sts : List Stmt} {m : MS} (i : Nat) (h : SsM X sts m) : SsM X sts (mRest i m) := ssm_ghost (gh := restAt i) h fun _ _ _ _ _ _ _ s => rest_ok i s
end Mo
set_option maxRecDepth 100000
/-! Mo: how meanings are reckoned (for simp). -/
namespace Mo
open L2
@[simp] theorem bind_ok_eq {α β : Type} (a : α) (S : Store) (f : α → Store → R β) : (R.ok a S).bind f = f a S := rfl
@[simp] theorem bind_bad_eq {α β : Type} (f : α → Store → R β) : (R.bad : R α).bind f = .bad := rfl
@[simp] theorem mVar_eq (i : Nat) (ρ : MEnv) (S : Store) : mVar i ρ S = (match ρ[i]? with | some (some (.val d)) => .ok d S | _ => .bad) := rfl
@[simp] theorem mC_eq (d : D) (ρ : MEnv) (S : Store) : mC d ρ S = .ok d S := rfl
@[simp] theorem m2_eq (h : G2) (a b : ME) (ρ : MEnv) (S : Store) : m2 h a b ρ S = (a ρ S).bind fun x S1 => (b ρ S1).bind fun y S2 => h x y S2 := rfl
@[simp] theorem mNil_eq (ρ : MEnv) (S : Store) : mNil ρ S = .ok (.nx ρ) S := rfl
@[simp] theorem mPass_eq (ρ : MEnv) (S : Store) : mPass ρ S = .ok (.nx ρ) S := rfl
@[simp] theorem mSeq_eq (a b : MS) (ρ : MEnv) (S : Store) : mSeq a b ρ S = (a ρ S).bind fun fl S1 => (match fl with | .nx ρ1 => b ρ1 S1 | fl => .ok fl S1) := rfl
@[simp] theorem mSet_eq (i : Nat) (m : ME) (ρ : MEnv) (S : Store) : mSet i m ρ S = (m ρ S).bind fun d S1 => .ok (.nx (ρ.set i (some (.val d)))) S1 := rfl
@[simp] theorem mRet_eq (m : ME) (ρ : MEnv) (S : Store) : mRet m ρ S = (m ρ S).bind fun d S1 => .ok (.rt d) S1 := rfl
@[simp] theorem mDrop_eq (m : ME) (ρ : MEnv) (S : Store) : mDrop m ρ S = (m ρ S).bind fun _ S1 => .ok (.nx ρ) S1 := rfl
@[simp] theorem mIf_eq (c : MT) (a b : MS) (ρ : MEnv) (S : Store) : mIf c a b ρ S = (c ρ S).bind fun k S1 => if k = true then a ρ S1 else b ρ S1 := rfl
@[simp] theorem mB_eq (m : ME) (ρ : MEnv) (S : Store) : mB m ρ S = (m ρ S).bind isB := rfl
@[simp] theorem isB_eq (k : Bool) (S : Store) : isB (.bl k) S = .ok k S := rfl
@[simp] theorem mAndT_eq (a b : MT) (ρ : MEnv) (S : Store) : mAndT a b ρ S = (a ρ S).bind fun k S1 => if k = true then b ρ S1 else .ok false S1 := rfl
@[simp] theorem mOrT_eq (a b : MT) (ρ : MEnv) (S : Store) : mOrT a b ρ S = (a ρ S).bind fun k S1 => if k = true then .ok true S1 else b ρ S1 := rfl
@[simp] theorem mNotT_eq (a : MT) (ρ : MEnv) (S : Store) : mNotT a ρ S = (a ρ S).bind fun k S1 => .ok (!k) S1 := rfl
@[simp] theorem mAnd_eq (a b : ME) (ρ : MEnv) (S : Store) : mAnd a b ρ S = (a ρ S).bind fun d S1 => (isB d S1).bind fun k S2 => if k = true then b ρ S2 else .ok (.bl false) S2 := rfl
@[simp] theorem mOr_eq (a b : ME) (ρ : MEnv) (S : Store) : mOr a b ρ S = (a ρ S).bind fun d S1 => (isB d S1).bind fun k S2 => if k = true then .ok (.bl true) S2 else b ρ S2 := rfl
@[simp] theorem mNot_eq (a : ME) (ρ : MEnv) (S : Store) : mNot a ρ S = (a ρ S).bind fun d S1 => (isB d S1).bind fun k S2 => .ok (.bl (!k)) S2 := rfl
@[simp] theorem mIfE_eq (c : MT) (a b : ME) (ρ : MEnv) (S : Store) : mIfE c a b ρ S = (c ρ S).bind fun k S1 => if k = true then a ρ S1 else b ρ S1 := rfl
@[simp] theorem mChain_eq (h h' : G2) (a b c : ME) (ρ : MEnv) (S : Store) : mChain h h' a b c ρ S = (a ρ S).bind fun x S1 => (b ρ S1).bind fun y S2 => (h x y S2).bind fun d S3 => (isB d S3).bind fun k S4 =>
  if k = true then (c ρ S4).bind fun z S5 => h' y z S5 else .ok (.bl false) S4 := rfl
@[simp] theorem aNil_eq (ρ : MEnv) (S : Store) : aNil ρ S = .ok [] S := rfl
@[simp] theorem aCons_eq (m : ME) (r : MA) (ρ : MEnv) (S : Store) : aCons m r ρ S = (m ρ S).bind fun d S1 => (r ρ S1).bind fun ds S2 => .ok (d :: ds) S2 := rfl
@[simp] theorem mTup_eq (l : MA) (ρ : MEnv) (S : Store) : mTup l ρ S = (l ρ S).bind fun ds S1 => if ds.length ≤ PySem.sizeLine then .ok (.tup ds) S1 else .bad := rfl
@[simp] theorem mDisp_eq (l : MA) (ρ : MEnv) (S : Store) : mDisp l ρ S = (l ρ S).bind fun ds S1 => if ds.length ≤ PySem.sizeLine then .ok ds S1 else .bad := rfl
@[simp] theorem mLst_eq (m : ML) (ρ : MEnv) (S : Store) : mLst m ρ S = (m ρ S).bind fun ds S1 => .ok (.lst ds) S1 := rfl
@[simp] theorem mLoc_eq (m : ML) (ρ : MEnv) (S : Store) : mLoc m ρ S = (m ρ S).bind fun ds S1 => .ok (.loc S1.length) (S1 ++ [.lst ds]) := rfl
@[simp] theorem mOwnL_eq (i : Nat) (m : ML) (ρ : MEnv) (S : Store) : mOwnL i m ρ S = (m ρ S).bind fun ds S1 => .ok (.nx (ρ.set i (some (.own (.lst ds))))) S1 := rfl
@[simp] theorem mCall_eq (m : MF) (n : Nat) (dv : List D) (l : MA) (ρ : MEnv) (S : Store) : mCall m n dv l ρ S = (l ρ S).bind fun ds S1 => if (ds ++ dv).length = n then m (ds ++ dv) S1 else .bad := rfl
@[simp] theorem mCallK_eq (m : MF) (n np nk : Nat) (pick : List D → List D → List D) (l lk : MA) (ρ : MEnv) (S : Store) : mCallK m n np nk pick l lk ρ S = (l ρ S).bind fun ds S1 => (lk ρ S1).bind fun es S2 =>
  if ds.length = np ∧ es.length = nk ∧ (pick ds es).length = n then m (pick ds es) S2 else .bad := rfl
@[simp] theorem mAsg_eq (p : Pat) (m : ME) (ρ : MEnv) (S : Store) : mAsg p m ρ S = (m ρ S).bind fun d S1 => (match p.bind d with | some l => .ok (.nx (setD ρ l)) S1 | none => .bad) := rfl
@[simp] theorem mFor_eq (p : Pat) (it : ML) (mb : MS) (ρ : MEnv) (S : Store) : mFor p it mb ρ S = (it ρ S).bind fun l S1 => mForL p mb l ρ S1 := rfl
@[simp] theorem iSeq_eq (m : ME) (ρ : MEnv) (S : Store) : iSeq m ρ S = (m ρ S).bind iSeqD := rfl
@[simp] theorem iSeqD_lst (l : List D) (S : Store) : iSeqD (.lst l) S = .ok l S := rfl
@[simp] theorem iSeqD_tup (l : List D) (S : Store) : iSeqD (.tup l) S = .ok l S := rfl
@[simp] theorem iLst_eq (m : ME) (ρ : MEnv) (S : Store) : iLst m ρ S = (m ρ S).bind seqD := rfl
@[simp] theorem seqD_lst (l : List D) (S : Store) : seqD (.lst l) S = .ok l S := rfl
@[simp] theorem iLoc_eq (m : ME) (ρ : MEnv) (S : Store) : iLoc m ρ S = (m ρ S).bind locD := rfl
@[simp] theorem locD_eq (n : Nat) (S : Store) : locD (.loc n) S = (match S[n]? with | some (.lst l) => .ok l S | _ => .bad) := rfl
@[simp] theorem iScr_eq (m : ME) (ρ : MEnv) (S : Store) : iScr m ρ S = (m ρ S).bind scrD := rfl
@[simp] theorem scrD_eq (l : List Int) (S : Store) : scrD (.scr l) S = .ok (l.map .int) S := rfl
@[simp] theorem iRange1_eq (l : MA) (ρ : MEnv) (S : Store) : iRange1 l ρ S = (l ρ S).bind fun ds S1 => (match ds with | [.int j] => if -(2 ^ 62) ≤ j ∧ j < 2 ^ 62 then .ok (rangeD 0 j) S1 else .bad | _ => .bad) := rfl
@[simp] theorem iRange2_eq (l : MA) (ρ : MEnv) (S : Store) : iRange2 l ρ S = (l ρ S).bind fun ds S1 => (match ds with
  | [.int i, .int j] => if -(2 ^ 62) ≤ i ∧ i < 2 ^ 62 ∧ -(2 ^ 62) ≤ j ∧ j < 2 ^ 62 then .ok (rangeD i j) S1 else .bad | _ => .bad) := rfl
@[simp] theorem iEnumM_eq (m : ME) (ρ : MEnv) (S : Store) : iEnumM m ρ S = (m ρ S).bind fun d S1 => (seqD d S1).bind fun l S2 => .ok (enumD 0 l) S2 := rfl
@[simp] theorem mLc_eq (it : ML) (p : Pat) (vs : List Nat) (mt : MT) (me : ME) (ρ : MEnv) (S : Store) : mLc it p vs mt me ρ S = (it ρ S).bind fun l S1 => (mLcL p mt me l (wipeM ρ vs) S1).bind fun r S2 => if r.length ≤ PySem.sizeLine then .ok r S2 else .bad := rfl
@[simp] theorem mYes_eq (ρ : MEnv) (S : Store) : mYes ρ S = .ok true S := rfl
@[simp] theorem mQ_eq (h : List D → Store → R D) (m : ML) (ρ : MEnv) (S : Store) : mQ h m ρ S = (m ρ S).bind h := rfl
@[simp] theorem mQL_eq (h : List D → Store → R (List D)) (m : ML) (ρ : MEnv) (S : Store) : mQL h m ρ S = (m ρ S).bind h := rfl
@[simp] theorem mA_eq (h : List D → Store → R D) (l : MA) (ρ : MEnv) (S : Store) : mA h l ρ S = (l ρ S).bind h := rfl
@[simp] theorem mB1_eq (h : D → Store → R D) (m : ME) (ρ : MEnv) (S : Store) : mB1 h m ρ S = (m ρ S).bind h := rfl
@[simp] theorem hLen_eq (l : List D) (S : Store) : hLen l S = .ok (.int l.length) S := rfl
@[simp] theorem hTup_eq (l : List D) (S : Store) : hTup l S = .ok (.tup l) S := rfl
@[simp] theorem hList_eq (l : List D) (S : Store) : hList l S = .ok l S := rfl
@[simp] theorem hAbs_eq (i : Int) (S : Store) : hAbs [.int i] S = .ok (.int (if i < 0 then -i else i)) S := rfl
@[simp] theorem hInt_eq (i : Int) (S : Store) : hInt [.int i] S = .ok (.int i) S := rfl
@[simp] theorem hIntB_eq (k : Bool) (S : Store) : hInt [.bl k] S = .ok (.int (if k then 1 else 0)) S := rfl
@[simp] theorem hMax2_eq (i j : Int) (S : Store) : hMax2 [.int i, .int j] S = .ok (.int (if j > i then j else i)) S := rfl
@[simp] theorem hMin2_eq (i j : Int) (S : Store) : hMin2 [.int i, .int j] S = .ok (.int (if j < i then j else i)) S := rfl
@[simp] theorem gNeg_eq (i : Int) (S : Store) : gNeg (.int i) S = .ok (.int (-i)) S := rfl
@[simp] theorem gI_eq (c : Int → Int → Prop) [∀ i j, Decidable (c i j)] (h : Int → Int → D) (i j : Int) (S : Store) : gI c h (.int i) (.int j) S = if c i j then .ok (h i j) S else .bad := rfl
@[simp] theorem gI0_eq (h : Int → Int → D) (i j : Int) (S : Store) : gI0 h (.int i) (.int j) S = .ok (h i j) S := rfl
@[simp] theorem gIx_tup (l : List D) (i : Int) (S : Store) : gIx (.tup l) (.int i) S = (match atI l i with | some d => .ok d S | none => .bad) := rfl
@[simp] theorem gIx_lst (l : List D) (i : Int) (S : Store) : gIx (.lst l) (.int i) S = (match atI l i with | some d => .ok d S | none => .bad) := rfl
@[simp] theorem gIx_scr (l : List Int) (i : Int) (S : Store) : gIx (.scr l) (.int i) S = (match atI l i with | some k => .ok (.int k) S | none => .bad) := rfl
@[simp] theorem gIx_loc (n : Nat) (i : Int) (S : Store) : gIx (.loc n) (.int i) S = (match S[n]? with | some (.lst l) => (match atI l i with | some d => .ok d S | none => .bad) | _ => .bad) := rfl
@[simp] theorem mSetC_eq (o i e : ME) (ρ : MEnv) (S : Store) : mSetC o i e ρ S = (e ρ S).bind fun d S1 => (o ρ S1).bind fun c S2 => (i ρ S2).bind fun k S3 => (match putC c k d S3 with | some S4 => .ok (.nx ρ) S4 | none => .bad) := rfl
@[simp] theorem putC_eq (n : Nat) (j : Int) (d : D) (S : Store) : putC (.loc n) (.int j) d S = (match S[n]? with | some (.lst l) => (ixN l.length j).map fun m => S.set n (.lst (l.set m d)) | _ => none) := rfl
@[simp] theorem mApp_eq (i : Nat) (m : ME) (ρ : MEnv) (S : Store) : mApp i m ρ S = (m ρ S).bind fun d S1 => (match ρ[i]? with
  | some (some (.own (.lst l))) => if l.length < PySem.sizeLine then .ok (.nx (ρ.set i (some (.own (.lst (l ++ [d])))))) S1 else .bad | _ => .bad) := rfl
@[simp] theorem mAppC_eq (mo me : ME) (ρ : MEnv) (S : Store) : mAppC mo me ρ S = (mo ρ S).bind fun c S1 => if isLoc c S1 = true then (me ρ S1).bind fun d S2 => (match appC c d S2 with | some S3 => .ok (.nx ρ) S3 | none => .bad) else .bad := rfl
@[simp] theorem qOwn_eq (i : Nat) (ρ : MEnv) (S : Store) : qOwn i ρ S = (match ρ[i]? with | some (some (.own (.lst l))) => .ok l S | _ => .bad) := rfl
@[simp] theorem gLen_tup (l : List D) (S : Store) : gLen (.tup l) S = .ok (.int l.length) S := rfl
@[simp] theorem gLen_lst (l : List D) (S : Store) : gLen (.lst l) S = .ok (.int l.length) S := rfl
@[simp] theorem gLen_scr (l : List Int) (S : Store) : gLen (.scr l) S = .ok (.int l.length) S := rfl
@[simp] theorem mDNewK_eq (ρ : MEnv) (S : Store) : mDNewK ρ S = .ok (.loc S.length) (S ++ [.dK []]) := rfl
@[simp] theorem mDGet2_eq (md mk mx : ME) (ρ : MEnv) (S : Store) : mDGet2 md mk mx ρ S = (md ρ S).bind fun c S1 => (match dictR S1 c with
  | none => .bad
  | some _ => (mk ρ S1).bind fun y S2 => (mx ρ S2).bind fun z S3 => (match dictR S3 c, keyD y with
    | some l, some k => .ok ((valA l k).getD z) S3
    | _, _ => .bad)) := rfl
@[simp] theorem mDPut_eq (md mk mv : ME) (ρ : MEnv) (S : Store) : mDPut md mk mv ρ S = (mv ρ S).bind fun d S1 => (md ρ S1).bind fun c S2 => (mk ρ S2).bind fun y S3 => (match putDict c y d S3 with | some S4 => .ok (.nx ρ) S4 | none => .bad) := rfl
@[simp] theorem mDSet_eq (md mk mx : ME) (ρ : MEnv) (S : Store) : mDSet md mk mx ρ S = (md ρ S).bind fun c S1 => (match dictAt S1 c with
  | none => .bad
  | some _ => (mk ρ S1).bind fun y S2 => (mx ρ S2).bind fun z S3 => setDef c y z S3) := rfl
@[simp] theorem dictAt_eq (S : Store) (n : Nat) : dictAt S (.loc n) = (match S[n]? with | some (.dK l) => some l | _ => none) := rfl
@[simp] theorem dictR_eq (S : Store) (n : Nat) : dictR S (.loc n) = (match S[n]? with | some (.dK l) => some l | some (.dF l) => some l | _ => none) := rfl
@[simp] theorem keyD_int (i : Int) : keyD (.int i) = some (.inl i) := rfl
@[simp] theorem keyD_str (x : PySem.Str) : keyD (.str x) = some (.inr x) := rfl
@[simp] theorem mPar_eq (is : List Nat) (m : MSl) (ρ : MEnv) (S : Store) : mPar is m ρ S = (m ρ S).bind fun ss S1 => if is.length = ss.length then .ok (.nx (setSl ρ (is.zip ss))) S1 else .bad := rfl
@[simp] theorem sNil_eq (ρ : MEnv) (S : Store) : sNil ρ S = .ok [] S := rfl
@[simp] theorem sVal_eq (m : ME) (r : MSl) (ρ : MEnv) (S : Store) : sVal m r ρ S = (m ρ S).bind fun d S1 => (r ρ S1).bind fun ss S2 => .ok (.val d :: ss) S2 := rfl
@[simp] theorem sOwnL_eq (m : ML) (r : MSl) (ρ : MEnv) (S : Store) : sOwnL m r ρ S = (m ρ S).bind fun l S1 => (r ρ S1).bind fun ss S2 => .ok (.own (.lst l) :: ss) S2 := rfl
@[simp] theorem setSl_nil (ρ : MEnv) : setSl ρ [] = ρ := rfl
@[simp] theorem setSl_cons (ρ : MEnv) (i : Nat) (s : Slot) (r : List (Nat × Slot)) : setSl ρ ((i, s) :: r) = setSl (ρ.set i (some s)) r := rfl
@[simp] theorem setD_nil (ρ : MEnv) : setD ρ [] = ρ := rfl
@[simp] theorem setD_cons (ρ : MEnv) (i : Nat) (d : D) (r : List (Nat × D)) : setD ρ ((i, d) :: r) = setD (ρ.set i (some (.val d))) r := rfl
@[simp] theorem pat_nm (i : Nat) (d : D) : Pat.bind (.nm i) d = some [(i, d)] := by unfold Pat.bind; rfl
@[simp] theorem pat_tp (ps : List Pat) (l : List D) : Pat.bind (.tp ps) (.tup l) = Pat.binds ps l := by unfold Pat.bind; rfl
@[simp] theorem pats_nil : Pat.binds [] [] = some [] := by unfold Pat.binds; rfl
@[simp] theorem pats_cons (p : Pat) (ps : List Pat) (d : D) (ds : List D) : Pat.binds (p :: ps) (d :: ds) = (match Pat.bind p d, Pat.binds ps ds with | some a, some b => some (a ++ b) | _, _ => none) := by
  rw [Pat.binds]
  all_goals (cases Pat.bind p d <;> cases Pat.binds ps ds <;> rfl)
@[simp] theorem wipeM_nil (ρ : MEnv) : wipeM ρ [] = ρ := rfl
@[simp] theorem wipeM_cons (ρ : MEnv) (v : Nat) (vs : List Nat) : wipeM ρ (v :: vs) = (wipeM ρ vs).set v none := rfl
@[simp] theorem forL_nil (p : Pat) (mb : MS) (ρ : MEnv) (S : Store) : mForL p mb [] ρ S = .ok (.nx ρ) S := rfl
theorem forL_cons (p : Pat) (mb : MS) (d : D) (ds : List D) (ρ : MEnv) (S : Store) : mForL p mb (d :: ds) ρ S = (match p.bind d with
    | none => .bad
    | some l => (mb (setD ρ l) S).bind fun fl S1 => (match fl with
      | .nx ρ1 => mForL p mb ds ρ1 S1
      | .ct ρ1 => mForL p mb ds ρ1 S1
      | .bk ρ1 => .ok (.nx ρ1) S1
      | .rt d => .ok (.rt d) S1)) := rfl
@[simp] theorem lcL_nil (p : Pat) (mt : MT) (me : ME) (ρ : MEnv) (S : Store) : mLcL p mt me [] ρ S = .ok [] S := rfl
theorem lcL_cons (p : Pat) (mt : MT) (me : ME) (d : D) (ds : List D) (ρ : MEnv) (S : Store) : mLcL p mt me (d :: ds) ρ S = (match p.bind d with
    | none => .bad
    | some l => (mt (setD ρ l) S).bind fun k S1 => if k = true then (me (setD ρ l) S1).bind fun y S2 => (mLcL p mt me ds ρ S2).bind fun r S3 => .ok (y :: r) S3
      else mLcL p mt me ds ρ S1) := rfl
theorem mDef_eq (N : Nat) (b : MS) (ds : List D) (S : Store) : mDef N b ds S = (b (ds.map (fun d => some (.val d)) ++ List.replicate (N - ds.length) none) S).bind fun fl S1 => (match fl with
  | .rt d => .ok d S1
  | .nx _ => .ok .non S1
  | _ => .bad) := rfl
@[simp] theorem n2_eq (h : D → D → Store → R (List D)) (a b : ME) (ρ : MEnv) (S : Store) : n2 h a b ρ S = (a ρ S).bind fun x S1 => (b ρ S1).bind fun y S2 => h x y S2 := rfl
@[simp] theorem atI0 {α : Type} (a : α) (l : List α) : atI (a :: l) 0 = some a := by
  have := atI_nat (xs := a :: l) (j := 0) (v := a) rfl
  exact this
@[simp] theorem atI1 {α : Type} (a b : α) (l : List α) : atI (a :: b :: l) 1 = some b := by
  have := atI_nat (xs := a :: b :: l) (j := 1) (v := b) rfl
  exact this
@[simp] theorem atI2 {α : Type} (a b c : α) (l : List α) : atI (a :: b :: c :: l) 2 = some c := by
  have := atI_nat (xs := a :: b :: c :: l) (j := 2) (v := c) rfl
  exact this
theorem small_le {n : Nat} (h : n ≤ 1000000) : n ≤ PySem.sizeLine := Nat.le_trans h (by decide)
theorem small_lt {n : Nat} (h : n ≤ 1000000) : n < PySem.sizeLine := Nat.lt_of_le_of_lt h (by decide)
end Mo
set_option maxRecDepth 100000
/-! Mo: bounds of what is reckoned. -/
namespace Mo
open L2
theorem log2_le {i : Int} {k : Nat} (h0 : 0 ≤ i) (h : i < 2 ^ (k + 1)) : i.natAbs.log2 ≤ k := by
  by_cases z : i.natAbs = 0
  · rw [z]; simp
  · have h1 : i.natAbs < 2 ^ (k + 1) := by
      have e : ((i.natAbs : Nat) : Int) = i := Int.natAbs_of_nonneg h0
      have : ((i.natAbs : Nat) : Int) < ((2 ^ (k + 1) : Nat) : Int) := by rw [e]; simpa using h
      exact Int.ofNat_lt.mp this
    have := (Nat.log2_lt z).mpr h1
    omega
theorem cMul_nn {i j : Int} (h1 : 0 ≤ i) (h2 : i < 2 ^ 256) (h3 : 0 ≤ j) (h4 : j < 2 ^ 256) : cMul i j := by
  have a := log2_le (k := 255) h1 h2
  have b := log2_le (k := 255) h3 h4
  unfold cMul
  omega
theorem cDiv_nn {i j : Int} (h1 : 0 < j) (h2 : j < 2 ^ 256) : cDiv i j := by
  have a := log2_le (k := 255) (Int.le_of_lt h1) h2
  exact ⟨h1, by omega⟩
theorem cMod_nn {i j : Int} (h1 : 0 < j) : cMod i j := h1
theorem cPow_nn {i j : Int} (h0 : 0 ≤ i) (h1 : i < 2 ^ 60) (h2 : 0 ≤ j) (h3 : j ≤ 1000000) : cPow i j := ⟨h2, h3, by
  have : ((i.natAbs : Nat) : Int) = i := Int.natAbs_of_nonneg h0
  omega⟩
end Mo
set_option maxRecDepth 100000
/-! Mo: how long what repr gives can be; == of data that are no truths. -/
namespace Mo
open PySem L2
mutual
/-- numbers below 2 ^ 64 alone, and lists and tuples of such -/
def nums : PyData → Bool
  | .int i => decide (i.natAbs.log2 < 64)
  | .list xs => numsAll xs
  | .tuple xs => numsAll xs
  | .bool _ => true
  | .none => true
  | .str _ => false
  | .dict _ => false
def numsAll : List PyData → Bool
  | [] => true
  | x :: xs => nums x && numsAll xs
end
mutual
def nodes : PyData → Nat
  | .list xs => 1 + nodesAll xs
  | .tuple xs => 1 + nodesAll xs
  | _ => 1
def nodesAll : List PyData → Nat
  | [] => 0
  | x :: xs => nodes x + nodesAll xs
end
theorem piled_le : ∀ {ts : List Str} {n : Nat}, ts.length ≤ n → True := fun _ => trivial
theorem tupleText_len {ts : List Str} {k : Nat} (h : piled ts ≤ k) : (tupleText ts).length ≤ k + 3 := by
  unfold tupleText
  rw [strLen_append, strLen_append]
  have e1 : (("(" : String) : Str).length = 1 := rfl
  have e2 : ((if ts.length == 1 then ",)" else ")" : String) : Str).length ≤ 2 := by split <;> decide
  have e3 : (Str.join ", " ts).length ≤ k := by
    cases ts with
    | nil => exact Nat.zero_le _
    | cons t r => have := join_length_add (t :: r) (by simp); omega
  omega
theorem textFrom_up : ∀ (ts : List Str) (k : Nat) (acc : Str), (textFrom k acc ts).length ≤ acc.length + piled ts
  | [], k, acc => by show acc.length ≤ acc.length + 0; omega
  | t :: r, k, acc => by
    have ih := textFrom_up r (k + 1) (acc ++ (if k > 0 then ", " else "" : String) ++ t)
    have e : (acc ++ (if k > 0 then ", " else "" : String) ++ t).length = acc.length + (if k > 0 then 2 else 0) + t.length := by
      rw [strLen_append, strLen_append]
      split <;> rfl
    show (textFrom (k + 1) (acc ++ (if k > 0 then ", " else "" : String) ++ t) r).length ≤ acc.length + (t.length + 2 + piled r)
    rw [e] at ih
    have h2 : (if k > 0 then 2 else 0) ≤ 2 := by split <;> omega
    omega
theorem listText_len {ts : List Str} {k : Nat} (h : piled ts ≤ k) : (listText ts).length ≤ k + 2 := by
  unfold listText
  rw [strLen_append]
  have e1 : (("[" : String) : Str).length = 1 := rfl
  have e2 : (("]" : String) : Str).length = 1 := rfl
  have := textFrom_up ts 0 "["
  omega
mutual
theorem shown_len : ∀ p : PyData, nums p = true → p.shown.length + 2 ≤ 80 * nodes p ∧ p.showable = true
  | .none, _ => by simp only [PyData.shown, nodes, PyData.showable]; exact ⟨by decide, trivial⟩
  | .bool b, _ => by simp only [PyData.shown, nodes, PyData.showable]; refine ⟨?_, trivial⟩; cases b <;> decide
  | .int i, h => by
    rw [nums] at h
    have h' := of_decide_eq_true h
    simp only [PyData.shown, nodes, PyData.showable]
    have e := int_text_length_le (by decide : 0 < 64) h'
    have e2 : ((toString i : String) : Str).length = (toString i).length := PySem.ofString_length _
    exact ⟨by rw [e2]; omega, decide_eq_true (by omega)⟩
  | .str _, h => by rw [nums] at h; cases h
  | .list xs, h => by
    rw [nums] at h
    obtain ⟨h1, h2⟩ := shownAll_len xs h
    rw [PyData.shown, nodes, PyData.showable]
    have := listText_len (Nat.le_refl (piled (PyData.shownAll xs)))
    exact ⟨by omega, h2⟩
  | .tuple xs, h => by
    rw [nums] at h
    obtain ⟨h1, h2⟩ := shownAll_len xs h
    rw [PyData.shown, nodes, PyData.showable]
    have := tupleText_len (Nat.le_refl (piled (PyData.shownAll xs)))
    exact ⟨by omega, h2⟩
  | .dict _, h => by rw [nums] at h; cases h
theorem shownAll_len : ∀ ps : List PyData, numsAll ps = true → piled (PyData.shownAll ps) ≤ 80 * nodesAll ps ∧ PyData.showableAll ps = true
  | [], _ => by rw [PyData.shownAll, nodesAll, PyData.showableAll]; exact ⟨Nat.le_refl _, rfl⟩
  | p :: ps, h => by
    rw [numsAll, Bool.and_eq_true] at h
    obtain ⟨a1, a2⟩ := shown_len p h.1
    obtain ⟨b1, b2⟩ := shownAll_len ps h.2
    rw [PyData.shownAll, nodesAll, PyData.showableAll, a2, b2]
    refine ⟨?_, rfl⟩
    show p.shown.length + 2 + piled (PyData.shownAll ps) ≤ _
    omega
end
theorem shownOk_of {p : PyData} (h : nums p = true) (hn : nodes p ≤ 10000) (hd : p.depth ≤ 60) : shownOk p := by
  obtain ⟨a, b⟩ := shown_len p h
  exact ⟨b, hd, small_le (by omega)⟩
theorem gRepr_tup {l : List D} {p : PyData} {S : Store} (hp : toP (.tup l) = some p) (h : shownOk p) : gRepr (.tup l) S = .ok (.str p.shown) S := by
  unfold gRepr
  rw [hp]
  dsimp only
  rw [if_pos h]
theorem gRepr_lst {l : List D} {p : PyData} {S : Store} (hp : toP (.lst l) = some p) (h : shownOk p) : gRepr (.lst l) S = .ok (.str p.shown) S := by
  unfold gRepr
  rw [hp]
  dsimp only
  rw [if_pos h]
theorem eqD_ints (x y : Int) : eqD (.int x) (.int y) = some (x == y) := by
  unfold eqD
  have h : ∀ z : Int, SeqAt.shaped (.int z) = true := fun z => by simp [SeqAt.shaped, PyData.canLay0, PyData.depth]
  simp only [toP, h, and_self, if_true]
  rw [PyData.eqv]
/-- texts first, then data -/
def gEqS : G2 := fun x y S => match x, y with
  | .str a, .str b => .ok (.bl (decide (a = b))) S
  | _, _ => .bad
def gNeS : G2 := fun x y S => match x, y with
  | .str a, .str b => .ok (.bl (!decide (a = b))) S
  | _, _ => .bad
theorem dec_vstr {a b : Str} : decide (V.str a = V.str b) = decide (a = b) := by
  by_cases h : a = b
  · rw [h]; simp
  · rw [decide_eq_false h, decide_eq_false fun e => h (V.str.inj e)]
theorem od_eqS {K : PySem.W.Frag} : OpD K rEq gEqS := by
  intro g f H S dx dy d S' x y Q s rx ry hm q
  unfold gEqS at hm
  split at hm
  · cases hm
    cases rx; cases ry
    exact ⟨rfl, by rw [dec_vstr]; exact q.same s rfl⟩
  · cases hm
theorem od_neS {K : PySem.W.Frag} : OpD K rNe gNeS := by
  intro g f H S dx dy d S' x y Q s rx ry hm q
  unfold gNeS at hm
  split at hm
  · cases hm
    cases rx; cases ry
    exact ⟨rfl, by rw [dec_vstr]; exact q.same s rfl⟩
  · cases hm
def gEqA : G2 := gOr gEqS gEq
def gNeA : G2 := gOr gNeS gNe
theorem od_eqA {K : PySem.W.Frag} : OpD K (fun x y H Q => rEq x y H Q ∨ rEqD K x y H Q) gEqA := OpD.or od_eqS od_eq
theorem od_neA {K : PySem.W.Frag} : OpD K (fun x y H Q => rNe x y H Q ∨ rNeD K x y H Q) gNeA := OpD.or od_neS od_ne
theorem op_eqA {X : Cx} (hu : X.A.units + 64 < cLine) : OpR X (compareOp .Eq) (fun x y H Q => rEq x y H Q ∨ rEqD X.K x y H Q) := op_eq.or (op_eqD hu)
theorem op_neA {X : Cx} (hu : X.A.units + 64 < cLine) : OpR X (compareOp .NotEq) (fun x y H Q => rNe x y H Q ∨ rNeD X.K x y H Q) := op_ne.or (op_neD hu)
@[simp] theorem gNe_strs (x y : Str) (S : Store) : gNeA (.str x) (.str y) S = .ok (.bl (!decide (x = y))) S := rfl
@[simp] theorem gEq_strs (x y : Str) (S : Store) : gEqA (.str x) (.str y) S = .ok (.bl (decide (x = y))) S := rfl
@[simp] theorem gNe_ints (x y : Int) (S : Store) : gNeA (.int x) (.int y) S = .ok (.bl (!(x == y))) S := by
  show gNe (.int x) (.int y) S = _
  unfold gNe
  rw [eqD_ints]
@[simp] theorem gEq_ints (x y : Int) (S : Store) : gEqA (.int x) (.int y) S = .ok (.bl (x == y)) S := by
  show gEq (.int x) (.int y) S = _
  unfold gEq
  rw [eqD_ints]
@[simp] theorem sz_1 : 1 ≤ PySem.sizeLine := by decide
@[simp] theorem sz_2 : 2 ≤ PySem.sizeLine := by decide
@[simp] theorem sz_3 : 3 ≤ PySem.sizeLine := by decide
@[simp] theorem sz_4 : 4 ≤ PySem.sizeLine := by decide
@[simp] theorem sz_5 : 5 ≤ PySem.sizeLine := by decide
@[simp] theorem sz_6 : 6 ≤ PySem.sizeLine := by decide
@[simp] theorem sz_7 : 7 ≤ PySem.sizeLine := by decide
@[simp] theorem sz_8 : 8 ≤ PySem.sizeLine := by decide
@[simp] theorem sz_9 : 9 ≤ PySem.sizeLine := by decide
@[simp] theorem sz_10 : 10 ≤ PySem.sizeLine := by decide
@[simp] theorem sz_11 : 11 ≤ PySem.sizeLine := by decide
@[simp] theorem sz_12 : 12 ≤ PySem.sizeLine := by decide
@[simp] theorem sz_13 : 13 ≤ PySem.sizeLine := by decide
@[simp] theorem sz_14 : 14 ≤ PySem.sizeLine := by decide
@[simp] theorem sz_15 : 15 ≤ PySem.sizeLine := by decide
@[simp] theorem sz_16 : 16 ≤ PySem.sizeLine := by decide
@[simp] theorem sz_17 : 17 ≤ PySem.sizeLine := by decide
@[simp] theorem sz_18 : 18 ≤ PySem.sizeLine := by decide
@[simp] theorem sz_19 : 19 ≤ PySem.sizeLine := by decide
@[simp] theorem sz_20 : 20 ≤ PySem.sizeLine := by decide
end Mo
set_option maxRecDepth 100000
/-! Mo: loops and comprehensions, held by what they keep. -/
namespace Mo
open L2
variable {α : Type}
theorem forL_run {p : Pat} {mb : MS} {enc : α → D} (I : List α → MEnv → Store → Prop) : ∀ (xs done : List α) {ρ : MEnv} {S : Store}, I done ρ S →
    (∀ (d : List α) (x : α) (r : List α) (ρ : MEnv) (S : Store), done ++ xs = d ++ x :: r → I d ρ S → ∃ l ρ' S', p.bind (enc x) = some l ∧ (mb (setD ρ l) S = .ok (.nx ρ') S' ∨ mb (setD ρ l) S = .ok (.ct ρ') S') ∧ I (d ++ [x]) ρ' S') →
    ∃ ρ' S', mForL p mb (xs.map enc) ρ S = .ok (.nx ρ') S' ∧ I (done ++ xs) ρ' S'
  | [], done, ρ, S, h, _ => ⟨ρ, S, rfl, by rw [List.append_nil]; exact h⟩
  | x :: xs, done, ρ, S, h, st => by
    obtain ⟨l, ρ1, S1, hp, e1, h1⟩ := st done x xs ρ S rfl h
    obtain ⟨ρ2, S2, e2, h2⟩ := forL_run I xs (done ++ [x]) h1 (fun d y r ρ S e hI => st d y r ρ S (by rw [← e, List.append_assoc]; rfl) hI)
    refine ⟨ρ2, S2, ?_, by rw [List.append_assoc] at h2; exact h2⟩
    rw [List.map_cons, forL_cons, hp]
    rcases e1 with e1 | e1
    · dsimp only; rw [e1]; exact e2
    · dsimp only; rw [e1]; exact e2
/-- the same, from nothing done -/
theorem forL_inv {p : Pat} {mb : MS} {enc : α → D} (I : List α → MEnv → Store → Prop) (xs : List α) {ρ : MEnv} {S : Store} (h : I [] ρ S)
    (st : ∀ (d : List α) (x : α) (r : List α) (ρ : MEnv) (S : Store), xs = d ++ x :: r → I d ρ S → ∃ l ρ' S', p.bind (enc x) = some l ∧ (mb (setD ρ l) S = .ok (.nx ρ') S' ∨ mb (setD ρ l) S = .ok (.ct ρ') S') ∧ I (d ++ [x]) ρ' S') :
    ∃ ρ' S', mForL p mb (xs.map enc) ρ S = .ok (.nx ρ') S' ∧ I xs ρ' S' := by
  have := forL_run (mb := mb) I xs [] h (fun d x r ρ S e hI => st d x r ρ S (by rw [← e, List.nil_append]) hI)
  rw [List.nil_append] at this
  exact this
/-- a comprehension whose elements change the store -/
theorem lcL_run {β : Type} {p : Pat} {me : ME} {enc : α → D} {dec : β → D} {ρ : MEnv} (I : Nat → Store → Prop) (J : β → Prop) (N : Nat) : ∀ (xs : List α) (k : Nat) {S : Store}, I k S → k + xs.length ≤ N →
    (∀ (x : α) (k : Nat) (S : Store), x ∈ xs → k < N → I k S → ∃ l y S', p.bind (enc x) = some l ∧ me (setD ρ l) S = .ok (dec y) S' ∧ J y ∧ I (k + 1) S') →
    ∃ (ys : List β) (S' : Store), mLcL p mYes me (xs.map enc) ρ S = .ok (ys.map dec) S' ∧ ys.length = xs.length ∧ (∀ y ∈ ys, J y) ∧ I (k + xs.length) S'
  | [], k, S, h, _, _ => ⟨[], S, rfl, rfl, (fun y hy => nomatch hy), h⟩
  | x :: xs, k, S, h, hN, st => by
    rw [List.length_cons] at hN
    obtain ⟨l, y, S1, hp, e1, j1, h1⟩ := st x k S List.mem_cons_self (by omega) h
    obtain ⟨ys, S2, e2, n2, j2, h2⟩ := lcL_run I J N xs (k + 1) h1 (by omega) (fun x k S hx => st x k S (List.mem_cons_of_mem _ hx))
    refine ⟨y :: ys, S2, ?_, by rw [List.length_cons, List.length_cons, n2], fun z hz => ?_, by rw [List.length_cons, show k + (xs.length + 1) = k + 1 + xs.length by omega]; exact h2⟩
    · rw [List.map_cons, lcL_cons, hp]
      dsimp only
      rw [mYes_eq, bind_ok_eq, if_pos rfl, e1, bind_ok_eq, e2, bind_ok_eq, List.map_cons]
    · cases hz with
      | head => exact j1
      | tail _ hz => exact j2 z hz
/-- a comprehension that leaves the store -/
theorem lcL_map {p : Pat} {me : ME} {enc : α → D} {f : α → D} {ρ : MEnv} {S : Store} : ∀ (xs : List α),
    (∀ x ∈ xs, ∃ l, p.bind (enc x) = some l ∧ me (setD ρ l) S = .ok (f x) S) → mLcL p mYes me (xs.map enc) ρ S = .ok (xs.map f) S
  | [], _ => rfl
  | x :: xs, st => by
    obtain ⟨l, hp, e⟩ := st x List.mem_cons_self
    rw [List.map_cons, lcL_cons, hp]
    dsimp only
    rw [mYes_eq, bind_ok_eq, if_pos rfl, e, bind_ok_eq, lcL_map xs (fun y hy => st y (List.mem_cons_of_mem _ hy)), bind_ok_eq, List.map_cons]
/-- with a test -/
theorem lcL_filter {p : Pat} {mt : MT} {me : ME} {enc : α → D} {f : α → D} {c : α → Bool} {ρ : MEnv} {S : Store} : ∀ (xs : List α),
    (∀ x ∈ xs, ∃ l, p.bind (enc x) = some l ∧ mt (setD ρ l) S = .ok (c x) S ∧ (c x = true → me (setD ρ l) S = .ok (f x) S)) → mLcL p mt me (xs.map enc) ρ S = .ok ((xs.filter c).map f) S
  | [], _ => rfl
  | x :: xs, st => by
    obtain ⟨l, hp, e, e'⟩ := st x List.mem_cons_self
    have ih := lcL_filter xs (fun y hy => st y (List.mem_cons_of_mem _ hy))
    rw [List.map_cons, lcL_cons, hp]
    dsimp only
    rw [e, bind_ok_eq]
    cases h : c x with
    | true => rw [if_pos rfl, e' h, bind_ok_eq, ih, bind_ok_eq, List.filter_cons_of_pos h, List.map_cons]
    | false => rw [if_neg Bool.false_ne_true, ih, List.filter_cons_of_neg (by rw [h]; exact Bool.false_ne_true)]
/-! ### dicts whose keys are numbers -/
def addK (ks : List Int) (k : Int) : List Int := if k ∈ ks then ks else ks ++ [k]
theorem valA_map (ks : List Int) (f : Int → D) (k : Int) : valA (ks.map fun j => ((.inl j : Key), f j)) (.inl k) = if k ∈ ks then some (f k) else none := by
  induction ks with
  | nil => rfl
  | cons j ks ih =>
    unfold valA at ih ⊢
    rw [List.map_cons, List.find?_cons]
    by_cases h : j = k
    · subst h; simp
    · have h1 : decide ((Sum.inl j : Key) = Sum.inl k) = false := decide_eq_false fun e => h (Sum.inl.inj e)
      have h2 : (k ∈ j :: ks) = (k ∈ ks) := by simp [Ne.symm h]
      simp only [h1, h2]
      exact ih
theorem any_map (ks : List Int) (f : Int → D) (k : Int) : ((ks.map fun j => ((.inl j : Key), f j)).any fun kv => decide (kv.1 = .inl k)) = decide (k ∈ ks) := by
  induction ks with
  | nil => rfl
  | cons j ks ih =>
    rw [List.map_cons, List.any_cons, ih]
    by_cases h : j = k
    · subst h; simp
    · have h1 : decide ((Sum.inl j : Key) = Sum.inl k) = false := decide_eq_false fun e => h (Sum.inl.inj e)
      have h2 : (k ∈ j :: ks) = (k ∈ ks) := by simp [Ne.symm h]
      simp only [h1, h2, Bool.false_or]
theorem putA_map (ks : List Int) (f : Int → D) (k : Int) (d : D) : putA (ks.map fun j => ((.inl j : Key), f j)) (.inl k) d = (addK ks k).map fun j => ((.inl j : Key), if j = k then d else f j) := by
  unfold putA addK
  rw [any_map]
  by_cases h : k ∈ ks
  · rw [decide_eq_true h, if_pos rfl, if_pos h, List.map_map]
    refine List.map_congr_left fun j _ => ?_
    show (if (Sum.inl j : Key) = Sum.inl k then _ else _) = _
    by_cases e : j = k
    · subst e; rw [if_pos rfl, if_pos rfl]
    · rw [if_neg (fun e' => e (Sum.inl.inj e')), if_neg e]
  · rw [decide_eq_false h, if_neg Bool.false_ne_true, if_neg h, List.map_append]
    congr 1
    · refine List.map_congr_left fun j hj => ?_
      have hne : j ≠ k := fun e => h (e ▸ hj)
      rw [if_neg hne]
    · simp
theorem intKeys_map (ks : List Int) (f : Int → D) : intKeys (ks.map fun j => ((.inl j : Key), f j)) = some ks := by
  induction ks with
  | nil => rfl
  | cons j ks ih => rw [List.map_cons, intKeys, ih]; rfl
theorem sortI_mem {ks : List Int} {k : Int} : k ∈ sortI ks ↔ k ∈ ks := List.mem_mergeSort
theorem sortI_length (ks : List Int) : (sortI ks).length = ks.length := List.length_mergeSort ks
/-- what lay in the store lies there still -/
def Keeps (S S' : Store) : Prop := S.length ≤ S'.length ∧ ∀ i, i < S.length → S'[i]? = S[i]?
theorem Keeps.refl (S : Store) : Keeps S S := ⟨Nat.le_refl _, fun _ _ => rfl⟩
theorem Keeps.app (S T : Store) : Keeps S (S ++ T) := ⟨by rw [List.length_append]; omega, fun i h => List.getElem?_append_left h⟩
theorem Keeps.trans {S S' S'' : Store} (h : Keeps S S') (h' : Keeps S' S'') : Keeps S S'' := ⟨Nat.le_trans h.1 h'.1, fun i hi => (h'.2 i (Nat.lt_of_lt_of_le hi h.1)).trans (h.2 i hi)⟩
theorem Keeps.set {S S' : Store} {n : Nat} {c : Cell} (h : Keeps S S') (hn : S.length ≤ n) : Keeps S (S'.set n c) := ⟨by rw [List.length_set]; exact h.1, fun i hi => by rw [List.getElem?_set_ne (by omega)]; exact h.2 i hi⟩
/-! ### data -/
theorem toPs_map {f : α → D} {g : α → PySem.PyData} (h : ∀ x, toP (f x) = some (g x)) : ∀ xs : List α, toPs (xs.map f) = some (xs.map g)
  | [] => rfl
  | x :: xs => by rw [List.map_cons, toPs, h x, toPs_map h xs]; rfl
theorem numsAll_map {g : α → PySem.PyData} {xs : List α} (h : ∀ x ∈ xs, nums (g x) = true) : numsAll (xs.map g) = true := by
  induction xs with
  | nil => rfl
  | cons x xs ih => rw [List.map_cons, numsAll, h x List.mem_cons_self, ih (fun y hy => h y (List.mem_cons_of_mem _ hy))]; rfl
theorem nodesAll_map {g : α → PySem.PyData} {k : Nat} {xs : List α} (h : ∀ x ∈ xs, nodes (g x) ≤ k) : nodesAll (xs.map g) ≤ xs.length * k := by
  induction xs with
  | nil => rw [List.map_nil, nodesAll]; exact Nat.zero_le _
  | cons x xs ih =>
    rw [List.map_cons, nodesAll, List.length_cons, Nat.add_mul, Nat.one_mul]
    have := h x List.mem_cons_self
    have := ih (fun y hy => h y (List.mem_cons_of_mem _ hy))
    omega
theorem depthAll_map {g : α → PySem.PyData} {k : Nat} {xs : List α} (h : ∀ x ∈ xs, (g x).depth ≤ k) : PySem.PyData.depthAll (xs.map g) ≤ k := by
  induction xs with
  | nil => rw [List.map_nil, PySem.PyData.depthAll]; omega
  | cons x xs ih =>
    rw [List.map_cons, PySem.PyData.depthAll]
    exact Nat.max_le.mpr ⟨h x List.mem_cons_self, ih (fun y hy => h y (List.mem_cons_of_mem _ hy))⟩
theorem log_lt {i : Int} (h : i.natAbs < 2 ^ 64) : i.natAbs.log2 < 64 := by
  by_cases z : i.natAbs = 0
  · rw [z]; decide
  · exact (Nat.log2_lt z).mpr h
end Mo
set_option maxRecDepth 100000
set_option maxHeartbeats 1000000
/-! Mo: dicts that are walked through. -/
namespace Mo
open PySem PySem.Spec PyProof.Rows L2

section
variable {K : PySem.W.Frag} {g f : List Addr} {H : Hp} {p : Addr} {u : HO}
/-- no tuple, no list stands there -/
def Nt (H : Hp) (p : Addr) : Prop := ∀ vs, ¬ Rd H p (.tup vs)
theorem Nt.of {kvs : List (Key × V)} (h : H p = some (.dK kvs)) : Nt H p := fun vs r => by
  rcases r with r | ⟨o, r⟩ <;> rw [h] at r <;> cases r
theorem Nt.frz {kvs : List (Key × V)} {o : Obj} (h : H p = some (.frz o (.dK kvs))) : Nt H p := fun vs r => by
  rcases r with r | ⟨o, r⟩ <;> rw [h] at r <;> cases r
theorem SqT.updN {a : Addr} {vs : List V} (hm : Nt H p) (h : SqT K H a vs) : SqT K (L2.upd H p u) a vs := by
  rcases h with h | h
  · exact .inl (Rd.upd (fun e => by subst e; exact hm vs h) h)
  · exact .inr h
mutual
theorem RelD.updN (hm : Nt H p) (hp : p ∈ f ∨ p ∈ g) : ∀ (d : D) (v : V), RelD K g f H d v → RelD K g f (L2.upd H p u) d v
  | .non, _, h => h
  | .bl _, _, h => h
  | .int _, _, h => h
  | .str _, _, h => h
  | .raw _, _, h => h
  | .tup l, _, ⟨a, vs, e, q, r⟩ => ⟨a, vs, e, SqT.updN hm q, RelDs.updN hm hp l vs r⟩
  | .lst l, _, ⟨a, vs, e, q, r⟩ => ⟨a, vs, e, q.upd hp, RelDs.updN hm hp l vs r⟩
  | .loc n, _, h => h
  | .scr l, _, ⟨a, e, q⟩ => ⟨a, e, q.upd hp⟩
theorem RelDs.updN (hm : Nt H p) (hp : p ∈ f ∨ p ∈ g) : ∀ (l : List D) (vs : List V), RelDs K g f H l vs → RelDs K g f (L2.upd H p u) l vs
  | [], _, h => h
  | d :: ds, _, ⟨v, r, e, q, t⟩ => ⟨v, r, e, RelD.updN hm hp d v q, RelDs.updN hm hp ds r t⟩
end
theorem RelKv.updN {κ : Type} (hm : Nt H p) (hp : p ∈ f ∨ p ∈ g) : ∀ (l : List (κ × D)) (vs : List (κ × V)), RelKv K g f H l vs → RelKv K g f (L2.upd H p u) l vs
  | [], _, h => h
  | d :: ds, _, ⟨v, r, e, q, t⟩ => ⟨v, r, e, RelD.updN hm hp d.2 v q, RelKv.updN hm hp ds r t⟩
theorem RelC.updN {a : Addr} (hm : Nt H p) (hp : p ∈ f ∨ p ∈ g) (hne : a ≠ p) : ∀ {c : Cell}, RelC K g f H a c → RelC K g f (L2.upd H p u) a c
  | .lst l, ⟨vs, e, r⟩ => ⟨vs, by rw [upd_ne hne]; exact e, RelDs.updN hm hp l vs r⟩
  | .dK l, ⟨vs, e, r⟩ => ⟨vs, by rw [upd_ne hne]; exact e, RelKv.updN hm hp l vs r⟩
  | .dT l, ⟨vs, e, r, r'⟩ => ⟨vs, by rw [upd_ne hne]; exact e, RelKv.updN hm hp _ _ r, RelKv.updN hm hp _ _ r'⟩
  | .dF l, ⟨vs, ⟨ob, e⟩, r⟩ => ⟨vs, ⟨ob, by rw [upd_ne hne]; exact e⟩, RelKv.updN hm hp l vs r⟩
theorem g_inj {S : Store} {n m : Nat} (s : RelS K g f H S) (h1 : g[n]? = some p) (h2 : g[m]? = some p) : n = m := by
  have l1 := lt_of_get h1
  have l2 := lt_of_get h2
  rw [List.getElem?_eq_getElem l1] at h1
  rw [List.getElem?_eq_getElem l2] at h2
  cases h1
  exact (List.getElem_inj s.nod).mp (Option.some.inj h2).symm
theorem RelS.updGN {S : Store} {n : Nat} {c : Cell} (s : RelS K g f H S) (hm : Nt H p) (hp : g[n]? = some p) (r : RelC K g f (L2.upd H p u) p c) : RelS K g f (L2.upd H p u) (S.set n c) where
  len := by rw [List.length_set]; exact s.len
  nod := s.nod
  cel := fun m d a e1 e2 => by
    by_cases hk : n = m
    · subst hk
      rw [hp] at e2; cases e2
      have hl : n < S.length := by rw [← s.len]; exact lt_of_get hp
      rw [List.getElem?_set_self hl] at e1
      cases e1
      exact r
    · rw [List.getElem?_set_ne hk] at e1
      exact (s.cel m d a e1 e2).updN hm (.inr (List.mem_of_getElem? hp)) fun e => hk (g_inj s hp (e ▸ e2))
theorem Sta.updGN {w o : List Addr} {ρ : MEnv} {S : Store} {σ : L2.St} {n : Nat} {c : Cell} (s : Sta K g w o ρ S σ H) (hm : Nt H p) (hp : g[n]? = some p) (r : RelC K g (w ++ o) (L2.upd H p u) p c) : Sta K g w o ρ (S.set n c) σ (L2.upd H p u) where
  len := s.len
  val := fun i d e => let ⟨v, e1, r1⟩ := s.val i d e; ⟨v, e1, RelD.updN hm (.inr (List.mem_of_getElem? hp)) d v r1⟩
  own := fun i d e => let ⟨a, e1, m, r1⟩ := s.own i d e; ⟨a, e1, m, r1.updN hm (.inr (List.mem_of_getElem? hp)) fun z => (s.out a m).1 (by subst z; exact List.mem_of_getElem? hp)⟩
  inj := s.inj
  out := s.out
  liv := fun a m => by
    by_cases e : a = p
    · subst e; rw [upd_same]; simp
    · rw [upd_ne e]; exact s.liv a m
  sto := s.sto.updGN hm hp r
theorem RelKv.extS {κ : Type} {w o g' o' : List Addr} {H' : Hp} (x : ExtS g o H g' o' H') : ∀ (l : List (κ × D)) (vs : List (κ × V)), RelKv K g (w ++ o) H l vs → RelKv K g' (w ++ o') H' l vs
  | [], _, h => h
  | d :: ds, _, ⟨v, r, e, q, t⟩ => ⟨v, r, e, RelD.extS x d.2 v q, RelKv.extS x ds r t⟩
/-- what was locked is what it was -/
theorem ExtS.unlock {g' o o' : List Addr} {H' : Hp} {kvs : List (Key × V)} {od : Obj} (hH : H p = some (.dK kvs)) (hp : p ∈ g) (x : ExtS g o (L2.upd H p (.frz od (.dK kvs))) g' o' H') : ExtS g o H g' o' (L2.upd H' p (.dK kvs)) where
  more := by
    obtain ⟨ns, e, h⟩ := x.more
    refine ⟨ns, e, fun b hb => ?_⟩
    have := h b hb
    by_cases z : b = p
    · subst z; rw [upd_same] at this; cases this
    · rwa [upd_ne z] at this
  keep := fun c v e n m => by
    have z : c ≠ p := fun z => n (z ▸ hp)
    rw [upd_ne z]
    exact x.keep c v (by rw [upd_ne z]; exact e) n m
  live := fun c h => by
    by_cases z : c = p
    · subst z; rw [upd_same]; simp
    · rw [upd_ne z]; exact x.live c (by rw [upd_ne z]; exact h)
  tups := fun c vs r => by
    have z : c ≠ p := fun z => by subst z; exact Nt.of hH vs r
    exact Rd.upd z (x.tups c vs (Rd.upd z r))
  frz := fun c o' v e => by
    have z : c ≠ p := fun z => by subst z; rw [hH] at e; cases e
    rw [upd_ne z]
    exact x.frz c o' v (by rw [upd_ne z]; exact e)
  lam := fun c h => by
    rcases x.lam c h with q | q
    · exact .inl q
    · refine .inr ?_
      by_cases z : c = p
      · subst z; rw [upd_same] at q; cases q
      · rwa [upd_ne z] at q
theorem Ext.unlock {g' : List Addr} {H' : Hp} {kvs : List (Key × V)} {od : Obj} (hH : H p = some (.dK kvs)) (hp : p ∈ g) (x : Ext g (L2.upd H p (.frz od (.dK kvs))) g' H') : Ext g H g' (L2.upd H' p (.dK kvs)) :=
  (ExtS.unlock (o := []) hH hp x.s).ext
end
section
variable {X : Cx} {st : Stmt} {e : Expr} {i : Nat} {m : MS} {ml : ML} {me : ME}
def dictVar (i : Nat) (ρ : MEnv) (S : Store) : Option (Nat × List (Key × D)) := match ρ[i]? with
  | some (some (.val (.loc n))) => match S[n]? with
    | some (.dK l) => some (n, l)
    | _ => none
  | _ => none
theorem dictVar_of {i : Nat} {ρ : MEnv} {S : Store} {n : Nat} {l : List (Key × D)} (h : dictVar i ρ S = some (n, l)) : ρ[i]? = some (some (.val (.loc n))) ∧ S[n]? = some (.dK l) := by
  unfold dictVar at h
  split at h
  · rename_i n' e
    split at h
    · rename_i l' e'
      cases h
      exact ⟨e, e'⟩
    · cases h
  · cases h
/-- the statement, while the dict of a name is walked through -/
def mLock (i : Nat) (m : MS) : MS := fun ρ S => match dictVar i ρ S with
  | some (n, l) => (m ρ (S.set n (.dF l))).bind fun fl S2 => .ok fl (S2.set n (.dK l))
  | none => .bad
theorem sm_lock (h : SM X st m) : SM X st (mLock i m) := PS.of (ps_lock h) fun E σ H ⟨g, w, o, ρ, S, fl, S', s, hm, q⟩ => by
  unfold mLock at hm
  split at hm
  · rename_i n l hv
    obtain ⟨e1, e2⟩ := dictVar_of hv
    obtain ⟨f1, S2, h2, hm⟩ := R.bind_ok hm
    cases hm
    obtain ⟨v, _, a, _, hg⟩ := s.val i _ e1
    obtain ⟨kvs, hH, r⟩ := s.sto.cel n _ a e2 hg
    have gD : a ∈ g := List.mem_of_getElem? hg
    refine ⟨a, .dK kvs, hH, trivial, fun od => ?_⟩
    have s1 : Sta X.K g w o ρ (S.set n (.dF l)) σ (upd H a (.frz od (.dK kvs))) := s.updGN (Nt.of hH) hg ⟨kvs, ⟨od, upd_same⟩, RelKv.updN (Nt.of hH) (.inr gD) _ _ r⟩
    have rl : RelKv X.K g (w ++ o) (upd H a (.frz od (.dK kvs))) l kvs := RelKv.updN (Nt.of hH) (.inr gD) _ _ r
    refine ⟨g, w, o, ρ, _, _, S2, s1, h2, fun g' o' H' x => ?_⟩
    have hf : H' a = some (.frz od (.dK kvs)) := x.frz a od _ upd_same
    have xx := ExtS.unlock hH gD x
    have hg' : g'[n]? = some a := x.get hg
    have gD' : a ∈ g' := List.mem_of_getElem? hg'
    have rl' : ∀ f', RelKv X.K g' f' H' l kvs → RelC X.K g' f' (upd H' a (.dK kvs)) a (.dK l) := fun f' r => ⟨kvs, upd_same, RelKv.updN (Nt.frz hf) (.inr gD') _ _ r⟩
    have key : ∀ {σ' : L2.St} {ρ' : MEnv}, Sta X.K g' w o' ρ' S2 σ' H' → Sta X.K g' w o' ρ' (S2.set n (.dK l)) σ' (upd H' a (.dK kvs)) := fun st => by
      refine st.updGN (Nt.frz hf) hg' (rl' _ ?_)
      exact RelKv.extS x l kvs rl
    have Q := q g' o' _ xx
    cases fl with
    | nx ρ' => exact fun σ' st => ⟨hf, Q σ' (key st)⟩
    | bk ρ' => exact fun σ' st => ⟨hf, Q σ' (key st)⟩
    | ct ρ' => exact fun σ' st => ⟨hf, Q σ' (key st)⟩
    | rt d => 
      refine fun v rs rd => ⟨hf, Q v ?_ (RelD.updN (Nt.frz hf) (.inr gD') _ _ rd)⟩
      refine rs.updGN (Nt.frz hf) hg' (rl' _ ?_)
      exact RelKv.less (fun b hb => List.mem_append_left _ hb) _ _ (RelKv.extS x l kvs rl)
  · cases hm
/-- the list that an expression makes, while the dict of a name is walked through -/
def nLock (i : Nat) (m : ML) : ML := fun ρ S => match dictVar i ρ S with
  | some (n, l) => (m ρ (S.set n (.dF l))).bind fun ds S2 => .ok ds (S2.set n (.dK l))
  | none => .bad
theorem nm_lock (h : NM X e ml) : NM X e (nLock i ml) := PE.of (pe_lock h) fun σ H Q ⟨g, w, o, ρ, S, ds, S', s, hm, q⟩ => by
  unfold nLock at hm
  split at hm
  · rename_i n l hv
    obtain ⟨e1, e2⟩ := dictVar_of hv
    obtain ⟨d1, S2, h2, hm⟩ := R.bind_ok hm
    cases hm
    obtain ⟨v, _, a, _, hg⟩ := s.val i _ e1
    obtain ⟨kvs, hH, r⟩ := s.sto.cel n _ a e2 hg
    have gD : a ∈ g := List.mem_of_getElem? hg
    refine ⟨a, .dK kvs, hH, trivial, fun od => ?_⟩
    have s1 : Sta X.K g w o ρ (S.set n (.dF l)) σ (upd H a (.frz od (.dK kvs))) := s.updGN (Nt.of hH) hg ⟨kvs, ⟨od, upd_same⟩, RelKv.updN (Nt.of hH) (.inr gD) _ _ r⟩
    have rl : RelKv X.K g (w ++ o) (upd H a (.frz od (.dK kvs))) l kvs := RelKv.updN (Nt.of hH) (.inr gD) _ _ r
    refine ⟨g, w, o, ρ, _, _, S2, s1, h2, fun p vs g' H' x hp hn hl rs rd => ?_⟩
    have hf : H' a = some (.frz od (.dK kvs)) := x.frz a od _ upd_same
    have hg' : g'[n]? = some a := x.get hg
    have gD' : a ∈ g' := List.mem_of_getElem? hg'
    have hpa : p ≠ a := fun z => by subst z; rw [upd_same] at hp; cases hp
    refine ⟨hf, q p vs g' _ (Ext.unlock hH gD x) (by rwa [upd_ne hpa] at hp) hn (by rw [upd_ne hpa]; exact hl) ?_ (RelDs.updN (Nt.frz hf) (.inr gD') _ _ rd)⟩
    refine rs.updGN (Nt.frz hf) hg' ⟨kvs, upd_same, RelKv.updN (Nt.frz hf) (.inr gD') _ _ ?_⟩
    exact RelKv.ext x l kvs (RelKv.fresh hp _ _ rl)
  · cases hm
def keyV : Key → D
  | .inl i => .int i
  | .inr x => .str x
theorem keyV_rel {K : PySem.W.Frag} {g f : List Addr} {H : Hp} (k : Key) : RelD K g f H (keyV k) (kV k) := by cases k <;> rfl
/-- the keys of the walked dict of a name -/
def iKeysF (m : ME) : ML := fun ρ S => (m ρ S).bind fun d S1 => match d with
  | .loc n => match S1[n]? with
    | some (.dF l) => .ok (l.map fun kv => keyV kv.1) S1
    | _ => .bad
  | _ => .bad
theorem RelKv.get {K : PySem.W.Frag} {g f : List Addr} {H : Hp} {κ : Type} : ∀ {l : List (κ × D)} {vs : List (κ × V)} {i : Nat} {kd : κ × D}, RelKv K g f H l vs → l[i]? = some kd → ∃ v, vs[i]? = some (kd.1, v) ∧ RelD K g f H kd.2 v
  | [], _, i, _, _, e => by simp at e
  | d :: ds, _, 0, _, ⟨v, r, e, q, _⟩, h => by
    simp at h; subst h; subst e
    exact ⟨v, rfl, q⟩
  | d :: ds, _, i + 1, _, ⟨v, r, e, _, t⟩, h => by
    subst e
    obtain ⟨v', e1, q⟩ := RelKv.get t (by simpa using h)
    exact ⟨v', by simpa using e1, q⟩
theorem im_keys {tg : Expr} (h : EM X e me) : IM X tg e (iKeysF me) := PI.of (pi_keys h) fun σ H Rr ⟨g, w, o, ρ, S, ks, S', s, hm, q⟩ => by
  obtain ⟨d, S1, h1, h2⟩ := R.bind_ok hm
  split at h2
  · rename_i n
    split at h2
    · rename_i l hn
      cases h2
      refine ⟨g, w, o, ρ, S, _, _, s, h1, fun v g1 H1 x1 s1 ⟨a, ev, hg⟩ => ?_⟩
      obtain ⟨kvs, ⟨ob, hf⟩, r⟩ := s1.cel n _ a hn hg
      refine ⟨a, ob, ev, .inl ⟨kvs, hf, q g1 H1 _ x1 s1 ⟨fun i d g2 o2 H2 hi x2 => ?_, fun i g2 o2 H2 hi x2 => ?_⟩⟩⟩
      · rw [List.getElem?_map] at hi
        cases ei : l[i]? with
        | none => rw [ei] at hi; cases hi
        | some kd =>
          rw [ei] at hi
          cases hi
          obtain ⟨v', e1, _⟩ := RelKv.get r ei
          refine ⟨⟨x2.frz _ _ _ hf, lt_of_get e1⟩, fun y H3 ⟨e3, k, v3, e4, e5⟩ => ?_⟩
          subst e3
          rw [e1] at e4
          cases e4
          subst e5
          exact ⟨.refl, keyV_rel _⟩
      · rw [List.length_map] at hi
        exact ⟨x2.frz _ _ _ hf, by rw [← RelKv.length r]; exact hi⟩
    · cases h2
  · cases h2
@[simp] theorem mLock_eq (i : Nat) (m : MS) (ρ : MEnv) (S : Store) : mLock i m ρ S = (match dictVar i ρ S with
  | some (n, l) => (m ρ (S.set n (.dF l))).bind fun fl S2 => .ok fl (S2.set n (.dK l))
  | none => .bad) := rfl
@[simp] theorem nLock_eq (i : Nat) (m : ML) (ρ : MEnv) (S : Store) : nLock i m ρ S = (match dictVar i ρ S with
  | some (n, l) => (m ρ (S.set n (.dF l))).bind fun ds S2 => .ok ds (S2.set n (.dK l))
  | none => .bad) := rfl
@[simp] theorem dictVar_eq (i : Nat) (ρ : MEnv) (S : Store) : dictVar i ρ S = (match ρ[i]? with
  | some (some (.val (.loc n))) => match S[n]? with
    | some (.dK l) => some (n, l)
    | _ => none
  | _ => none) := rfl
@[simp] theorem iKeysF_eq (m : ME) (ρ : MEnv) (S : Store) : iKeysF m ρ S = (m ρ S).bind fun d S1 => (match d with
  | .loc n => match S1[n]? with
    | some (.dF l) => .ok (l.map fun kv => keyV kv.1) S1
    | _ => .bad
  | _ => .bad) := rfl
@[simp] theorem keyV_inl (i : Int) : keyV (.inl i) = .int i := rfl
end
end Mo
set_option maxRecDepth 100000
set_option maxHeartbeats 1000000
/-! Mo: own lists read and changed, parts of tuples and lists, + of tuples, dict(list of pairs). -/
namespace Mo
open PySem PySem.Spec PyProof.Rows L2

section
variable {X : Cx} {e a b o idx : Expr} {me mb mi : ME} {ml : ML} {mt : MT} {pos p p2 : Pos} {i : Nat}
/-- x[idx], x an own list -/
def mIxO (i : Nat) (mi : ME) : ME := fun ρ S => (mi ρ S).bind fun k S1 => match ρ[i]?, k with
  | some (some (.own (.lst l))), .int j => match atI l j with
    | some d => .ok d S1
    | none => .bad
  | _, _ => .bad
theorem em_ixO (ho : PE X o (tVar i)) (hi : EM X idx mi) (hs : PlainIx idx) : EM X (.Subscript o idx pos) (mIxO i mi) := PE.of (pe_ix ix_list ho hi hs) fun σ H Q ⟨g, w, o, ρ, S, d, S', s, hm, q⟩ => by
  obtain ⟨k, S1, h1, hm⟩ := R.bind_ok hm
  split at hm
  · rename_i l j hl
    split at hm
    · rename_i d' hd
      cases hm
      obtain ⟨a, e1, m, vs, hH, r⟩ := s.own i _ hl
      refine ⟨_, e1, g, w, o, ρ, S, _, _, s, h1, fun v g1 H1 x1 s1 r1 => ?_⟩
      obtain ⟨a', e1', m', vs', hH', r'⟩ := (s.ext x1 s1).own i _ hl
      rw [e1] at e1'; cases e1'
      obtain ⟨v', hv, rv⟩ := r'.atI hd
      exact ⟨a, vs', j, v', rfl, r1, .of hH', hv, q v' g1 H1 x1 s1 rv⟩
    · cases hm
  · cases hm
/-- x[idx] = e, x an own list -/
def mSetO (i : Nat) (mi me : ME) : MS := fun ρ S => (me ρ S).bind fun d S1 => (mi ρ S1).bind fun k S2 => match ρ[i]?, k with
  | some (some (.own (.lst l))), .int j => match ixN l.length j with
    | some m => .ok (.nx (ρ.set i (some (.own (.lst (l.set m d)))))) S2
    | none => .bad
  | _, _ => .bad
theorem sm_setO {st : Stmt} (h : PS X st (tAsg (tE X.K me) (gSub (tVar i) (tE X.K mi) rSetL))) : SM X st (mSetO i mi me) := PS.of h fun E σ H ⟨g, w, o, ρ, S, fl, S', s, hm, q⟩ => by
  obtain ⟨d, S1, h1, hm⟩ := R.bind_ok hm
  obtain ⟨k, S2, h2, hm⟩ := R.bind_ok hm
  split at hm
  · rename_i l j hl
    split at hm
    · rename_i m hmx
      cases hm
      refine ⟨g, w, o, ρ, S, d, S1, s, h1, fun v g1 H1 x1 s1 r1 => ?_⟩
      have t1 := s.ext x1 s1
      obtain ⟨a, e1, _⟩ := t1.own i _ hl
      refine ⟨_, e1, g1, w, o, ρ, S1, _, _, t1, h2, fun vk g2 H2 x2 s2 r2 => ?_⟩
      have t2 := t1.ext x2 s2
      obtain ⟨a', e1', m', vs, hH, r⟩ := t2.own i _ hl
      rw [e1] at e1'; cases e1'
      have mD : Mut (H2 a) := by rw [hH]; trivial
      have fD : a ∈ w ++ o := List.mem_append_right _ m'
      have rv := RelD.ext x2 d v r1
      refine ⟨a, vs, j, m, rfl, r2, hH, by rw [← r.length]; exact hmx, ?_⟩
      exact q g2 o _ (((x1.trans x2).s).trans (.updO mD m')) _ (t2.updO hl e1 mD ⟨_, upd_same, RelDs.upd mD (.inl fD) _ _ (RelDs.set r rv)⟩)
    · cases hm
  · cases hm
/-- a list as a test: it holds something -/
def mTruQ (m : ML) : MT := fun ρ S => (m ρ S).bind fun l S1 => .ok (!l.isEmpty) S1
theorem rel_isEmpty {K : PySem.W.Frag} {g f : List Addr} {H : Hp} {l : List D} {vs : List V} (r : RelDs K g f H l vs) : (!l.isEmpty) = !vs.isEmpty := by
  cases l with
  | nil => cases r; rfl
  | cons d l => obtain ⟨v, r, e, _, _⟩ := r; rw [e]; rfl
theorem tm_truQ (h : QM X e ml) (he : ∀ whole, isTrue e X.env whole = (do let v ← whole; standAt e.pos; holding [v] (truthy v)) := by intro _; rfl) : TM X e (mTruQ ml) := PT.of (pt_truth h he) fun σ H Q ⟨g, w, o, ρ, S, k, S', s, hm, q⟩ => by
  obtain ⟨l, S1, h1, hm⟩ := R.bind_ok hm
  cases hm
  exact ⟨g, w, o, ρ, S, l, _, s, h1, fun a vs g1 H1 x1 s1 hq r1 => ⟨_, .inl ⟨vs, hq, rel_isEmpty r1⟩, q g1 H1 x1 s1⟩⟩
/-- x == e, x != e, x an own list -/
def mEqO (neg : Bool) (i : Nat) (mb : ME) : ME := fun ρ S => (mb ρ S).bind fun y S1 => match ρ[i]? with
  | some (some (.own (.lst l))) => match eqD (.lst l) y with
    | some k => .ok (.bl (k != neg)) S1
    | none => .bad
  | _ => .bad
theorem eqO_of {neg : Bool} {r : R2} (hr : ∀ x y H Q d e, Dp X.K H x d → Dp X.K H y e → SeqAt.shaped d = true → SeqAt.shaped e = true → Q (.bl (PyData.eqv d e != neg)) H → r x y H Q) {σ : L2.St} {H : Hp} {Q : VK} (q : tE X.K (mEqO neg i mb) σ H Q) : tOp r (tVar i) (tE X.K mb) σ H Q := by
  obtain ⟨g, w, o, ρ, S, d, S', s, hm, q⟩ := q
  obtain ⟨y, S1, h1, hm⟩ := R.bind_ok hm
  split at hm
  · rename_i l hl
    split at hm
    · rename_i k hk
      cases hm
      obtain ⟨a, e1, _⟩ := s.own i _ hl
      refine ⟨_, e1, g, w, o, ρ, S, y, _, s, h1, fun v g1 H1 x1 s1 r1 => ?_⟩
      obtain ⟨a', e1', m', vs, hH, r⟩ := (s.ext x1 s1).own i _ hl
      rw [e1] at e1'; cases e1'
      obtain ⟨p1, p2, t1, t2, h3, h4, rfl⟩ := eqD_of hk
      unfold toP at t1
      cases hp : toPs l with
      | none => rw [hp] at t1; cases t1
      | some ps =>
        rw [hp] at t1; cases t1
        exact hr _ _ _ _ _ _ (.lst (.of hH) (RelDs.dp l vs ps r hp)) (RelD.dp _ _ _ r1 t2) h3 h4 (q _ g1 H1 x1 s1 rfl)
    · cases hm
  · cases hm
theorem em_eqO (hu : X.A.units + 64 < cLine) (ho : PE X a (tVar i)) (hb : EM X b mb) (hm : behindInMarks .Eq b = false) : EM X (.Compare a [.Eq] [b] pos) (mEqO false i mb) :=
  PE.of (pe_cmpR (op_eqD hu) ho hb hm) fun σ H Q q => eqO_of (fun x y H Q d e h1 h2 h3 h4 q => ⟨d, e, h1, h2, h3, h4, by simpa using q⟩) q
theorem em_neO (hu : X.A.units + 64 < cLine) (ho : PE X a (tVar i)) (hb : EM X b mb) (hm : behindInMarks .NotEq b = false) : EM X (.Compare a [.NotEq] [b] pos) (mEqO true i mb) :=
  PE.of (pe_cmpR (op_neD hu) ho hb hm) fun σ H Q q => eqO_of (fun x y H Q d e h1 h2 h3 h4 q => ⟨d, e, h1, h2, h3, h4, by simpa using q⟩) q
theorem tm_eqO (hu : X.A.units + 64 < cLine) (ho : PE X a (tVar i)) (hb : EM X b mb) (hm : behindInMarks .Eq b = false) : TM X (.Compare a [.Eq] [b] pos) (mB (mEqO false i mb)) :=
  tm_ofB (pt_cmpR (op_eqD hu) ho hb hm) fun σ H Q q => eqO_of (fun x y H Q d e h1 h2 h3 h4 q => ⟨d, e, h1, h2, h3, h4, by simpa using q⟩) q
theorem tm_neO (hu : X.A.units + 64 < cLine) (ho : PE X a (tVar i)) (hb : EM X b mb) (hm : behindInMarks .NotEq b = false) : TM X (.Compare a [.NotEq] [b] pos) (mB (mEqO true i mb)) :=
  tm_ofB (pt_cmpR (op_neD hu) ho hb hm) fun σ H Q q => eqO_of (fun x y H Q d e h1 h2 h3 h4 q => ⟨d, e, h1, h2, h3, h4, by simpa using q⟩) q
/-! ### parts -/
abbrev MO := MEnv → Store → R (Option Int)
def tO (K : PySem.W.Frag) (m : MO) : TO := fun σ H Q => ∃ g w o ρ S k S', Sta K g w o ρ S σ H ∧ m ρ S = .ok k S' ∧ ∀ g' H', Ext g H g' H' → RelS K g' (w ++ o) H' S' → Q k H'
def OM (X : Cx) (e : Option Expr) (m : MO) : Prop := PO X e (tO X.K m)
theorem PO.of {oe : Option Expr} {t t' : TO} (h : PO X oe t) (i : ∀ σ H Q, t' σ H Q → t σ H Q) : PO X oe t' := ⟨fun pins s σ H Q I q => h.run pins s σ H Q I (i σ H Q q)⟩
def oNone : MO := fun _ S => .ok none S
def oSome (m : ME) : MO := fun ρ S => (m ρ S).bind fun d S1 => match d with
  | .int j => .ok (some j) S1
  | _ => .bad
theorem om_none : OM X none oNone := PO.of po_none fun σ H Q ⟨g, w, o, ρ, S, k, S', s, hm, q⟩ => by
  cases hm
  exact q g H .refl s.sto
theorem om_some (h : EM X e me) : OM X (some e) (oSome me) := PO.of (po_some h) fun σ H Q ⟨g, w, o, ρ, S, k, S', s, hm, q⟩ => by
  obtain ⟨d, S1, h1, h2⟩ := R.bind_ok hm
  split at h2
  · cases h2
    exact ⟨g, w, o, ρ, S, _, _, s, h1, fun v g1 H1 x1 s1 r1 => ⟨_, r1, q g1 H1 x1 s1⟩⟩
  · cases h2
def cutD (l : List D) (lo hi : Option Int) : List D := (l.drop (HT.sIx l.length 0 lo)).take (HT.sIx l.length l.length hi - HT.sIx l.length 0 lo)
theorem RelDs.drop {K : PySem.W.Frag} {g f : List Addr} {H : Hp} : ∀ {l : List D} {vs : List V} (n : Nat), RelDs K g f H l vs → RelDs K g f H (l.drop n) (vs.drop n)
  | _, _, 0, h => h
  | [], _, n + 1, h => by cases h; rfl
  | d :: l, _, n + 1, ⟨v, r, e, _, t⟩ => by subst e; exact RelDs.drop n t
theorem RelDs.take {K : PySem.W.Frag} {g f : List Addr} {H : Hp} : ∀ {l : List D} {vs : List V} (n : Nat), RelDs K g f H l vs → RelDs K g f H (l.take n) (vs.take n)
  | _, _, 0, _ => rfl
  | [], _, n + 1, h => by cases h; rfl
  | d :: l, _, n + 1, ⟨v, r, e, q, t⟩ => by subst e; exact ⟨v, _, rfl, q, RelDs.take n t⟩
theorem RelDs.cut {K : PySem.W.Frag} {g f : List Addr} {H : Hp} {l : List D} {vs : List V} (r : RelDs K g f H l vs) (lo hi : Option Int) : RelDs K g f H (cutD l lo hi) (cutV vs lo hi) := by
  unfold cutD cutV
  rw [← r.length]
  exact RelDs.take _ (RelDs.drop _ r)
theorem cutD_whole {l : List D} {lo hi : Option Int} (h : HT.sIx l.length 0 lo = 0 ∧ HT.sIx l.length l.length hi = l.length) : cutD l lo hi = l := by
  unfold cutD
  rw [h.1, h.2, List.drop_zero, Nat.sub_zero, List.take_length]
/-- t[lo:hi], t a tuple -/
def mSlT (me : ME) (ml mh : MO) : ME := fun ρ S => (me ρ S).bind fun d S1 => (ml ρ S1).bind fun lo S2 => (mh ρ S2).bind fun hi S3 => match d with
  | .tup l => .ok (.tup (cutD l lo hi)) S3
  | _ => .bad
variable {lo hi : Option Expr} {mlo mhi : MO}
theorem em_slT (he : EM X e me) (hl : OM X lo mlo) (hh : OM X hi mhi) : EM X (.Subscript e (.Slice lo hi none p2) pos) (mSlT me mlo mhi) := PE.of (pe_slice sl_tupA he hl hh) fun σ H Q ⟨g, w, o, ρ, S, d, S', s, hm, q⟩ => by
  obtain ⟨d1, S1, h1, hm⟩ := R.bind_ok hm
  obtain ⟨k1, S2, h2, hm⟩ := R.bind_ok hm
  obtain ⟨k2, S3, h3, hm⟩ := R.bind_ok hm
  split at hm
  · rename_i l
    cases hm
    refine ⟨g, w, o, ρ, S, _, S1, s, h1, fun v g1 H1 x1 s1 r1 => ?_⟩
    have t1 := s.ext x1 s1
    refine ⟨g1, w, o, ρ, S1, _, S2, t1, h2, fun g2 H2 x2 s2 => ?_⟩
    have t2 := t1.ext x2 s2
    refine ⟨g2, w, o, ρ, S2, _, _, t2, h3, fun g3 H3 x3 s3 => ?_⟩
    obtain ⟨a, vs, ev, hq, r⟩ := RelD.ext (x2.trans x3) _ _ r1
    refine ⟨a, vs, ev, hq, fun hw => ?_, fun _ t ht => ?_⟩
    · rw [← r.length] at hw
      rw [cutD_whole hw] at q
      exact q _ g3 H3 ((x1.trans x2).trans x3) s3 ⟨a, vs, rfl, hq, r⟩
    · exact q _ g3 _ (((x1.trans x2).trans x3).trans (.new ht)) (s3.new ht) ⟨t, _, rfl, .inl (.inl upd_same), RelDs.ext (.new ht) _ _ (r.cut k1 k2)⟩
  · cases hm
/-- x[lo:hi], x a list: a new one -/
def mSlQ (me : ML) (ml mh : MO) : ML := fun ρ S => (me ρ S).bind fun l S1 => (ml ρ S1).bind fun lo S2 => (mh ρ S2).bind fun hi S3 => .ok (cutD l lo hi) S3
/-- the parts' bounds do nothing: x may be any list -/
def Still (m : MO) : Prop := ∀ ρ S k S', m ρ S = .ok k S' → S' = S
/-- .. of a list that rests -/
theorem nm_slL (he : EM X e me) (hl : OM X lo mlo) (hh : OM X hi mhi) : NM X (.Subscript e (.Slice lo hi none p2) pos) (mSlQ (iLst me) mlo mhi) := PE.of (pe_slice sl_list he hl hh) fun σ H Q ⟨g, w, o, ρ, S, d, S', s, hm, q⟩ => by
  obtain ⟨l, S1, h1, hm⟩ := R.bind_ok hm
  obtain ⟨k1, S2, h2, hm⟩ := R.bind_ok hm
  obtain ⟨k2, S3, h3, hm⟩ := R.bind_ok hm
  cases hm
  obtain ⟨d1, S0, h0, h1⟩ := R.bind_ok h1
  obtain ⟨rfl, rfl⟩ := seqD_ok h1
  refine ⟨g, w, o, ρ, S, _, _, s, h0, fun v g1 H1 x1 s1 r1 => ?_⟩
  have t1 := s.ext x1 s1
  refine ⟨g1, w, o, ρ, _, _, S2, t1, h2, fun g2 H2 x2 s2 => ?_⟩
  have t2 := t1.ext x2 s2
  refine ⟨g2, w, o, ρ, S2, _, _, t2, h3, fun g3 H3 x3 s3 => ?_⟩
  obtain ⟨a, vs, ev, hq, r⟩ := RelD.ext (x2.trans x3) _ _ r1
  refine ⟨a, vs, ev, hq.sq, ?_⟩
  have q' : FinN X.K g3 (w ++ o) H3 (cutD l k1 k2) _ Q := fun p vs g4 H4 x4 hp n4 e4 s4 r4 => q p vs g4 H4 (((x1.trans x2).trans x3).trans x4) (back_none x1 (back_none x2 (back_none x3 hp))) n4 e4 s4 r4
  exact q'.put s3 (r.cut k1 k2)
/-! ### + of tuples -/
def gCatT : G2 := fun x y S => match x, y with
  | .tup l, .tup m => if l.length + m.length ≤ sizeLine then .ok (.tup (l ++ m)) S else .bad
  | _, _ => .bad
theorem rel_nil {K : PySem.W.Frag} {g f : List Addr} {H : Hp} {l : List D} {vs : List V} (r : RelDs K g f H l vs) (h : vs = []) : l = [] := by
  have := r.length
  rw [h] at this
  exact List.eq_nil_of_length_eq_zero this
theorem od_catT {K : PySem.W.Frag} : OpD K (rCatA K) gCatT := by
  intro g f H S dx dy d S' x y Q s rx ry hm q
  unfold gCatT at hm
  split at hm
  · split at hm
    · rename_i l m hz
      cases hm
      obtain ⟨a, vs, ea, ha, ra⟩ := rx
      obtain ⟨b, us, eb, hb, rb⟩ := ry
      refine ⟨a, b, vs, us, ea, eb, ha, hb, by rw [← ra.length, ← rb.length]; exact hz, fun h => ?_, fun _ h => ?_, fun _ _ t ht => ?_⟩
      · have := rel_nil ra h
        subst this
        exact q.same s ⟨b, us, rfl, hb, by simpa using rb⟩
      · have := rel_nil rb h
        subst this
        exact q.same s ⟨a, vs, rfl, ha, by simpa using ra⟩
      · exact q _ g _ (.new ht) (s.new ht) ⟨t, _, rfl, .inl (.inl upd_same), RelDs.ext (.new ht) _ _ (RelDs.append ra rb)⟩
    · cases hm
  · cases hm
/-- numbers first, then tuples -/
def gAddA : G2 := gOr gAddI gCatT
theorem od_addA {K : PySem.W.Frag} : OpD K (fun x y H Q => rI0 (fun i j => .int (i + j)) x y H Q ∨ rCatA K x y H Q) gAddA := OpD.or od_add od_catT
theorem op_addA : OpR X (binaryOp .Add) (fun x y H Q => rI0 (fun i j => .int (i + j)) x y H Q ∨ rCatA X.K x y H Q) := op_add.or op_catA
/-! ### dict(a list of pairs) -/
def pairsD : List D → Option (List (Key × D))
  | [] => some []
  | .tup [k, d] :: r => match keyD k, pairsD r with
    | some k, some l => some ((k, d) :: l)
    | _, _ => none
  | _ => none
def mergeD (kvs more : List (Key × D)) : List (Key × D) := more.foldl (fun acc kv => putA acc kv.1 kv.2) kvs
def mDictQ (ml : ML) : ME := fun ρ S => (ml ρ S).bind fun l S1 => match pairsD l with
  | some kvs => .ok (.loc S1.length) (S1 ++ [.dK (mergeD [] kvs)])
  | none => .bad
theorem pairs_rel {K : PySem.W.Frag} {g f : List Addr} {H : Hp} : ∀ {l : List D} {vs : List V} {kvs : List (Key × D)}, RelDs K g f H l vs → pairsD l = some kvs →
    ∃ (ps : List Addr) (us : List (Key × V)), vs = ps.map V.ref ∧ Paired (fun p kv => SqT K H p [kV kv.1, kv.2]) ps us ∧ RelKv K g f H kvs us
  | [], _, _, r, h => by cases h; cases r; exact ⟨[], [], rfl, .nil, rfl⟩
  | d :: l, _, _, ⟨v, r, e, q, t⟩, h => by
    unfold pairsD at h
    split at h
    · rename_i h0; cases h0
    · rename_i k d' l' h0
      cases h0
      split at h
      · rename_i k' kvs' hk hp
        cases h
        obtain ⟨ps, us, e1, pr, rk⟩ := pairs_rel t hp
        obtain ⟨a, xs, ea, ha, vk, r1, e2, rk1, vd, r2, e3, rd, e4⟩ := q
        subst ea; subst e2; subst e3; subst e4
        refine ⟨a :: ps, (k', vd) :: us, by rw [e, e1]; rfl, .cons ?_ pr, ⟨vd, us, rfl, rd, rk⟩⟩
        rw [← keyD_rel rk1 hk]
        exact ha
      · cases h
    · cases h
theorem merge_rel {K : PySem.W.Frag} {g f : List Addr} {H : Hp} : ∀ {more : List (Key × D)} {us : List (Key × V)} {kvs : List (Key × D)} {vs : List (Key × V)}, RelKv K g f H more us → RelKv K g f H kvs vs → RelKv K g f H (mergeD kvs more) (mergeK vs us)
  | [], _, _, _, h, r => by cases h; exact r
  | (k, d) :: more, _, kvs, vs, ⟨v, us, e, q, t⟩, r => by
    subst e
    show RelKv K g f H (mergeD (putA kvs k d) more) (mergeK (putK vs k v) us)
    exact merge_rel t (r.put q)
theorem em_dictQ (hc : X.calm = true) (h : QM X e ml) (hg : Gl X "dict") (hm : X.mg "dict" = none) (hb : bootBuiltins "dict" = some (.type "dict") := by decide +kernel) (hs : starEach [e] X.env = (false, eval e X.env) :: starEach [] X.env := by rfl) (hpl : (backTo pos (starEach [] X.env)).any (·.1) = false := by rfl) :
    EM X (.Call (.Name "dict" p) [e] [] pos) (mDictQ ml) :=
  PE.of (pe_callTy (call_dictP hc) hg hm hb (b1 h hs) (by decide) (by decide) hs hpl) fun σ H Q ⟨g, w, o, ρ, S, d, S', s, hm, q⟩ => by
    obtain ⟨l, S1, h1, hm⟩ := R.bind_ok hm
    split at hm
    · rename_i kvs hk
      cases hm
      refine ⟨g, w, o, ρ, S, l, S1, s, h1, fun a vs g1 H1 x1 s1 hq r1 => ?_⟩
      obtain ⟨ps, us, e1, pr, rk⟩ := pairs_rel r1 hk
      subst e1
      refine ⟨a, ps, us, rfl, hq, pr, fun t ht => ?_⟩
      have x2 : Ext g1 H1 (g1 ++ [t]) (upd H1 t (.dK (mergeK [] us))) := ⟨⟨[t], rfl, fun b hb => by rw [List.mem_singleton.mp hb]; exact ht⟩, fun a u h _ => (Ext.new (g := []) ht).keep a u h (by simp), (Ext.new (g := []) ht).live, (Ext.new (g := []) ht).tups, (Ext.new (g := []) ht).frz⟩
      have rm : RelKv X.K g1 (w ++ o) H1 (mergeD [] kvs) (mergeK [] us) := merge_rel rk rfl
      refine q _ (g1 ++ [t]) _ (x1.trans x2) (((s1.fresh ht).new ht).addG (s1.noG ht) (c := .dK (mergeD [] kvs)) ⟨_, upd_same, ?_⟩) ⟨t, rfl, by rw [← s1.len]; exact List.getElem?_concat_length⟩
      exact RelKv.ext (.new ht) _ _ (RelKv.fresh ht _ _ rm)
    · cases hm
end
end Mo
set_option maxRecDepth 100000
set_option maxHeartbeats 2000000
/-! slips, runs with slips, rows knitted: as typed things and as data -/
namespace Mo
open L2 PySem
theorem eqvAll_map {α : Type} [DecidableEq α] {f : α → PyData} (h : ∀ x y, PyData.eqv (f x) (f y) = decide (x = y)) : ∀ xs ys : List α, PyData.eqvAll (xs.map f) (ys.map f) = decide (xs = ys)
  | [], [] => by simp [PyData.eqvAll]
  | [], _ :: _ => by simp [PyData.eqvAll]
  | _ :: _, [] => by simp [PyData.eqvAll]
  | x :: xs, y :: ys => by
    rw [List.map_cons, List.map_cons, PyData.eqvAll, h, eqvAll_map h xs ys]
    by_cases e1 : x = y <;> by_cases e2 : xs = ys <;> simp [e1, e2]
theorem canLayAll_map {α : Type} {f : α → PyData} (h : ∀ x, (f x).canLay0 = true) : ∀ xs : List α, PyData.canLayAll0 (xs.map f) = true
  | [] => rfl
  | x :: xs => by rw [List.map_cons, PyData.canLayAll0, h, canLayAll_map h xs]; rfl
theorem nums_int {i : Int} (h : i.natAbs < 2 ^ 64) : nums (.int i) = true := by rw [nums]; exact decide_eq_true (log_lt h)
abbrev Bal := Int × Int
abbrev Row := Int × Bal × Int
abbrev Slip := Bal × List Row
abbrev Run := Int × Int × Slip
def dB (b : Bal) : D := .tup [.int b.1, .int b.2]
def dR (t : Row) : D := .tup [.int t.1, dB t.2.1, .int t.2.2]
def dS (s : Slip) : D := .tup [dB s.1, .tup (s.2.map dR)]
def dN (r : Run) : D := .tup [.int r.1, .int r.2.1, dS r.2.2]
def qB (b : Bal) : PyData := .tuple [.int b.1, .int b.2]
def qR (t : Row) : PyData := .tuple [.int t.1, qB t.2.1, .int t.2.2]
def qS (s : Slip) : PyData := .tuple [qB s.1, .tuple (s.2.map qR)]
def qN (r : Run) : PyData := .tuple [.int r.1, .int r.2.1, qS r.2.2]
theorem toP_B (b : Bal) : toP (dB b) = some (qB b) := rfl
theorem toP_R (t : Row) : toP (dR t) = some (qR t) := rfl
theorem toP_S (s : Slip) : toP (dS s) = some (qS s) := by unfold dS qS; simp only [toP, toPs, toP_B, toPs_map toP_R, Option.map_some]
theorem toP_N (r : Run) : toP (dN r) = some (qN r) := by unfold dN qN; simp only [toP, toPs, toP_S, Option.map_some]
theorem eqv_B (a b : Bal) : PyData.eqv (qB a) (qB b) = decide (a = b) := by
  obtain ⟨a1, a2⟩ := a; obtain ⟨b1, b2⟩ := b
  simp only [qB, PyData.eqv, PyData.eqvAll, Bool.and_true]
  by_cases e1 : a1 = b1 <;> by_cases e2 : a2 = b2 <;> simp [e1, e2]
theorem eqv_R (a b : Row) : PyData.eqv (qR a) (qR b) = decide (a = b) := by
  obtain ⟨a1, a2, a3⟩ := a; obtain ⟨b1, b2, b3⟩ := b
  simp only [qR, PyData.eqv, PyData.eqvAll, Bool.and_true, eqv_B]
  by_cases e1 : a1 = b1 <;> by_cases e2 : a2 = b2 <;> by_cases e3 : a3 = b3 <;> simp [e1, e2, e3]
theorem eqv_S (a b : Slip) : PyData.eqv (qS a) (qS b) = decide (a = b) := by
  obtain ⟨a1, a2⟩ := a; obtain ⟨b1, b2⟩ := b
  simp only [qS, PyData.eqv, PyData.eqvAll, Bool.and_true, eqv_B, eqvAll_map eqv_R]
  by_cases e1 : a1 = b1 <;> by_cases e2 : a2 = b2 <;> simp [e1, e2]
theorem lay_B (b : Bal) : (qB b).canLay0 = true := by simp [qB, PyData.canLay0, PyData.canLayAll0]
theorem lay_R (t : Row) : (qR t).canLay0 = true := by simp [qR, PyData.canLay0, PyData.canLayAll0, lay_B]
theorem lay_S (s : Slip) : (qS s).canLay0 = true := by simp [qS, PyData.canLay0, PyData.canLayAll0, lay_B, canLayAll_map lay_R]
theorem depth_B (b : Bal) : (qB b).depth ≤ 3 := by simp [qB, PyData.depth, PyData.depthAll]
theorem depth_R (t : Row) : (qR t).depth ≤ 6 := by
  have := depth_B t.2.1
  simp only [qR, PyData.depth, PyData.depthAll]; omega
theorem depth_S (s : Slip) : (qS s).depth ≤ 10 := by
  have := depthAll_map (g := qR) (k := 6) (xs := s.2) fun t _ => depth_R t
  have := depth_B s.1
  simp only [qS, PyData.depth, PyData.depthAll]; omega
theorem depth_N (r : Run) : (qN r).depth ≤ 14 := by
  have := depth_S r.2.2
  simp only [qN, PyData.depth, PyData.depthAll]; omega
theorem shaped_of {p : PyData} (h : p.canLay0 = true) (hd : p.depth ≤ 64) : SeqAt.shaped p = true := by
  unfold SeqAt.shaped; rw [h, decide_eq_true hd]; rfl
theorem eqD_of2 {x y : D} {p q : PyData} {k : Bool} (h1 : toP x = some p) (h2 : toP y = some q) (s1 : SeqAt.shaped p = true) (s2 : SeqAt.shaped q = true) (e : PyData.eqv p q = k) : eqD x y = some k := by
  unfold eqD
  rw [h1, h2]
  dsimp only
  rw [if_pos ⟨s1, s2⟩, e]
theorem eqD_S (a b : Slip) : eqD (dS a) (dS b) = some (decide (a = b)) := eqD_of2 (toP_S a) (toP_S b) (shaped_of (lay_S a) (by have := depth_S a; omega)) (shaped_of (lay_S b) (by have := depth_S b; omega)) (eqv_S a b)
theorem eqD_B (a b : Bal) : eqD (dB a) (dB b) = some (decide (a = b)) := eqD_of2 (toP_B a) (toP_B b) (shaped_of (lay_B a) (by have := depth_B a; omega)) (shaped_of (lay_B b) (by have := depth_B b; omega)) (eqv_B a b)
/-- (slip,) == (slip,) -/
theorem eqD_S1 (a b : Slip) : eqD (.tup [dS a]) (.tup [dS b]) = some (decide (a = b)) := by
  refine eqD_of2 (p := .tuple [qS a]) (q := .tuple [qS b]) ?_ ?_ ?_ ?_ ?_
  · simp only [toP, toPs, toP_S, Option.map_some]
  · simp only [toP, toPs, toP_S, Option.map_some]
  · have := depth_S a
    exact shaped_of (by simp [PyData.canLay0, PyData.canLayAll0, lay_S]) (by simp only [PyData.depth, PyData.depthAll]; omega)
  · have := depth_S b
    exact shaped_of (by simp [PyData.canLay0, PyData.canLayAll0, lay_S]) (by simp only [PyData.depth, PyData.depthAll]; omega)
  · simp only [PyData.eqv, PyData.eqvAll, eqv_S, Bool.and_true]
theorem gEqA_tup {l m : List D} {k : Bool} (h : eqD (.tup l) (.tup m) = some k) (S : Store) : gEqA (.tup l) (.tup m) S = .ok (.bl k) S := by
  show gEq (.tup l) (.tup m) S = _
  unfold gEq; rw [h]
theorem gNeA_tup {l m : List D} {k : Bool} (h : eqD (.tup l) (.tup m) = some k) (S : Store) : gNeA (.tup l) (.tup m) S = .ok (.bl (!k)) S := by
  show gNe (.tup l) (.tup m) S = _
  unfold gNe; rw [h]
theorem gEqA_lst {l m : List D} {k : Bool} (h : eqD (.lst l) (.lst m) = some k) (S : Store) : gEqA (.lst l) (.lst m) S = .ok (.bl k) S := by
  show gEq (.lst l) (.lst m) S = _
  unfold gEq; rw [h]
theorem eqS (a b : Slip) (S : Store) : gEqA (dS a) (dS b) S = .ok (.bl (decide (a = b))) S := gEqA_tup (eqD_S a b) S
theorem eqS1 (a b : Slip) (S : Store) : gEqA (.tup [dS a]) (.tup [dS b]) S = .ok (.bl (decide (a = b))) S := gEqA_tup (eqD_S1 a b) S
theorem eqB (a b : Bal) (S : Store) : gEqA (dB a) (dB b) S = .ok (.bl (decide (a = b))) S := gEqA_tup (eqD_B a b) S
theorem neB (a b : Bal) (S : Store) : gNeA (dB a) (dB b) S = .ok (.bl (!decide (a = b))) S := gNeA_tup (eqD_B a b) S
/-- a list of data is [] -/
theorem eqD_nil {α : Type} {f : α → D} {g : α → PyData} (h : ∀ x, toP (f x) = some (g x)) (hl : ∀ x, (g x).canLay0 = true) (hd : ∀ x, (g x).depth ≤ 60) (l : List α) : eqD (.lst (l.map f)) (.lst []) = some l.isEmpty := by
  refine eqD_of2 (p := .list (l.map g)) (q := .list []) ?_ rfl ?_ ?_ ?_
  · rw [toP, toPs_map h]; rfl
  · have := depthAll_map (g := g) (k := 60) (xs := l) fun x _ => hd x
    exact shaped_of (by simp [PyData.canLay0, canLayAll_map hl]) (by simp only [PyData.depth]; omega)
  · exact shaped_of (by simp [PyData.canLay0, PyData.canLayAll0]) (by simp [PyData.depth, PyData.depthAll])
  · cases l <;> simp [PyData.eqv, PyData.eqvAll]
theorem lay_N (r : Run) : (qN r).canLay0 = true := by simp [qN, PyData.canLay0, PyData.canLayAll0, lay_S]
theorem eqN_nil (l : List Run) : eqD (.lst (l.map dN)) (.lst []) = some l.isEmpty := eqD_nil toP_N lay_N (fun x => by have := depth_N x; omega) l
theorem eqB_nil (l : List Bal) : eqD (.lst (l.map dB)) (.lst []) = some l.isEmpty := eqD_nil toP_B lay_B (fun x => by have := depth_B x; omega) l
/-! ### the greater of two ballots -/
def ltB (a b : Bal) : Bool := decide (a.1 < b.1 ∨ a.1 = b.1 ∧ a.2 < b.2)
theorem two_B (a b : Bal) : two? (dB a) (dB b) = some (qB a, qB b) := by
  unfold two?
  rw [toP_B, toP_B]
  dsimp only
  rw [if_pos]
  refine ⟨?_, ?_⟩
  · simp [alikeB, notNoneP, qB, PySem.W.alike, PySem.W.alikeAll]
  · have := depth_B a
    have := depth_B b
    simp only [PyData.depthAll]; omega
theorem max2B (a b : Bal) (S : Store) : hMax2D [dB a, dB b] S = .ok (dB (if ltB a b = true then b else a)) S := by
  show (match two? (dB a) (dB b) with
    | some (p, q) => R.ok (if PySem.W.dataLt p q = true then dB b else dB a) S
    | none => .bad) = _
  rw [two_B]
  dsimp only
  rw [show PySem.W.dataLt (qB a) (qB b) = ltB a b from PySem.W.dataLt_ii ..]
  cases ltB a b <;> rfl
theorem min2B (a b : Bal) (S : Store) : hMin2D [dB a, dB b] S = .ok (dB (if ltB b a = true then b else a)) S := by
  show (match two? (dB a) (dB b) with
    | some (p, q) => R.ok (if PySem.W.dataLt q p = true then dB b else dB a) S
    | none => .bad) = _
  rw [two_B]
  dsimp only
  rw [show PySem.W.dataLt (qB b) (qB a) = ltB b a from PySem.W.dataLt_ii ..]
  cases ltB b a <;> rfl
/-! ### rows knitted -/
section knit
variable {σ : Type} [DecidableEq σ]
/-- one row behind those that are knitted already -/
def kn (A : List (Int × Int × σ)) (x : Int × Int × σ) : List (Int × Int × σ) := match A.getLast? with
  | some r => if r.2.1 + 1 = x.1 ∧ r.2.2 = x.2.2 then A.dropLast ++ [(r.1, x.2.1, x.2.2)] else A ++ [x]
  | none => A ++ [x]
def knit (xs : List (Int × Int × σ)) : List (Int × Int × σ) := xs.foldl kn []
theorem knit_add (xs : List (Int × Int × σ)) (x : Int × Int × σ) : knit (xs ++ [x]) = kn (knit xs) x := by unfold knit; rw [List.foldl_append]; rfl
theorem kn_nil (x : Int × Int × σ) : kn [] x = [x] := rfl
theorem kn_snoc (A : List (Int × Int × σ)) (r x : Int × Int × σ) : kn (A ++ [r]) x = if r.2.1 + 1 = x.1 ∧ r.2.2 = x.2.2 then A ++ [(r.1, x.2.1, x.2.2)] else A ++ [r] ++ [x] := by
  unfold kn
  rw [List.getLast?_concat, List.dropLast_concat]
theorem snoc_cases (A : List (Int × Int × σ)) : A = [] ∨ ∃ B r, A = B ++ [r] := by
  rcases A.eq_nil_or_concat with h | ⟨B, r, h⟩
  · exact .inl h
  · exact .inr ⟨B, r, by simpa using h⟩
/-- a row that goes on the one ahead -/
theorem kn_kn (A : List (Int × Int × σ)) (f l l' : Int) (s : σ) : kn (kn A (f, l, s)) (l + 1, l', s) = kn A (f, l', s) := by
  rcases snoc_cases A with h | ⟨B, r, h⟩
  · subst h
    rw [kn_nil, kn_nil]
    show kn ([] ++ [(f, l, s)]) _ = _
    rw [kn_snoc, if_pos ⟨rfl, rfl⟩]
    rfl
  · subst h
    rw [kn_snoc, kn_snoc]
    by_cases hc : r.2.1 + 1 = f ∧ r.2.2 = s
    · rw [if_pos hc, if_pos hc, kn_snoc, if_pos ⟨rfl, rfl⟩]
    · rw [if_neg hc, if_neg hc, kn_snoc, if_pos ⟨rfl, rfl⟩]
theorem knit_cases (xs : List (Int × Int × σ)) (x : Int × Int × σ) : (∃ A r, knit xs = A ++ [r] ∧ r.2.1 + 1 = x.1 ∧ r.2.2 = x.2.2 ∧ knit (xs ++ [x]) = A ++ [(r.1, x.2.1, x.2.2)]) ∨ ((∀ A r, knit xs = A ++ [r] → ¬ (r.2.1 + 1 = x.1 ∧ r.2.2 = x.2.2)) ∧ knit (xs ++ [x]) = knit xs ++ [x]) := by
  rw [knit_add]
  rcases snoc_cases (knit xs) with h | ⟨B, r, h⟩
  · refine .inr ⟨fun A r e => ?_, ?_⟩
    · rw [h] at e; simp at e
    · rw [h]; rfl
  · rw [h, kn_snoc]
    by_cases hc : r.2.1 + 1 = x.1 ∧ r.2.2 = x.2.2
    · exact .inl ⟨B, r, rfl, hc.1, hc.2, by rw [if_pos hc]⟩
    · refine .inr ⟨fun A r' e => ?_, by rw [if_neg hc]⟩
      have := List.append_inj' e rfl
      cases this.2
      exact hc
theorem snoc_induct {α : Type} {P : List α → Prop} (h0 : P []) (h1 : ∀ l x, P l → P (l ++ [x])) (l : List α) : P l := by
  suffices ∀ r : List α, P r.reverse by have := this l.reverse; rwa [List.reverse_reverse] at this
  intro r
  induction r with
  | nil => exact h0
  | cons x r ih => rw [List.reverse_cons]; exact h1 _ _ ih
def onS {τ : Type} (h : σ → τ) (r : Int × Int × σ) : Int × Int × τ := (r.1, r.2.1, h r.2.2)
theorem knit_map {τ : Type} [DecidableEq τ] (h : σ → τ) (xs : List (Int × Int × σ)) : knit ((knit xs).map (onS h)) = knit (xs.map (onS h)) := by
  refine snoc_induct (P := fun xs => knit ((knit xs).map (onS h)) = knit (xs.map (onS h))) rfl (fun xs x ih => ?_) xs
  rw [List.map_append, List.map_singleton, knit_add (xs.map (onS h))]
  rcases knit_cases xs x with ⟨A, r, e1, e2, e3, e4⟩ | ⟨_, e4⟩
  · rw [e4, List.map_append, List.map_singleton, knit_add, ← ih, e1, List.map_append, List.map_singleton, knit_add]
    have := kn_kn (knit (A.map (onS h))) r.1 r.2.1 x.2.1 (h x.2.2)
    rw [e2, ← e3] at this
    unfold onS
    rw [← e3]
    exact this.symm
  · rw [e4, List.map_append, List.map_singleton, knit_add, ih]
/-- rows that rise -/
def Rise (xs : List (Int × Int × σ)) : Prop := xs.Pairwise (fun a b => a.2.1 < b.1) ∧ ∀ a ∈ xs, a.1 ≤ a.2.1
theorem Rise.init {xs : List (Int × Int × σ)} {x : Int × Int × σ} (h : Rise (xs ++ [x])) : Rise xs ∧ (∀ a ∈ xs, a.2.1 < x.1) ∧ x.1 ≤ x.2.1 := by
  obtain ⟨h1, h2⟩ := h
  rw [List.pairwise_append] at h1
  exact ⟨⟨h1.1, fun a ha => h2 a (List.mem_append_left _ ha)⟩, fun a ha => h1.2.2 a ha x (List.mem_singleton.mpr rfl), h2 x (by simp)⟩
/-- what is knitted ends where what it was knitted of ends -/
theorem knit_end {xs : List (Int × Int × σ)} {c : Int} (h : Rise xs) (hc : ∀ a ∈ xs, a.2.1 < c) : Rise (knit xs) ∧ ∀ a ∈ knit xs, a.2.1 < c := by
  revert c
  refine snoc_induct (P := fun xs => Rise xs → ∀ {c : Int}, (∀ a ∈ xs, a.2.1 < c) → Rise (knit xs) ∧ ∀ a ∈ knit xs, a.2.1 < c) (fun _ c _ => ⟨⟨.nil, fun a h => nomatch h⟩, fun a h => nomatch h⟩) (fun xs x ih h c hc => ?_) xs h
  obtain ⟨h1, h2, h3⟩ := h.init
  obtain ⟨r1, r2⟩ := ih h1 h2
  have hcx := hc x (by simp)
  rcases knit_cases xs x with ⟨A, r, e1, e2, e3, e4⟩ | ⟨_, e4⟩
  · rw [e4]
    rw [e1] at r1 r2
    obtain ⟨q1, q2, q3⟩ := r1.init
    refine ⟨⟨?_, fun a ha => ?_⟩, fun a ha => ?_⟩
    · rw [List.pairwise_append]
      exact ⟨q1.1, List.pairwise_singleton _ _, fun a ha b hb => by rw [List.mem_singleton.mp hb]; exact q2 a ha⟩
    · rcases List.mem_append.mp ha with m | m
      · exact q1.2 a m
      · rw [List.mem_singleton.mp m]; dsimp only; omega
    · rcases List.mem_append.mp ha with m | m
      · have := q2 a m; have := r2 r (by simp); omega
      · rw [List.mem_singleton.mp m]; exact hcx
  · rw [e4]
    refine ⟨⟨?_, fun a ha => ?_⟩, fun a ha => ?_⟩
    · rw [List.pairwise_append]
      exact ⟨r1.1, List.pairwise_singleton _ _, fun a ha b hb => by rw [List.mem_singleton.mp hb]; exact r2 a ha⟩
    · rcases List.mem_append.mp ha with m | m
      · exact r1.2 a m
      · rw [List.mem_singleton.mp m]; exact h3
    · rcases List.mem_append.mp ha with m | m
      · have := r2 a m; omega
      · rw [List.mem_singleton.mp m]; exact hcx
theorem knit_filter (p : σ → Bool) {xs : List (Int × Int × σ)} (h : Rise xs) : (knit xs).filter (fun r => p r.2.2) = knit (xs.filter fun r => p r.2.2) := by
  refine snoc_induct (P := fun xs => Rise xs → (knit xs).filter (fun r => p r.2.2) = knit (xs.filter fun r => p r.2.2)) (fun _ => rfl) (fun xs x ih h => ?_) xs h
  obtain ⟨h1, h2, h3⟩ := h.init
  have ih := ih h1
  obtain ⟨r1, r2⟩ := knit_end h1 h2
  rw [List.filter_append]
  cases hp : p x.2.2 with
  | false =>
    have e0 : [x].filter (fun r => p r.2.2) = [] := by simp [hp]
    rw [e0, List.append_nil, ← ih]
    rcases knit_cases xs x with ⟨A, r, e1, e2, e3, e4⟩ | ⟨_, e4⟩
    · have hr : p r.2.2 = false := by rw [e3]; exact hp
      rw [e4, e1, List.filter_append, List.filter_append]
      simp [hp, hr]
    · rw [e4, List.filter_append, e0, List.append_nil]
  | true =>
    have e0 : [x].filter (fun r => p r.2.2) = [x] := by simp [hp]
    rw [e0, knit_add (xs.filter fun r => p r.2.2), ← ih]
    rcases knit_cases xs x with ⟨A, r, e1, e2, e3, e4⟩ | ⟨hn, e4⟩
    · have hr : p r.2.2 = true := by rw [e3]; exact hp
      rw [e4, e1, List.filter_append, List.filter_append]
      have f1 : [r].filter (fun r => p r.2.2) = [r] := by simp [hr]
      have f2 : [(r.1, x.2.1, x.2.2)].filter (fun r => p r.2.2) = [(r.1, x.2.1, x.2.2)] := by simp [hp]
      rw [f1, f2, kn_snoc, if_pos ⟨e2, e3⟩]
    · rw [e4, List.filter_append, e0]
      rcases snoc_cases ((knit xs).filter fun r => p r.2.2) with g | ⟨B, r', g⟩
      · rw [g]; rfl
      · rw [g, kn_snoc, if_neg]
        rintro ⟨k1, k2⟩
        have hm : r' ∈ knit xs := by
          have : r' ∈ (knit xs).filter fun r => p r.2.2 := by rw [g]; simp
          exact (List.mem_filter.mp this).1
        rcases snoc_cases (knit xs) with u | ⟨C, z, u⟩
        · rw [u] at hm; cases hm
        · have hz := hn C z u
          rw [u] at r1 r2 hm
          obtain ⟨q1, q2, q3⟩ := r1.init
          rcases List.mem_append.mp hm with m | m
          · have := q2 r' m; have := r2 z (by simp); omega
          · rw [List.mem_singleton.mp m] at k1 k2
            exact hz ⟨k1, k2⟩
end knit
end Mo
set_option maxRecDepth 100000
set_option maxHeartbeats 1000000
/-! Mo: data in order, data in tuples and lists, extend. -/
namespace Mo
open PySem PySem.Spec PyProof.Rows L2
section
variable {X : Cx}
/-- data compared: both are of like kinds -/
def rCmp (K : PySem.W.Frag) (h : PyData → PyData → Bool) : R2 := fun x y H Q => ∃ p q, Dp K H x p ∧ Dp K H y q ∧ PySem.W.alike p q = true ∧ p ≠ .none ∧ p.depth ≤ 60 ∧ Q (.bl (h p q)) H
theorem room60 {A : Around} {p q : PyData} (hu : A.units + 64 < cLine) (h : p.depth ≤ 60) : A.units + min p.depth q.depth < cLine := by
  have : min p.depth q.depth ≤ p.depth := Nat.min_le_left _ _
  omega
theorem op_ltA (hu : X.A.units + 64 < cLine) : OpR X (compareOp .Lt) (rCmp X.K fun p q => PySem.W.dataLt p q) := by
  intro pins s σ H x y v u Q I rx ry ⟨p, q, hp, hq, ha, hn, hd, k⟩
  obtain ⟨as, r1⟩ := Dp.reads I p x v hp rx
  obtain ⟨bs, r2⟩ := Dp.reads I q y u hq ry
  exact PySem.W.lt_data r1 r2 ha hn (room60 hu hd) ⟨.bl _, H, I, rfl, k⟩
theorem op_gtA (hu : X.A.units + 64 < cLine) : OpR X (compareOp .Gt) (rCmp X.K fun p q => PySem.W.dataLt q p) := by
  intro pins s σ H x y v u Q I rx ry ⟨p, q, hp, hq, ha, hn, hd, k⟩
  obtain ⟨as, r1⟩ := Dp.reads I p x v hp rx
  obtain ⟨bs, r2⟩ := Dp.reads I q y u hq ry
  exact PySem.W.gt_data r1 r2 ha hn (room60 hu hd) ⟨.bl _, H, I, rfl, k⟩
theorem op_leA (hu : X.A.units + 64 < cLine) : OpR X (compareOp .LtE) (rCmp X.K fun p q => !PySem.W.dataLt q p) := by
  intro pins s σ H x y v u Q I rx ry ⟨p, q, hp, hq, ha, hn, hd, k⟩
  obtain ⟨as, r1⟩ := Dp.reads I p x v hp rx
  obtain ⟨bs, r2⟩ := Dp.reads I q y u hq ry
  exact PySem.W.le_data r1 r2 ha hn (room60 hu hd) ⟨.bl _, H, I, rfl, k⟩
theorem op_geA (hu : X.A.units + 64 < cLine) : OpR X (compareOp .GtE) (rCmp X.K fun p q => !PySem.W.dataLt p q) := by
  intro pins s σ H x y v u Q I rx ry ⟨p, q, hp, hq, ha, hn, hd, k⟩
  obtain ⟨as, r1⟩ := Dp.reads I p x v hp rx
  obtain ⟨bs, r2⟩ := Dp.reads I q y u hq ry
  exact PySem.W.ge_data r1 r2 ha hn (room60 hu hd) ⟨.bl _, H, I, rfl, k⟩
def gCmp (h : PyData → PyData → Bool) : G2 := fun x y S => match toP x, toP y with
  | some p, some q => if PySem.W.alike p q = true ∧ notNoneP p = true ∧ p.depth ≤ 60 then .ok (.bl (h p q)) S else .bad
  | _, _ => .bad
theorem od_cmp {K : PySem.W.Frag} {h : PyData → PyData → Bool} : OpD K (rCmp K h) (gCmp h) := by
  intro g f H S dx dy d S' x y Q s rx ry hm q
  unfold gCmp at hm
  split at hm
  · rename_i p p' hp hp'
    split at hm
    · rename_i hc
      cases hm
      have hn : p ≠ .none := fun e => by rw [e] at hc; exact absurd hc.2.1 (by decide)
      exact ⟨p, p', RelD.dp _ _ _ rx hp, RelD.dp _ _ _ ry hp', hc.1, hn, hc.2.2, q.same s rfl⟩
    · cases hm
  · cases hm
abbrev gLtA : G2 := gCmp fun p q => PySem.W.dataLt p q
abbrev gGtA : G2 := gCmp fun p q => PySem.W.dataLt q p
abbrev gLeA : G2 := gCmp fun p q => !PySem.W.dataLt q p
abbrev gGeA : G2 := gCmp fun p q => !PySem.W.dataLt p q
/-! ### x in e -/
def seqP : PyData → Option (List PyData)
  | .list ps => some ps
  | .tuple ps => some ps
  | _ => none
def rInA (K : PySem.W.Frag) (neg : Bool) : R2 := fun x y H Q => ∃ p q ps, Dp K H x p ∧ Dp K H y q ∧ seqP q = some ps ∧ SeqAt.shaped p = true ∧ SeqAt.shaped q = true ∧ Q (.bl ((ps.any fun z => PyData.eqv z p) != neg)) H
theorem op_inA (hu : X.A.units + 65 < cLine) : OpR X (compareOp .In) (rInA X.K false) := by
  intro pins s σ H x y v u Q I rx ry ⟨p, q, ps, hp, hq, hs, sp, sq, k⟩
  obtain ⟨as, r1⟩ := Dp.reads I p x v hp rx
  obtain ⟨bs, r2⟩ := Dp.reads I q y u hq ry
  cases q with
  | list qs =>
    cases hs
    exact SeqAt.in_list_reads r2 r1 (SeqAt.canLay_of_shaped sq) (SeqAt.canLay_of_shaped sp) (room_in_shaped sp hu) ⟨.bl _, H, I, rfl, by simpa using k⟩
  | tuple qs =>
    cases hs
    exact SeqAt.in_tuple_reads r2 r1 (SeqAt.canLay_of_shaped sq) (SeqAt.canLay_of_shaped sp) (room_in_shaped sp hu) ⟨.bl _, H, I, rfl, by simpa using k⟩
  | _ => cases hs
theorem op_notInA (hu : X.A.units + 65 < cLine) : OpR X (compareOp .NotIn) (rInA X.K true) := by
  intro pins s σ H x y v u Q I rx ry ⟨p, q, ps, hp, hq, hs, sp, sq, k⟩
  obtain ⟨as, r1⟩ := Dp.reads I p x v hp rx
  obtain ⟨bs, r2⟩ := Dp.reads I q y u hq ry
  cases q with
  | list qs =>
    cases hs
    exact SeqAt.notIn_list_reads r2 r1 (SeqAt.canLay_of_shaped sq) (SeqAt.canLay_of_shaped sp) (room_in_shaped sp hu) ⟨.bl _, H, I, rfl, by simpa using k⟩
  | tuple qs =>
    cases hs
    exact SeqAt.notIn_tuple_reads r2 r1 (SeqAt.canLay_of_shaped sq) (SeqAt.canLay_of_shaped sp) (room_in_shaped sp hu) ⟨.bl _, H, I, rfl, by simpa using k⟩
  | _ => cases hs
def gInA (neg : Bool) : G2 := fun x y S => match toP x, toP y with
  | some p, some q => match seqP q with
    | some ps => if SeqAt.shaped p = true ∧ SeqAt.shaped q = true then .ok (.bl ((ps.any fun z => PyData.eqv z p) != neg)) S else .bad
    | none => .bad
  | _, _ => .bad
theorem od_inA {K : PySem.W.Frag} {neg : Bool} : OpD K (rInA K neg) (gInA neg) := by
  intro g f H S dx dy d S' x y Q s rx ry hm q
  unfold gInA at hm
  split at hm
  · rename_i p p' hp hp'
    split at hm
    · rename_i ps hs
      split at hm
      · rename_i hc
        cases hm
        exact ⟨p, p', ps, RelD.dp _ _ _ rx hp, RelD.dp _ _ _ ry hp', hs, hc.1, hc.2, q.same s rfl⟩
      · cases hm
    · cases hm
  · cases hm
/-! ### extend, list(a tuple) -/
variable {e a b o idx : Expr} {me mb mi : ME} {ml : ML} {pos p : Pos} {i : Nat}
theorem qm_tup_list (h : EM X e me) (hg : Gl X "list") (hm : X.mg "list" = none) (hb : bootBuiltins "list" = some (.type "list") := by decide +kernel) (hs : starEach [e] X.env = (false, eval e X.env) :: starEach [] X.env := by rfl) (hpl : (backTo pos (starEach [] X.env)).any (·.1) = false := by rfl) :
    NM X (.Call (.Name "list" p) [e] [] pos) (iTup me) :=
  PE.of (pe_callTy call_list_of hg hm hb (b1 h hs) (by decide) (by decide) hs hpl) fun σ H Q ⟨g, w, o, ρ, S, d, S', s, hm, q⟩ => by
    obtain ⟨c, S1, h1, h2⟩ := R.bind_ok hm
    obtain ⟨rfl, rfl⟩ := tupD_ok h2
    refine ⟨g, w, o, ρ, S, _, _, s, h1, fun v g1 H1 x1 s1 ⟨a, vs, ev, hq, r⟩ => ?_⟩
    subst ev
    have q' : FinN X.K g1 (w ++ o) H1 d _ Q := fun p vs g2 H2 x2 hp n2 e2 s2 r2 => q p vs g2 H2 (x1.trans x2) (back_none x1 hp) n2 e2 s2 r2
    exact ⟨a, vs, rfl, .inr hq, q'.put s1 r⟩
/-- x.extend(a new list), x an own list -/
def mExt (i : Nat) (ml : ML) : MS := fun ρ S => (ml ρ S).bind fun ds S1 => match ρ[i]? with
  | some (some (.own (.lst l))) => if l.length + ds.length ≤ sizeLine then .ok (.nx (ρ.set i (some (.own (.lst (l ++ ds)))))) S1 else .bad
  | _ => .bad
theorem sm_extend {o : Expr} {apos cpos spos : Pos} (ho : PE X o (tVar i)) (ha : NM X e ml) (hbase : attributeBase o "extend" X.env (eval o X.env) = eval o X.env := by rfl)
    (hfew : ((backTo cpos (starEach [e] X.env)).all (fun x => !x.1) && (backToKw cpos (keywordEach [] X.env)).all (fun x => x.1.isSome) && decide ([e].length + ([] : List Keyword).length + (if ([] : List Keyword).isEmpty then 0 else 1) < 30)) = true := by rfl)
    (hline : (apos.endLine == cpos.line) = true := by rfl) (hs : starEach [e] X.env = (false, eval e X.env) :: starEach [] X.env := by rfl) (hplain : (backTo cpos (starEach [] X.env)).any (·.1) = false := by rfl)
    (hsw : swapsWith (.Call (.Attribute o "extend" apos) [e] [] cpos) none spos.line X.env = pure false := by rfl) : SM X (.Expr (.Call (.Attribute o "extend" apos) [e] [] cpos) spos) (mExt i ml) :=
  PS.of (ps_expr (pe_bm PySem.F.plainAttrs_list PySem.F.slot_list_extend PySem.F.type_list_extend mt_extend ho (pa_cons ha pa_nil hs) hbase hfew hline hs hplain) hsw) fun E σ H ⟨g, w, o, ρ, S, fl, S', s, hm, q⟩ => by
    obtain ⟨ds, S1, h1, hm⟩ := R.bind_ok hm
    split at hm
    · rename_i l hl
      split at hm
      · rename_i hz
        cases hm
        obtain ⟨a, e1, m, vs, hH, r⟩ := s.own i _ hl
        refine ⟨_, e1, .inl ⟨rfl, vs, .of hH⟩, ?_⟩
        refine ⟨g, w, o, ρ, S, ds, _, s, h1, fun p us g1 H1 x1 hp n1 eH s1 r1 => ?_⟩
        have st1 := s.ext x1 (s1.less sub_app)
        obtain ⟨a', e1', m', vs', hH', r'⟩ := st1.own i _ hl
        rw [e1] at e1'; cases e1'
        have mD : Mut (H1 a) := by rw [hH']; trivial
        have fD : a ∈ w ++ o := List.mem_append_right _ m
        refine ⟨a, p, vs', us, rfl, rfl, hH', eH, by rw [← r'.length, ← r1.length]; exact hz, q g1 o _ (x1.s.trans (.updO mD m)) _ (st1.updO hl e1 mD ?_)⟩
        exact ⟨vs' ++ us, upd_same, RelDs.upd mD (.inl fD) _ _ (RelDs.append r' (RelDs.less sub_app _ _ r1))⟩
      · cases hm
    · cases hm
theorem hu65 {A : Around} {k : Nat} (hr : Room k A) : A.units + 65 < cLine := by have := hr.un; omega
@[simp] theorem mRest_eq (i : Nat) (m : MS) (ρ : MEnv) (S : Store) : mRest i m ρ S = m (restAt i ρ) S := rfl
@[simp] theorem restAt_eq (i : Nat) (ρ : MEnv) : restAt i ρ = (match ρ[i]? with
  | some (some (.own (.lst l))) => ρ.set i (some (.val (.lst l)))
  | _ => ρ) := rfl
@[simp] theorem mExt_eq (i : Nat) (ml : ML) (ρ : MEnv) (S : Store) : mExt i ml ρ S = (ml ρ S).bind fun ds S1 => (match ρ[i]? with
  | some (some (.own (.lst l))) => if l.length + ds.length ≤ PySem.sizeLine then .ok (.nx (ρ.set i (some (.own (.lst (l ++ ds)))))) S1 else .bad
  | _ => .bad) := rfl
@[simp] theorem iTup_eq (m : ME) (ρ : MEnv) (S : Store) : iTup m ρ S = (m ρ S).bind tupD := rfl
@[simp] theorem tupD_tup (l : List D) (S : Store) : tupD (.tup l) S = .ok l S := rfl
end
end Mo
set_option maxRecDepth 100000
set_option maxHeartbeats 1000000
/-! Mo: an own list is returned. -/
namespace Mo
open PySem PySem.Spec PyProof.Rows L2
section
variable {X : Cx} {e : Expr} {pos : Pos} {i : Nat}
def mRetO (i : Nat) : MS := fun ρ S => match ρ[i]? with
  | some (some (.own (.lst l))) => .ok (.rt (.lst l)) S
  | _ => .bad
theorem sm_retO (h : PE X e (tVar i)) : SM X (.Return (some e) pos) (mRetO i) := PS.of (ps_ret h) fun E σ H ⟨g, w, o, ρ, S, fl, S', s, hm, q⟩ => by
  unfold mRetO at hm
  split at hm
  · rename_i l hl
    cases hm
    obtain ⟨a, e1, m, vs, hH, r⟩ := s.own i _ hl
    have sub : ∀ b ∈ w, b ∈ w ++ o := fun b hb => List.mem_append_left _ hb
    exact ⟨_, e1, q g o H .refl _ (s.sto.less sub) ⟨a, vs, rfl, ⟨(s.out a m).1, (s.out a m).2, hH⟩, RelDs.less sub _ _ r⟩⟩
  · cases hm
@[simp] theorem mRetO_eq (i : Nat) (ρ : MEnv) (S : Store) : mRetO i ρ S = (match ρ[i]? with
  | some (some (.own (.lst l))) => .ok (.rt (.lst l)) S
  | _ => .bad) := rfl
end
end Mo
set_option maxRecDepth 100000
set_option maxHeartbeats 2000000
/-! rows of slips in order -/
namespace Mo
open L2 PySem
/-- the order of rows -/
def ltR (a b : Row) : Bool := decide (a.1 < b.1 ∨ a.1 = b.1 ∧ ((a.2.1.1 < b.2.1.1 ∨ a.2.1.1 = b.2.1.1 ∧ a.2.1.2 < b.2.1.2) ∨ a.2.1 = b.2.1 ∧ a.2.2 < b.2.2))
theorem alike_R (a b : Row) : PySem.W.alike (qR a) (qR b) = true := by simp [qR, qB, PySem.W.alike, PySem.W.alikeAll]
theorem lt_qR (a b : Row) : PySem.W.dataLt (qR a) (qR b) = ltR a b := by
  unfold qR
  rw [PySem.W.dataLt_tuple, PySem.W.dataLt_cons (by simp [PySem.W.alike]), PySem.W.dataLt_cons (by simp [qB, PySem.W.alike, PySem.W.alikeAll]), PySem.W.dataLt_cons (by simp [PySem.W.alike])]
  have e0 := PyProof.Rows.lex_irrefl (O := PyProof.Rows.itemOrd) (PySem.W.keyToksAll [])
  rw [e0]
  rw [show PySem.W.dataLt (qB a.2.1) (qB b.2.1) = _ from PySem.W.dataLt_ii .., PySem.W.dataLt_int, PySem.W.dataLt_int]
  simp only [PyData.eqv, eqv_B, beq_iff_eq, decide_eq_true_eq]
  unfold ltR
  by_cases h1 : a.1 = b.1 <;> by_cases h2 : a.2.1 = b.2.1 <;> by_cases h3 : a.2.2 = b.2.2 <;> simp [h1, h2, h3]
def leR (a b : Row) : Bool := !ltR b a
def sortR (l : List Row) : List Row := l.mergeSort leR
theorem leR_iff {a b : Row} : leR a b = true ↔ ¬ (b.1 < a.1 ∨ b.1 = a.1 ∧ ((b.2.1.1 < a.2.1.1 ∨ b.2.1.1 = a.2.1.1 ∧ b.2.1.2 < a.2.1.2) ∨ b.2.1 = a.2.1 ∧ b.2.2 < a.2.2)) := by
  unfold leR ltR
  rw [Bool.not_eq_true', decide_eq_false_iff_not]
theorem pair_eq {a b : Bal} : a = b ↔ a.1 = b.1 ∧ a.2 = b.2 := Prod.ext_iff
theorem leR_total (a b : Row) : (leR a b || leR b a) = true := by
  rw [Bool.or_eq_true, leR_iff, leR_iff, pair_eq, pair_eq]; omega
theorem leR_trans (a b c : Row) (h1 : leR a b = true) (h2 : leR b c = true) : leR a c = true := by
  rw [leR_iff, pair_eq] at *; omega
theorem leR_anti {a b : Row} (h1 : leR a b = true) (h2 : leR b a = true) : a = b := by
  rw [leR_iff, pair_eq] at *
  obtain ⟨a1, ⟨a2, a3⟩, a4⟩ := a
  obtain ⟨b1, ⟨b2, b3⟩, b4⟩ := b
  dsimp only at *
  have e1 : a1 = b1 := by omega
  have e2 : a2 = b2 := by omega
  have e3 : a3 = b3 := by omega
  have e4 : a4 = b4 := by omega
  rw [e1, e2, e3, e4]
theorem sortR_sorted (l : List Row) : (sortR l).Pairwise fun a b => leR a b = true := List.pairwise_mergeSort leR_trans leR_total l
theorem sortR_perm (l : List Row) : (sortR l).Perm l := List.mergeSort_perm _ _
theorem sortR_eq {l m : List Row} (h : l.Perm m) (hm : m.Pairwise fun a b => leR a b = true) : sortR l = m :=
  ((sortR_perm l).trans h).eq_of_pairwise (fun a b _ _ h h' => leR_anti h h') (sortR_sorted l) hm
theorem sortR_congr {l m : List Row} (h : l.Perm m) : sortR l = sortR m := sortR_eq (h.trans (sortR_perm m).symm) (sortR_sorted m)
theorem sortR_mem {l : List Row} {t : Row} : t ∈ sortR l ↔ t ∈ l := List.mem_mergeSort
theorem sortR_len (l : List Row) : (sortR l).length = l.length := (sortR_perm l).length_eq
theorem encD_R (t : Row) : encD (dR t) = qR t := by unfold encD; rw [toP_R]; rfl
theorem sorted_R (l : List Row) (S : Store) : hSorted (l.map dR) S = .ok ((sortR l).map dR) S := by
  unfold hSorted
  rw [toPs_map toP_R]
  dsimp only
  have h1 : (l.map qR).all (fun x => (l.map qR).all (PySem.W.alike x)) = true := by
    rw [List.all_eq_true]
    intro x hx
    rw [List.all_eq_true]
    intro y hy
    obtain ⟨a, _, ea⟩ := List.mem_map.mp hx
    obtain ⟨b, _, eb⟩ := List.mem_map.mp hy
    rw [← ea, ← eb, alike_R]
  have h2 : sortableB (l.map qR) = true := by
    unfold sortableB
    rw [Bool.or_eq_true, List.all_eq_true]
    refine .inl fun x hx => ?_
    obtain ⟨a, _, ea⟩ := List.mem_map.mp hx
    rw [← ea]; rfl
  have h3 : PyData.depthAll (l.map qR) ≤ 60 := depthAll_map fun t _ => by have := depth_R t; omega
  rw [if_pos ⟨h1, h2, h3⟩]
  congr 1
  unfold sortD sortR
  refine (List.map_mergeSort fun a _ b _ => ?_).symm
  show leR a b = !PySem.W.dataLt (encD (dR b)) (encD (dR a))
  rw [encD_R, encD_R, lt_qR]
  rfl
/-! ### a row in rows -/
theorem in_R (t : Row) (l : List Row) (S : Store) : gInA false (dR t) (.tup (l.map dR)) S = .ok (.bl (decide (t ∈ l))) S := by
  unfold gInA
  rw [toP_R, toP, toPs_map toP_R]
  dsimp only [Option.map]
  simp only [seqP]
  have h1 : SeqAt.shaped (qR t) = true := shaped_of (lay_R t) (by have := depth_R t; omega)
  have h2 : SeqAt.shaped (.tuple (l.map qR)) = true := by
    have := depthAll_map (g := qR) (k := 6) (xs := l) fun t _ => depth_R t
    exact shaped_of (by simp [PyData.canLay0, canLayAll_map lay_R]) (by simp only [PyData.depth]; omega)
  rw [if_pos ⟨h1, h2⟩]
  congr 2
  rw [Bool.bne_false, List.any_map]
  induction l with
  | nil => simp
  | cons a l ih =>
    rw [List.any_cons]
    have h2' : SeqAt.shaped (.tuple (l.map qR)) = true := by
      have := depthAll_map (g := qR) (k := 6) (xs := l) fun t _ => depth_R t
      exact shaped_of (by simp [PyData.canLay0, canLayAll_map lay_R]) (by simp only [PyData.depth]; omega)
    rw [ih h2']
    show (PyData.eqv (qR a) (qR t) || decide (t ∈ l)) = _
    rw [eqv_R]
    by_cases e : a = t
    · subst e; simp
    · have : ¬ t = a := fun z => e z.symm
      simp [e, this]
end Mo
set_option maxRecDepth 100000
set_option maxHeartbeats 1000000
/-! Mo: isinstance of data, is of truths, zip, sorted backwards, a = b = e, x += e. -/
namespace Mo
open PySem PySem.Spec PyProof.Rows L2

section
variable {X : Cx} {e e2 a b : Expr} {me ma mb : ME} {ml l : MA} {p pos tpos : Pos}

/-! ### isinstance(x, a built-in type) -/
theorem em_ty {n : Str} {s : String} (hg : Gl X n) (hm : X.mg n = none) (hv : bootBuiltins n = some (.type s)) (hn : n ≠ "__name__" := by decide) (hd : (n == ("__debug__" : Str)) = false := by decide) : EM X (.Name n pos) (mC (.raw (.ty s))) :=
  em_c (pe_bltn (v := .ty s) hg hm hv rfl hn hd) fun _ _ _ _ => rfl
/-- what type data have -/
def tyD : D → Store → Option String
  | .non, _ => some "NoneType"
  | .bl _, _ => some "bool"
  | .int _, _ => some "int"
  | .str _, _ => some "str"
  | .tup _, _ => some "tuple"
  | .lst _, _ => some "list"
  | .loc n, S => match S[n]? with
    | some (.lst _) => some "list"
    | some (.dK _) => some "dict"
    | some (.dT _) => none
    | some (.dF _) => some "dict"
    | none => none
  | _, _ => none
theorem tyD_rel {K : PySem.W.Frag} {g f : List Addr} {H : Hp} {S : Store} (s : RelS K g f H S) {d : D} {v : V} {t : String} (r : RelD K g f H d v) (h : tyD d S = some t) : TyX K H v (.type t) := by
  cases d with
  | non => cases h; cases r; exact .base .non
  | bl x => cases h; cases r; exact .base (.bl x)
  | int x => cases h; cases r; exact .base (.int x)
  | str x => cases h; cases r; exact .base (.str x)
  | tup x =>
    cases h
    obtain ⟨a, vs, rfl, q, _⟩ := r
    rcases q with (q | ⟨ob, q⟩) | q
    · exact .base (.tup q)
    · exact .fTuple q
    · obtain ⟨ob, its, n, q1, q2, _⟩ := q
      exact .kTuple q1 q2
  | lst x =>
    cases h
    obtain ⟨a, vs, rfl, q, _⟩ := r
    exact .base (.lst q.2.2)
  | raw x => cases h
  | scr x => cases h
  | loc n =>
    obtain ⟨a, rfl, q⟩ := r
    unfold tyD at h
    cases e : S[n]? with
    | none => simp only [tyD, e] at h; cases h
    | some c =>
      simp only [tyD, e] at h
      have rc := s.cel n c a e q
      cases c with
      | lst x => cases h; obtain ⟨vs, q1, _⟩ := rc; exact .base (.lst q1)
      | dK x => cases h; obtain ⟨vs, q1, _⟩ := rc; exact .base (.dK q1)
      | dT x => cases h
      | dF x => cases h; obtain ⟨vs, ⟨ob, q1⟩, _⟩ := rc; exact .fDict q1
def hIsi : List D → Store → R D
  | [d, .raw (.ty n)], S => match tyD d S with
    | some t => match kitB t n with
      | some b => .ok (.bl b) S
      | none => .bad
    | none => .bad
  | _, _ => .bad
theorem em_isi (h : AM X [a, b] l) (hg : Gl X "isinstance") (hm : X.mg "isinstance" = none) (hb : bootBuiltins "isinstance" = some (.builtin "isinstance") := by decide +kernel) (hs : starEach [a, b] X.env = (false, eval a X.env) :: starEach [b] X.env := by rfl) (hpl : (backTo pos (starEach [b] X.env)).any (·.1) = false := by rfl) :
    EM X (.Call (.Name "isinstance" p) [a, b] [] pos) (mA hIsi l) :=
  PE.of (pe_callB call_isi hg hm hb h (by decide) (by decide) hs hpl) fun σ H Q q => a_of (fun g f H S l d S' vs Q s r hm q => by
    unfold hIsi at hm
    split at hm
    · rename_i d1 n
      split at hm
      · rename_i t ht
        split at hm
        · rename_i k hk
          cases hm
          obtain ⟨v, t2, rfl, rv, v2, t3, rfl, rv2, rn⟩ := r
          cases rn
          cases rv2
          exact ⟨v, _, _, _, k, rfl, .ty n, tyD_rel s rv ht, kit_ty hk, q.same s rfl⟩
        · cases hm
      · cases hm
    · cases hm) q
/-! ### is, is not, of truths -/
def gIsB : G2 := fun x y S => match x, y with
  | .bl i, .bl j => .ok (.bl (decide (i = j))) S
  | _, _ => .bad
def gNotB : G2 := fun x y S => match x, y with
  | .bl i, .bl j => .ok (.bl (!decide (i = j))) S
  | _, _ => .bad
theorem od_isB {K : PySem.W.Frag} : OpD K rIsB gIsB := by
  intro g f H S dx dy d S' x y Q s rx ry hm q
  unfold gIsB at hm
  split at hm
  · cases hm
    exact ⟨_, _, rx, ry, q.same s rfl⟩
  · cases hm
theorem od_notB {K : PySem.W.Frag} : OpD K rNotB gNotB := by
  intro g f H S dx dy d S' x y Q s rx ry hm q
  unfold gNotB at hm
  split at hm
  · cases hm
    exact ⟨_, _, rx, ry, q.same s rfl⟩
  · cases hm
@[simp] theorem gIsB_eq (i j : Bool) (S : Store) : gIsB (.bl i) (.bl j) S = .ok (.bl (decide (i = j))) S := rfl
@[simp] theorem gNotB_eq (i j : Bool) (S : Store) : gNotB (.bl i) (.bl j) S = .ok (.bl (!decide (i = j))) S := rfl

@[simp] theorem gIsN_non  (S : Store) : gIsN .non .non S = .ok (.bl true) S := rfl
@[simp] theorem gIsN_int (i : Int) (S : Store) : gIsN (.int i) .non S = .ok (.bl false) S := rfl
@[simp] theorem gIsN_bl (i : Bool) (S : Store) : gIsN (.bl i) .non S = .ok (.bl false) S := rfl
@[simp] theorem gIsN_str (i : PySem.Str) (S : Store) : gIsN (.str i) .non S = .ok (.bl false) S := rfl
@[simp] theorem gIsN_tup (i : List D) (S : Store) : gIsN (.tup i) .non S = .ok (.bl false) S := rfl
@[simp] theorem gIsN_lst (i : List D) (S : Store) : gIsN (.lst i) .non S = .ok (.bl false) S := rfl
@[simp] theorem gIsN_loc (i : Nat) (S : Store) : gIsN (.loc i) .non S = .ok (.bl false) S := rfl
@[simp] theorem gNotN_non  (S : Store) : gNotN .non .non S = .ok (.bl false) S := rfl
@[simp] theorem gNotN_int (i : Int) (S : Store) : gNotN (.int i) .non S = .ok (.bl true) S := rfl
@[simp] theorem gNotN_bl (i : Bool) (S : Store) : gNotN (.bl i) .non S = .ok (.bl true) S := rfl
@[simp] theorem gNotN_str (i : PySem.Str) (S : Store) : gNotN (.str i) .non S = .ok (.bl true) S := rfl
@[simp] theorem gNotN_tup (i : List D) (S : Store) : gNotN (.tup i) .non S = .ok (.bl true) S := rfl
@[simp] theorem gNotN_lst (i : List D) (S : Store) : gNotN (.lst i) .non S = .ok (.bl true) S := rfl
@[simp] theorem gNotN_loc (i : Nat) (S : Store) : gNotN (.loc i) .non S = .ok (.bl true) S := rfl

/-! ### zip -/
def zipD : List D → List D → List D
  | x :: xs, y :: ys => .tup [x, y] :: zipD xs ys
  | _, _ => []
theorem zipD_get : ∀ (xs ys : List D) (i : Nat) (d : D), (zipD xs ys)[i]? = some d → ∃ x y, xs[i]? = some x ∧ ys[i]? = some y ∧ d = .tup [x, y]
  | [], ys, i, d, h => by simp [zipD] at h
  | x :: xs, [], i, d, h => by simp [zipD] at h
  | x :: xs, y :: ys, 0, d, h => by simp [zipD] at h; exact ⟨x, y, rfl, rfl, h.symm⟩
  | x :: xs, y :: ys, i + 1, d, h => by
    have h' : (zipD xs ys)[i]? = some d := by simpa [zipD] using h
    exact zipD_get xs ys i d h'
theorem zipD_stop : ∀ (xs ys : List D) (i : Nat), (zipD xs ys).length ≤ i → xs.length ≤ i ∨ ys.length ≤ i
  | [], ys, i, h => .inl (Nat.zero_le _)
  | x :: xs, [], i, h => .inr (Nat.zero_le _)
  | x :: xs, y :: ys, 0, h => by simp [zipD] at h
  | x :: xs, y :: ys, i + 1, h => by
    have h' : (zipD xs ys).length ≤ i := by simpa [zipD] using h
    rcases zipD_stop xs ys i h' with q | q
    · exact .inl (by simpa using q)
    · exact .inr (by simpa using q)
theorem Walks.zipL {K : PySem.W.Frag} {g w o : List Addr} {H : Hp} {a b : Addr} {vs us : List V} {xs ys : List D} (hr : RestL g (w ++ o) H a vs) (r : RelDs K g (w ++ o) H xs vs) (hr2 : RestL g (w ++ o) H b us) (r2 : RelDs K g (w ++ o) H ys us) :
    Walks K g w o H (Itz K a b) (zipD xs ys) where
  item := fun i d g1 o1 H1 h x => by
    obtain ⟨dx, dy, h1, h2, rfl⟩ := zipD_get _ _ _ _ h
    have q := hr.extS x
    have q2 := hr2.extS x
    obtain ⟨v, ev, rv⟩ := (RelDs.extS x xs vs r).get h1
    obtain ⟨u, eu, ru⟩ := (RelDs.extS x ys us r2).get h2
    refine ⟨⟨vs, us, v, u, q.sq, q2.sq, ev, eu⟩, fun y H2 ⟨T, z1, z2, ey, hT, eH, hz1, hz2⟩ => ?_⟩
    have e1 := hz1 vs q.sq
    have e2 := hz2 us q2.sq
    rw [ev] at e1; rw [eu] at e2
    cases e1; cases e2
    subst ey; subst eH
    exact ⟨.new hT, T, _, rfl, .inl (.inl upd_same), _, _, rfl, RelD.ext (.new hT) _ _ rv, _, [], rfl, RelD.ext (.new hT) _ _ ru, rfl⟩
  stop := fun i g1 o1 H1 h x => ⟨vs, us, (hr.extS x).sq, (hr2.extS x).sq, by rw [← r.length, ← r2.length]; exact zipD_stop _ _ _ h⟩
theorem Walks.zipT {K : PySem.W.Frag} {g w o : List Addr} {H : Hp} {a b : Addr} {vs us : List V} {xs ys : List D} (hr : SqT K H a vs) (r : RelDs K g (w ++ o) H xs vs) (hr2 : SqT K H b us) (r2 : RelDs K g (w ++ o) H ys us) :
    Walks K g w o H (RZ.ItzT K a b) (zipD xs ys) where
  item := fun i d g1 o1 H1 h x => by
    obtain ⟨dx, dy, h1, h2, rfl⟩ := zipD_get _ _ _ _ h
    have q := SqT.extS x hr
    have q2 := SqT.extS x hr2
    obtain ⟨v, ev, rv⟩ := (RelDs.extS x xs vs r).get h1
    obtain ⟨u, eu, ru⟩ := (RelDs.extS x ys us r2).get h2
    refine ⟨⟨vs, us, v, u, q, q2, ev, eu⟩, fun y H2 ⟨T, z1, z2, ey, hT, eH, hz1, hz2⟩ => ?_⟩
    have e1 := hz1 vs q
    have e2 := hz2 us q2
    rw [ev] at e1; rw [eu] at e2
    cases e1; cases e2
    subst ey; subst eH
    exact ⟨.new hT, T, _, rfl, .inl (.inl upd_same), _, _, rfl, RelD.ext (.new hT) _ _ rv, _, [], rfl, RelD.ext (.new hT) _ _ ru, rfl⟩
  stop := fun i g1 o1 H1 h x => ⟨vs, us, SqT.extS x hr, SqT.extS x hr2, by rw [← r.length, ← r2.length]; exact zipD_stop _ _ _ h⟩
def iZip (m : MA) : ML := fun ρ S => (m ρ S).bind fun ds S1 => match ds with
  | [.lst xs, .lst ys] => .ok (zipD xs ys) S1
  | [.tup xs, .tup ys] => .ok (zipD xs ys) S1
  | _ => .bad
theorem im_zip {elts : List Expr} {kk : Nat} (h : AM X [e, e2] l) (hg : Gl X "zip") (hm : X.mg "zip" = none) (hs : starEach [e, e2] X.env = (false, eval e X.env) :: starEach [e2] X.env := by rfl) (hpl : (backTo pos (starEach [e2] X.env)).any (·.1) = false := by rfl) :
    IM X (.Tuple elts kk tpos) (.Call (.Name "zip" p) [e, e2] [] pos) (iZip l) :=
  PI.of (RZ.pi_zipA hg hm h hs hpl) fun σ H Rr ⟨g, w, o, ρ, S, l, S', s, hm, q⟩ => by
    obtain ⟨ds, S1, h1, hm⟩ := R.bind_ok hm
    refine ⟨g, w, o, ρ, S, ds, S1, s, h1, fun vs g1 H1 x1 s1 r1 => ?_⟩
    split at hm
    · cases hm
      obtain ⟨v, t, rfl, ⟨a, us, rfl, hr, r⟩, v2, t2, rfl, ⟨b, us2, rfl, hr2, r2⟩, rn⟩ := r1
      cases rn
      exact ⟨a, b, us, us2, rfl, .inl ⟨hr.sq, hr2.sq, q g1 H1 _ x1 s1 (.zipL hr r hr2 r2)⟩⟩
    · cases hm
      obtain ⟨v, t, rfl, ⟨a, us, rfl, hr, r⟩, v2, t2, rfl, ⟨b, us2, rfl, hr2, r2⟩, rn⟩ := r1
      cases rn
      exact ⟨a, b, us, us2, rfl, .inr ⟨hr, hr2, q g1 H1 _ x1 s1 (.zipT hr r hr2 r2)⟩⟩
    · cases hm
@[simp] theorem iZip_eq (m : MA) (ρ : MEnv) (S : Store) : iZip m ρ S = (m ρ S).bind fun ds S1 => (match ds with
  | [.lst xs, .lst ys] => .ok (zipD xs ys) S1
  | [.tup xs, .tup ys] => .ok (zipD xs ys) S1
  | _ => .bad) := rfl
theorem zipD_map {α β : Type} (f : α → D) (h : β → D) : ∀ (xs : List α) (ys : List β), zipD (xs.map f) (ys.map h) = (xs.zip ys).map fun p => .tup [f p.1, h p.2]
  | [], _ => by simp [zipD]
  | _ :: _, [] => by simp [zipD]
  | x :: xs, y :: ys => by simp [zipD, zipD_map f h xs ys]

/-! ### a = b = e -/
def mAsg2 (i j : Nat) (m : ME) : MS := fun ρ S => (m ρ S).bind fun d S1 => .ok (.nx ((ρ.set i (some (.val d))).set j (some (.val d)))) S1
theorem sm_asg2 {st : Stmt} {i j : Nat} (h : PS X st (tAsg2 (tE X.K me) (gName i) (gName j))) : SM X st (mAsg2 i j me) := PS.of h fun E σ H ⟨g, w, o, ρ, S, fl, S', s, hm, q⟩ => by
  obtain ⟨d, S1, e1, hm⟩ := R.bind_ok hm
  cases hm
  exact ⟨g, w, o, ρ, S, d, S', s, e1, fun v g1 H1 x1 s1 r1 => q g1 o H1 x1.s _ (((s.ext x1 s1).set r1).set r1)⟩
@[simp] theorem mAsg2_eq (i j : Nat) (m : ME) (ρ : MEnv) (S : Store) : mAsg2 i j m ρ S = (m ρ S).bind fun d S1 => .ok (.nx ((ρ.set i (some (.val d))).set j (some (.val d)))) S1 := rfl

/-! ### x += e, of numbers -/
def mAug (i : Nat) (h : Int → Int → Int) (m : ME) : MS := fun ρ S => match ρ[i]? with
  | some (some (.val (.int k))) => (m ρ S).bind fun d S1 => (match d with
    | .int j => .ok (.nx (ρ.set i (some (.val (.int (h k j)))))) S1
    | _ => .bad)
  | _ => .bad
theorem sm_aug {st : Stmt} {i : Nat} {h : Int → Int → Int} (hp : PS X st (tAug i (tE X.K me) (ipI h))) : SM X st (mAug i h me) := PS.of hp fun E σ H ⟨g, w, o, ρ, S, fl, S', s, hm, q⟩ => by
  unfold mAug at hm
  split at hm
  · rename_i k hk
    obtain ⟨d, S1, e1, hm⟩ := R.bind_ok hm
    split at hm
    · cases hm
      obtain ⟨v, ev, rv⟩ := s.val i _ hk
      refine ⟨v, ev, g, w, o, ρ, S, _, _, s, e1, fun u g1 H1 x1 s1 r1 => ?_⟩
      exact ⟨_, _, rv, r1, q g1 o H1 x1.s _ ((s.ext x1 s1).set rfl)⟩
    · cases hm
  · cases hm
@[simp] theorem mAug_eq (i : Nat) (h : Int → Int → Int) (m : ME) (ρ : MEnv) (S : Store) : mAug i h m ρ S = (match ρ[i]? with
  | some (some (.val (.int k))) => (m ρ S).bind fun d S1 => (match d with
    | .int j => .ok (.nx (ρ.set i (some (.val (.int (h k j)))))) S1
    | _ => .bad)
  | _ => .bad) := rfl

/-! ### sorted(numbers, reverse=True) -/
def geI (i j : Int) : Bool := decide (j ≤ i)
def sortG (ns : List Int) : List Int := ns.mergeSort geI
theorem sortG_perm (ns : List Int) : (sortG ns).Perm ns := List.mergeSort_perm ns geI
theorem sortG_ord (ns : List Int) : (sortG ns).Pairwise (· ≥ ·) := by
  have := List.pairwise_mergeSort (le := geI) (fun a b c h1 h2 => by simp only [geI, decide_eq_true_eq] at *; omega) (fun a b => by simp only [geI, Bool.or_eq_true, decide_eq_true_eq]; omega) ns
  exact this.imp fun h => by simpa [geI] using h
theorem perm_ge : ∀ {xs ys : List Int}, xs.Perm ys → xs.Pairwise (· ≥ ·) → ys.Pairwise (· ≥ ·) → xs = ys
  | [], ys, h, _, _ => (List.perm_nil.mp h.symm).symm
  | x :: xs, [], h, _, _ => nomatch h.length_eq
  | x :: xs, y :: ys, h, hx, hy => by
    rw [List.pairwise_cons] at hx hy
    have e : x = y := by
      have h1 : x ∈ y :: ys := h.mem_iff.mp List.mem_cons_self
      have h2 : y ∈ x :: xs := h.mem_iff.mpr List.mem_cons_self
      rcases List.mem_cons.mp h1 with q | q
      · exact q
      · rcases List.mem_cons.mp h2 with q2 | q2
        · exact q2.symm
        · have a1 := hy.1 x q
          have a2 := hx.1 y q2
          omega
    subst e
    rw [perm_ge (List.Perm.cons_inv h) hx.2 hy.2]
def hSortedR (l : List D) (S : Store) : R (List D) := match intsD l with
  | some ns => .ok ((sortG ns).map .int) S
  | none => .bad
theorem relDs_ints {K : PySem.W.Frag} {g f : List Addr} {H : Hp} : ∀ (ns : List Int), RelDs K g f H (ns.map .int) (ns.map V.int)
  | [] => rfl
  | n :: ns => ⟨_, _, rfl, rfl, relDs_ints ns⟩
theorem tp_bl {v : Bool} {kind} {vpos : Pos} {nm : Option Str} {kpos : Pos} : PK X [⟨nm, .Constant (.bool v) kind vpos, kpos⟩] (tCons (tC (.bl v)) tNil) := pk_cons pe_bl pk_nil
theorem nm_sortedR {vpos kpos : Pos} {kind} (h : QM X e ml) (hg : Gl X "sorted") (hm : X.mg "sorted" = none) (hb : bootBuiltins "sorted" = some (.builtin "sorted") := by decide +kernel) (hs : starEach [e] X.env = (false, eval e X.env) :: starEach [] X.env := by rfl)
    (he : backTo pos (starEach [e] X.env) = (false, eval e X.env) :: backTo pos (starEach [] X.env) := by rfl) (hpl : (backTo pos (starEach [e] X.env)).any (·.1) = false := by rfl) :
    NM X (.Call (.Name "sorted" p) [e] [⟨some "reverse", .Constant (.bool true) kind vpos, kpos⟩] pos) (mQL hSortedR ml) :=
  PE.of (pe_callBK (cr_sortedRev (b := true)) hg hm hb (b1 h hs) tp_bl (by decide) (by decide) he hpl (by rfl) (by rfl) (by rfl)) fun σ H Q ⟨g, w, o, ρ, S, d, S', s, hm, q⟩ => by
    obtain ⟨l, S1, h1, hm⟩ := R.bind_ok hm
    unfold hSortedR at hm
    split at hm
    · rename_i ns hns
      cases hm
      refine ⟨g, w, o, ρ, S, l, _, s, h1, fun a vs g1 H1 x1 s1 hq r1 => ?_⟩
      have hv := intsD_rel r1 hns
      subst hv
      refine ⟨a, ns, rfl, rfl, hq, fun ns' pp hp hord hnone => ?_⟩
      have e1 : ns' = sortG ns := perm_ge (hp.trans (sortG_perm ns).symm) hord (sortG_ord ns)
      subst e1
      refine q pp _ g1 _ (x1.trans (.new hnone)) (back_none x1 hnone) (s1.noG hnone) upd_same ((s1.fresh hnone).new hnone) (relDs_ints _)
    · cases hm
@[simp] theorem hSortedR_eq (l : List D) (S : Store) : hSortedR l S = (match intsD l with
  | some ns => .ok ((sortG ns).map .int) S
  | none => .bad) := rfl
end
end Mo
set_option maxRecDepth 100000
set_option maxHeartbeats 1000000
/-! Mo: sum, sorted, tuple, list of a value that is a list or a tuple. -/
namespace Mo
open PySem PySem.Spec PyProof.Rows L2

/-! ### collecting a tuple, at the library's level -/
namespace Low
open PySem.Calls
section
variable {prog : Program} {w : World} {A : Around} {E : Value → Shared → Prop} {s : Shared}
theorem collect_tuple {l : Addr} {vs : List Value} {Q : List Value → Shared → Prop} (hl : s.heap.IsTuple l vs.toArray)
    (h : Q vs { s with heap := (s.heap.push (seqObj "list" #[] 0)).update s.heap.objs.size (Obj.mapSeq (· ++ vs.toArray)) }) (hsz : vs.length ≤ sizeLine := by size_fits) :
    wpAny (model prog w) A (collect (.ref l)) Q E s := by
  obtain ⟨o, ho, hc, n, hd⟩ := id hl
  unfold collect
  refine wpAny_bind (wpAny_runValue (codeAny_builtin entry_proto_collect' ?_))
  show wpAny _ _ (do again (.builtin "list.__iadd__" ⟨[← newList [], .ref l], []⟩)) _ _ s
  refine wpAny_bind (wpAny_newList (wpAny_pure ⟨Code.quiet_builtin _ (by decide +kernel), codeAny_builtin entry_list_iadd' ?_⟩))
  show wpAny _ _ (Builtin.List.listExtendWith (.ref s.heap.objs.size) (.ref l) (.ref s.heap.objs.size)) _ _ { s with heap := s.heap.push (seqObj "list" #[] 0) }
  unfold Builtin.List.listExtendWith
  have ho' : (s.heap.push (seqObj "list" #[] 0)).get? l = some o := Heap.get?_push_of_some _ ho
  refine wpAny_bind (wpAny_typeOf (T := "tuple") ⟨o, ho', hc⟩ ?_)
  have ht : (Value.type "tuple" == Value.type "tuple") = true := by rfl
  rw [if_pos (by rw [ht]; simp)]
  refine wpAny_bind (listItems_at ho' hd ?_)
  refine wpAny_bind (listItems_at (xs := #[]) (n := 0) (Heap.get?_push_size _ rfl) rfl ?_)
  rw [if_neg (by simp)]
  refine wpAny_bind (listUpdate_at (xs := #[]) (n := 0) (Heap.get?_push_size _ rfl) rfl ?_ (Nat.zero_le _) (by show (#[] ++ vs.toArray).size ≤ sizeLine + 1; simp only [Array.size_append, List.size_toArray, List.length_nil]; omega))
  refine wpAny_pure ?_
  show wpAny (model prog w) A (do
      let o ← load s.heap.objs.size
      match o.data with
      | .seq xs _ => pure xs.toList
      | _ => unsupported "internal:collect") Q E { s with heap := (s.heap.push (seqObj "list" #[] 0)).update s.heap.objs.size (Obj.mapSeq (· ++ vs.toArray)) }
  refine wpAny_bind (wpAny_load (get?_update_seq (Heap.get?_push_size _ rfl) _) ?_)
  show wpAny _ _ (pure ((#[] : Array Value) ++ vs.toArray).toList) Q E _
  rw [show ((#[] : Array Value) ++ vs.toArray).toList = vs by simp]
  exact wpAny_pure h
end
end Low
end Mo
namespace PySem.W
open PySem PySem.Spec PySem.Calls PyProof.Rows PyProof.V
section
variable {prog : Program} {w : World} {A : Around} {E : Value → Shared → Prop} {s : Shared}
theorem mo_sorted_of_sortT {l : Addr} {vs : List Value} {kw : List (Str × Value)} {Q : Value → Shared → Prop} (hl : s.heap.IsTuple l vs.toArray) (hL : vs.length ≤ sizeLine) (ha1 : argsOk "sorted" ⟨[.ref l], kw⟩) (ha2 : ∀ x, argsOk "list.sort" ⟨[.ref x], kw⟩)
    (body : ∀ E' : Value → Shared → Prop, wpAny (model prog w) A.in1.in1 (Builtin.«list.sort» ⟨[.ref (s.heap.objs.size + 1)], kw⟩) (fun f s' => f = .done (.ret .none) ∧ Q (.ref (s.heap.objs.size + 1)) s') E' { s with heap := copyHeap s.heap vs }) :
    wpAny (model prog w) A (call (.builtin "sorted") [.ref l] kw) Q E s := by
  refine call_function_entry_kw kind_sorted plain_sorted entry_sorted ha1 ?_
  unfold Builtin.«sorted»
  refine wpAny_bind (m := checkCount "sorted" 1 1 _) (wpAny_pure ?_)
  refine wpAny_bind (Mo.Low.collect_tuple hl ?_ hL)
  refine wpAny_bind (wpAny_newList ?_ hL)
  have hsz : ((s.heap.push (seqObj "list" #[] 0)).update s.heap.objs.size (Obj.mapSeq (· ++ vs.toArray))).objs.size = s.heap.objs.size + 1 := by
    rw [Heap.size_update, size_push']
  show wpAny _ _ _ _ _ { s with heap := copyHeap s.heap vs }
  rw [hsz]
  refine wpAny_bind (wpAny_holding (wpAny_call_entry_kw slot_list_sort ⟨_, copyHeap_at s.heap vs, rfl⟩ entry_list_sort ?body (ha2 _)))
  case body =>
    show wpAny (model prog w) A.in1.in1 (Builtin.«list.sort» ⟨[.ref (s.heap.objs.size + 1)], kw⟩) _ _ _
    refine wpAny_mono (body _) (fun f s' hf => ?_) fun _ _ e => e
    obtain ⟨rfl, hq⟩ := hf
    exact ⟨_, rfl, wpAny_pure ⟨_, rfl, hq⟩⟩
variable {α : Type} {R : Value → α → Prop} {enc : α → PyData} {vs : List Value} {bs : List α}
theorem mo_sorted_dataT {l : Addr} {Q : Value → Shared → Prop} (hl : s.heap.IsTuple l vs.toArray) (e : EachIs R vs bs) (er : EachIs (fun v b => ∃ as, Reads s.heap v (enc b) as) vs bs) (hal : AllAlike (bs.map enc)) (hk : Sortable (bs.map enc)) (hL : bs.length ≤ sizeLine)
    (hu : ∀ b, b ∈ bs → A.units + 2 + (enc b).depth < cLine) (h : ∀ out, out.length = bs.length → EachIs R out (bs.mergeSort (dataLe false enc)) → Q (.ref (s.heap.objs.size + 1)) { s with heap := sortedAll s.heap vs (List.toArray out) }) :
    wpAny (model prog w) A (call (.builtin "sorted") [.ref l]) Q E s := by
  have er' : EachIs (fun v b => ∃ as, Reads (sortingHeap (copyHeap s.heap vs) (s.heap.objs.size + 1) vs) v (enc b) as) vs bs := er.mono fun _ _ ⟨as, r⟩ => ⟨as, PyProof.Rows.Reads.keeps (fun _ _ => sorting_copy_old) r⟩
  have hL' : vs.length ≤ sizeLine := by rw [e.length]; exact hL
  have S : SortsAt prog w A.in1.in1 { s with heap := sortingHeap (copyHeap s.heap vs) (s.heap.objs.size + 1) vs } (dataKind (sortingHeap (copyHeap s.heap vs) (s.heap.objs.size + 1) vs) (bs.map enc)) vs :=
    SortsAt.data (s := { s with heap := sortingHeap (copyHeap s.heap vs) (s.heap.objs.size + 1) vs }) (each_map (R := fun v d => ∃ as, Reads (sortingHeap (copyHeap s.heap vs) (s.heap.objs.size + 1) vs) v d as) enc er') hal hk (bound_map hu)
  exact mo_sorted_of_sortT hl hL' (args_sorted1 _) (fun _ => args_list_sort _) fun _ => list_sort_vals (s := { s with heap := copyHeap s.heap vs }) (copyHeap_at s.heap vs) S hL' ⟨rfl, h _ (by rw [sortVals_length false rfl]; exact e.length) (sortVals_data false e er' hal)⟩
theorem mo_sorted_rev_dataT {l : Addr} {b : Bool} {Q : Value → Shared → Prop} (hl : s.heap.IsTuple l vs.toArray) (e : EachIs R vs bs) (er : EachIs (fun v b => ∃ as, Reads s.heap v (enc b) as) vs bs) (hal : AllAlike (bs.map enc)) (hk : Sortable (bs.map enc)) (hL : bs.length ≤ sizeLine)
    (hu : ∀ b, b ∈ bs → A.units + 2 + (enc b).depth < cLine) (h : ∀ out, out.length = bs.length → EachIs R out (bs.mergeSort (dataLe b enc)) → Q (.ref (s.heap.objs.size + 1)) { s with heap := sortedAll s.heap vs (List.toArray out) }) :
    wpAny (model prog w) A (call (.builtin "sorted") [.ref l] [(Str.ofString "reverse", .bool b)]) Q E s := by
  have er' : EachIs (fun v b => ∃ as, Reads (sortingHeap (copyHeap s.heap vs) (s.heap.objs.size + 1) vs) v (enc b) as) vs bs := er.mono fun _ _ ⟨as, r⟩ => ⟨as, PyProof.Rows.Reads.keeps (fun _ _ => sorting_copy_old) r⟩
  have hL' : vs.length ≤ sizeLine := by rw [e.length]; exact hL
  have S : SortsAt prog w A.in1.in1 { s with heap := sortingHeap (copyHeap s.heap vs) (s.heap.objs.size + 1) vs } (dataKind (sortingHeap (copyHeap s.heap vs) (s.heap.objs.size + 1) vs) (bs.map enc)) vs :=
    SortsAt.data (s := { s with heap := sortingHeap (copyHeap s.heap vs) (s.heap.objs.size + 1) vs }) (each_map (R := fun v d => ∃ as, Reads (sortingHeap (copyHeap s.heap vs) (s.heap.objs.size + 1) vs) v d as) enc er') hal hk (bound_map hu)
  exact mo_sorted_of_sortT hl hL' (args_sorted_rev _ _) (fun _ => args_list_sort_rev _ _) fun _ => list_sort_rev_vals (s := { s with heap := copyHeap s.heap vs }) (copyHeap_at s.heap vs) S hL' ⟨rfl, h _ (by rw [sortVals_length b rfl]; exact e.length) (sortVals_data b e er' hal)⟩
end
end PySem.W
namespace Mo
open PySem PySem.Spec PyProof.Rows L2
section
variable {X : Cx} {e a b : Expr} {me : ME} {p pos : Pos}
/-- a list or a tuple -/
def SqA (K : PySem.W.Frag) (H : Hp) (a : Addr) (vs : List V) : Prop := SqL K H a vs ∨ SqT K H a vs
/-- the items of a value that is a list or a tuple -/
def anyD : D → Store → R (List D)
  | .lst l, S => .ok l S
  | .tup l, S => .ok l S
  | .scr l, S => .ok (l.map .int) S
  | .loc n, S => match S[n]? with
    | some (.lst l) => .ok l S
    | _ => .bad
  | _, _ => .bad
theorem anyD_rel {K : PySem.W.Frag} {g f : List Addr} {H : Hp} {S S' : Store} {d : D} {v : V} {l : List D} (s : RelS K g f H S) (r : RelD K g f H d v) (h : anyD d S = .ok l S') :
    S' = S ∧ ∃ a vs, v = .ref a ∧ SqA K H a vs ∧ RelDs K g f H l vs := by
  cases d with
  | lst l' => cases h; obtain ⟨a, vs, rfl, q, rr⟩ := r; exact ⟨rfl, a, vs, rfl, .inl q.sq, rr⟩
  | tup l' => cases h; obtain ⟨a, vs, rfl, q, rr⟩ := r; exact ⟨rfl, a, vs, rfl, .inr q, rr⟩
  | scr l' => cases h; obtain ⟨a, rfl, q⟩ := r; exact ⟨rfl, a, _, rfl, .inl q.sq, relDs_ints _⟩
  | loc n =>
    obtain ⟨a, rfl, q⟩ := r
    unfold anyD at h
    cases e : S[n]? with
    | none => simp only [e] at h; cases h
    | some c =>
      cases c with
      | lst l' =>
        simp only [e] at h
        cases h
        obtain ⟨vs, q1, rr⟩ := s.cel n _ a e q
        exact ⟨rfl, a, vs, rfl, .inl (.of q1), rr⟩
      | dK x => simp only [e] at h; cases h
      | dT x => simp only [e] at h; cases h
      | dF x => simp only [e] at h; cases h
  | non => cases h
  | bl x => cases h
  | int x => cases h
  | str x => cases h
  | raw x => cases h
/-- what a built-in gives of such a value -/
def mV (h : List D → Store → R D) (m : ME) : ME := fun ρ S => (m ρ S).bind fun d S1 => (anyD d S1).bind h
def mVL (h : List D → Store → R (List D)) (m : ME) : ML := fun ρ S => (m ρ S).bind fun d S1 => (anyD d S1).bind h
@[simp] theorem mV_eq (h : List D → Store → R D) (m : ME) (ρ : MEnv) (S : Store) : mV h m ρ S = (m ρ S).bind fun d S1 => (anyD d S1).bind h := rfl
@[simp] theorem mVL_eq (h : List D → Store → R (List D)) (m : ME) (ρ : MEnv) (S : Store) : mVL h m ρ S = (m ρ S).bind fun d S1 => (anyD d S1).bind h := rfl
@[simp] theorem anyD_lst (l : List D) (S : Store) : anyD (.lst l) S = .ok l S := rfl
@[simp] theorem anyD_tup (l : List D) (S : Store) : anyD (.tup l) S = .ok l S := rfl
@[simp] theorem anyD_scr (l : List Int) (S : Store) : anyD (.scr l) S = .ok (l.map .int) S := rfl
@[simp] theorem anyD_loc (n : Nat) (S : Store) : anyD (.loc n) S = (match S[n]? with | some (.lst l) => .ok l S | _ => .bad) := rfl
theorem v_of {r : List V → Hp → VK → Prop} {h : List D → Store → R D} {σ : L2.St} {H : Hp} {Q : VK}
    (hr : ∀ g f H (S : Store) l d S' a vs Q, RelS X.K g f H S → SqA X.K H a vs → RelDs X.K g f H l vs → h l S = .ok d S' → FinE X.K g f H d S' Q → r [.ref a] H Q)
    (q : tE X.K (mV h me) σ H Q) : tCB r (tCons (tE X.K me) tNil) σ H Q := by
  obtain ⟨g, w, o, ρ, S, d, S', s, hm, q⟩ := q
  obtain ⟨d1, S1, h1, hm⟩ := R.bind_ok hm
  obtain ⟨l, S2, h2, hm2⟩ := R.bind_ok hm
  refine ⟨g, w, o, ρ, S, d1, S1, s, h1, fun v g1 H1 x1 s1 r1 => ?_⟩
  obtain ⟨rfl, a, vs, rfl, hq, rr⟩ := anyD_rel s1 r1 h2
  exact hr g1 (w ++ o) H1 _ l d S' a vs Q s1 hq rr hm2 fun v g2 H2 x2 s2 r2 => q v g2 H2 (x1.trans x2) s2 r2
theorem vn_of {r : List V → Hp → VK → Prop} {h : List D → Store → R (List D)} {σ : L2.St} {H : Hp} {Q : VK}
    (hr : ∀ g f H (S : Store) l d S' a vs Q, RelS X.K g f H S → SqA X.K H a vs → RelDs X.K g f H l vs → h l S = .ok d S' → FinN X.K g f H d S' Q → r [.ref a] H Q)
    (q : tN X.K (mVL h me) σ H Q) : tCB r (tCons (tE X.K me) tNil) σ H Q := by
  obtain ⟨g, w, o, ρ, S, d, S', s, hm, q⟩ := q
  obtain ⟨d1, S1, h1, hm⟩ := R.bind_ok hm
  obtain ⟨l, S2, h2, hm2⟩ := R.bind_ok hm
  refine ⟨g, w, o, ρ, S, d1, S1, s, h1, fun v g1 H1 x1 s1 r1 => ?_⟩
  obtain ⟨rfl, a, vs, rfl, hq, rr⟩ := anyD_rel s1 r1 h2
  exact hr g1 (w ++ o) H1 _ l d S' a vs Q s1 hq rr hm2 fun p us g2 H2 x2 hp n2 e2 s2 r2 => q p us g2 H2 (x1.trans x2) (back_none x1 hp) n2 e2 s2 r2
/-- sum -/
theorem cr_sumA (hc : X.calm = true) : CallR X (.builtin "sum") (fun vs H Q => ∃ (a : Addr) (ns : List Int), vs = [V.ref a] ∧ SqA X.K H a (ns.map V.int) ∧ Q (.int ns.sum) H) := by
  intro pins s σ H vs us Q I r h
  obtain ⟨a, ns, rfl, hs | hs, q⟩ := h
  · exact cr_sum hc pins s σ H _ us Q I r ⟨a, ns, rfl, hs, q⟩
  · obtain ⟨its, rv, ht, _⟩ := I.tuple hs
    rw [Vals.ref1 r]
    have hi := rv.ints
    obtain ⟨xs, hx⟩ := hi.allInts.items
    have hn : numsOf its.toArray.toList = ns := by rw [show its.toArray.toList = its from rfl, hi.numsOf]
    have ht' : s.heap.IsTuple a its.toArray := ht
    rw [hx] at ht' hn
    rw [PySem.nums_intItems] at hn
    refine PySem.W.ktm_sumG (I.ok.hd hc) ht' fun h' tk t' hk => ?_
    refine ⟨.int ns.sum, H, I.kept hk, ⟨t', ?_⟩, q⟩
    rw [preSum_eq, List.take_of_length_le (by simp), hn]
theorem em_sumV (hc : X.calm = true) (h : EM X e me) (hg : Gl X "sum") (hm : X.mg "sum" = none) (hb : bootBuiltins "sum" = some (.builtin "sum") := by decide +kernel) (hs : starEach [e] X.env = (false, eval e X.env) :: starEach [] X.env := by rfl) (hpl : (backTo pos (starEach [] X.env)).any (·.1) = false := by rfl) :
    EM X (.Call (.Name "sum" p) [e] [] pos) (mV hSum me) :=
  PE.of (pe_callB (cr_sumA hc) hg hm hb (b1 h hs) (by decide) (by decide) hs hpl) fun σ H Q q => v_of (fun g f H S l d S' a vs Q s hq r hm q => by
    unfold hSum at hm
    split at hm
    · rename_i ns hns
      cases hm
      have hv := intsD_rel r hns
      subst hv
      exact ⟨a, ns, rfl, hq, q.same s rfl⟩
    · cases hm) q
/-- len, tuple, list -/
theorem em_tupleV (h : EM X e me) (hg : Gl X "tuple") (hm : X.mg "tuple" = none) (hb : bootBuiltins "tuple" = some (.type "tuple") := by decide +kernel) (hs : starEach [e] X.env = (false, eval e X.env) :: starEach [] X.env := by rfl) (hpl : (backTo pos (starEach [] X.env)).any (·.1) = false := by rfl) :
    EM X (.Call (.Name "tuple" p) [e] [] pos) (mV hTup me) :=
  PE.of (pe_callTy call_tuple_of hg hm hb (b1 h hs) (by decide) (by decide) hs hpl) fun σ H Q q => v_of (fun g f H S l d S' a vs Q s hq r hm q => by
    cases hm
    rcases hq with hq | hq
    · exact ⟨a, vs, rfl, .inl ⟨hq, fun t ht => q _ g _ (.new ht) (s.new ht) ⟨t, vs, rfl, .inl (.inl upd_same), RelDs.ext (.new ht) _ _ r⟩⟩⟩
    · exact ⟨a, vs, rfl, .inr ⟨hq, q.same s ⟨a, vs, rfl, hq, r⟩⟩⟩) q
theorem nm_listV (h : EM X e me) (hg : Gl X "list") (hm : X.mg "list" = none) (hb : bootBuiltins "list" = some (.type "list") := by decide +kernel) (hs : starEach [e] X.env = (false, eval e X.env) :: starEach [] X.env := by rfl) (hpl : (backTo pos (starEach [] X.env)).any (·.1) = false := by rfl) :
    NM X (.Call (.Name "list" p) [e] [] pos) (mVL hList me) :=
  PE.of (pe_callTy call_list_of hg hm hb (b1 h hs) (by decide) (by decide) hs hpl) fun σ H Q q => vn_of (fun g f H S l d S' a vs Q s hq r hm q => by
    cases hm
    exact ⟨a, vs, rfl, hq, q.put s r⟩) q
/-- sorted, perhaps backwards -/
def sortDR (b : Bool) (l : List D) : List D := l.mergeSort (PySem.W.dataLe b encD)
def hSortedB (b : Bool) (l : List D) (S : Store) : R (List D) := match toPs l with
  | some ps => if ps.all (fun x => ps.all (PySem.W.alike x)) = true ∧ sortableB ps = true ∧ PyData.depthAll ps ≤ 60 then .ok (sortDR b l) S else .bad
  | none => .bad
def rSortA (X : Cx) (b : Bool) : List V → Hp → VK → Prop := fun xs H Q => ∃ a vs l ps g f, xs = [.ref a] ∧ SqA X.K H a vs ∧ RelDs X.K g f H l vs ∧ toPs l = some ps ∧ PySem.W.AllAlike ps ∧ PySem.W.Sortable ps ∧ PyData.depthAll ps ≤ 60 ∧
    ∀ p us, H p = none → RelDs X.K g f H (sortDR b l) us → Q (.ref p) (upd H p (.lst us))
theorem sortA_run (hu : X.A.units + 64 < cLine) {b : Bool} {kw : List (Str × Value)} (hkw : (kw = [] ∧ b = false) ∨ kw = [(Str.ofString "reverse", .bool b)]) {pins : List (Addr × Obj)} {s : Shared} {σ : L2.St} {H : Hp} {xs : List V} {us : List Value} {Q : VK} (I : Inv X pins σ H s) (r : Vals xs us) (h : rSortA X b xs H Q) :
    wpAny (model X.prog X.w) X.A (call (.builtin "sorted") us kw) (EP X pins σ Q) X.xe s := by
  obtain ⟨a, vs, l, ps, g, f, rfl, hs, rl, hp, hal, hso, hd, q⟩ := h
  rw [Vals.ref1 r]
  obtain ⟨its, rv, pl, hz⟩ : ∃ its : List Value, Vals vs its ∧ (s.heap.IsList a its.toArray ∨ s.heap.IsTuple a its.toArray) ∧ vs.length ≤ sizeLine := by
    rcases hs with hs | hs
    · obtain ⟨its, rv, pl, hz⟩ := I.list hs
      exact ⟨its, rv, .inl pl.isList, hz⟩
    · obtain ⟨its, rv, pl, hz⟩ := I.tuple hs
      exact ⟨its, rv, .inr pl, hz⟩
  obtain ⟨as, hr⟩ := Dp.readsAll I _ _ its (RelDs.dp _ _ _ rl hp) rv
  have eenc : ∀ {l : List D} {ps : List PyData}, toPs l = some ps → l.map encD = ps := by
    intro l
    induction l with
    | nil => intro ps h; unfold toPs at h; cases h; rfl
    | cons d l ih =>
      intro ps h
      unfold toPs at h
      split at h
      · rename_i p ps' h1 h2
        cases h
        rw [List.map_cons, ih h2]
        unfold encD
        rw [h1]; rfl
      · cases h
  have e1 := eenc hp
  have hz1 : (l.zip vs).map (·.1) = l := List.map_fst_zip (by rw [rl.length]; exact Nat.le_refl _)
  have hz2 : (l.zip vs).map (·.2) = vs := List.map_snd_zip (by rw [rl.length]; exact Nat.le_refl _)
  have hze : (l.zip vs).map (fun b => encD b.1) = ps := by rw [← e1, ← hz1, List.map_map]; rw [hz1]; rfl
  have E1 : ∀ {zs : List (D × V)} {its : List Value}, Vals (zs.map (·.2)) its → PySem.W.EachIs (fun v (b : D × V) => RelV b.2 v) its zs := by
    intro zs
    induction zs with
    | nil => intro its h; cases h; exact .nil
    | cons z zs ih => intro its h; cases h with | cons r t => exact .cons r (ih t)
  have ea : PySem.W.EachIs (fun v (b : D × V) => RelV b.2 v) its (l.zip vs) := E1 (by rw [hz2]; exact rv)
  have er : PySem.W.EachIs (fun v (b : D × V) => ∃ as, Reads s.heap v (encD b.1) as) its (l.zip vs) := PySem.W.readsAll_each (fun b : D × V => encD b.1) (by rw [hze]; exact hr)
  have hlen : (l.zip vs).length = vs.length := by rw [← hz2, List.length_map, hz2]
  have fin : ∀ out, out.length = (l.zip vs).length → PySem.W.EachIs (fun v (b : D × V) => RelV b.2 v) out ((l.zip vs).mergeSort (PySem.W.dataLe b fun b : D × V => encD b.1)) →
      EP X pins σ Q (.ref (s.heap.objs.size + 1)) { s with heap := sortedAll s.heap its (List.toArray out) } := fun out hl2 ho => by
    obtain ⟨ep, he'⟩ := PyProof.Rows.sortedAll_at s.heap its (List.toArray out)
    have hs2 : ((l.zip vs).mergeSort (PySem.W.dataLe b fun b : D × V => encD b.1)).map (·.1) = sortDR b l := by
      unfold sortDR
      rw [List.map_mergeSort (r := PySem.W.dataLe b fun b : D × V => encD b.1) (s := PySem.W.dataLe b encD) (f := (·.1)) (fun _ _ _ _ => rfl), hz1]
    have rel : ∀ {zs : List (D × V)}, (∀ z ∈ zs, RelD X.K g f H z.1 z.2) → RelDs X.K g f H (zs.map (·.1)) (zs.map (·.2)) := by
      intro zs
      induction zs with
      | nil => intro _; rfl
      | cons z zs ih => intro hz; exact ⟨z.2, _, rfl, hz z List.mem_cons_self, ih fun y hy => hz y (List.mem_cons_of_mem _ hy)⟩
    have relz : ∀ {l : List D} {vs : List V}, RelDs X.K g f H l vs → ∀ z ∈ l.zip vs, RelD X.K g f H z.1 z.2 := by
      intro l
      induction l with
      | nil => intro vs h z hz; simp at hz
      | cons d l ih =>
        intro vs h z hz
        obtain ⟨v, r, e, q, t⟩ := h
        subst e
        rcases List.mem_cons.mp hz with e | hz
        · rw [e]; exact q
        · exact ih t z hz
    have rr : RelDs X.K g f H (sortDR b l) (((l.zip vs).mergeSort (PySem.W.dataLe b fun b : D × V => encD b.1)).map (·.2)) := by
      rw [← hs2]
      exact rel fun z hz => relz rl z ((List.mergeSort_perm _ _).mem_iff.mp hz)
    refine ⟨.ref _, upd H (s.heap.objs.size + 1) (.lst _), I.laid (t' := s.toks) (fun _ _ => PyProof.Rows.sortedAll_old) (Nat.le_succ _) ⟨?_, out, ep, each_vals ho, he'⟩, rfl, q _ _ (I.hok.fresh (Nat.le_succ _)) rr⟩
    rw [List.length_map, (List.mergeSort_perm _ _).length_eq, hlen]
    exact hz
  have hal' : PySem.W.AllAlike ((l.zip vs).map fun b => encD b.1) := by rw [hze]; exact hal
  have hso' : PySem.W.Sortable ((l.zip vs).map fun b => encD b.1) := by rw [hze]; exact hso
  have hlen' : (l.zip vs).length ≤ sizeLine := by rw [hlen]; exact hz
  have hdep : ∀ z ∈ l.zip vs, X.A.units + 2 + (encD z.1).depth < cLine := fun z hz => by
    have : encD z.1 ∈ ps := by rw [← hze]; exact List.mem_map.mpr ⟨z, hz, rfl⟩
    have := depth_le_all this
    omega
  rcases pl with pl | pl
  · rcases hkw with ⟨e1, e2⟩ | e1
    · subst e1 e2
      exact PySem.W.sorted_data (R := fun v (b : D × V) => RelV b.2 v) (enc := fun b : D × V => encD b.1) pl ea er hal' hso' hlen' hdep fin
    · subst e1
      exact PySem.W.sorted_rev_data (R := fun v (b : D × V) => RelV b.2 v) (enc := fun b : D × V => encD b.1) pl ea er hal' hso' hlen' hdep fin
  · rcases hkw with ⟨e1, e2⟩ | e1
    · subst e1 e2
      exact PySem.W.mo_sorted_dataT (R := fun v (b : D × V) => RelV b.2 v) (enc := fun b : D × V => encD b.1) pl ea er hal' hso' hlen' hdep fin
    · subst e1
      exact PySem.W.mo_sorted_rev_dataT (R := fun v (b : D × V) => RelV b.2 v) (enc := fun b : D × V => encD b.1) pl ea er hal' hso' hlen' hdep fin
theorem cr_sortA (hu : X.A.units + 64 < cLine) : CallR X (.builtin "sorted") (rSortA X false) := fun pins s σ H xs us Q I r h => sortA_run hu (.inl ⟨rfl, rfl⟩) I r h
theorem cr_sortAR (hu : X.A.units + 64 < cLine) {b : Bool} : CallRK X (.builtin "sorted") [Str.ofString "reverse"] (fun xs zs H Q => zs = [.bl b] ∧ rSortA X b xs H Q) := fun pins s σ H xs zs us ws Q I r rz h => by
  obtain ⟨rfl, h⟩ := h
  obtain ⟨w1, rfl, e1⟩ := vals1 rz
  obtain rfl : w1 = Value.bool b := e1
  exact sortA_run hu (.inr rfl) I r h
theorem hSortedB_run {g f : List Addr} {H : Hp} {S S' : Store} {bb : Bool} {l d : List D} {x : Addr} {vs : List V} {Q : VK} (s : RelS X.K g f H S) (hq : SqA X.K H x vs) (r : RelDs X.K g f H l vs) (hm : hSortedB bb l S = .ok d S') (q : FinN X.K g f H d S' Q) : rSortA X bb [.ref x] H Q := by
  unfold hSortedB at hm
  split at hm
  · rename_i ps hp
    split at hm
    · rename_i hc
      cases hm
      exact ⟨x, vs, l, ps, g, f, rfl, hq, r, hp, fun x hx y hy => List.all_eq_true.mp (List.all_eq_true.mp hc.1 x hx) y hy, sortableB_of hc.2.1, hc.2.2, fun t us ht rs => q.put s rs t ht⟩
    · cases hm
  · cases hm
theorem nm_sortV (hu : X.A.units + 64 < cLine) (h : EM X e me) (hg : Gl X "sorted") (hm : X.mg "sorted" = none) (hb : bootBuiltins "sorted" = some (.builtin "sorted") := by decide +kernel) (hs : starEach [e] X.env = (false, eval e X.env) :: starEach [] X.env := by rfl) (hpl : (backTo pos (starEach [] X.env)).any (·.1) = false := by rfl) :
    NM X (.Call (.Name "sorted" p) [e] [] pos) (mVL (hSortedB false) me) :=
  PE.of (pe_callB (cr_sortA hu) hg hm hb (b1 h hs) (by decide) (by decide) hs hpl) fun σ H Q q => vn_of (fun g f H S l d S' a vs Q s hq r hm q => hSortedB_run s hq r hm q) q
theorem nm_sortVR {vpos kpos : Pos} {kind} {bb : Bool} (hu : X.A.units + 64 < cLine) (h : EM X e me) (hg : Gl X "sorted") (hm : X.mg "sorted" = none) (hb : bootBuiltins "sorted" = some (.builtin "sorted") := by decide +kernel) (hs : starEach [e] X.env = (false, eval e X.env) :: starEach [] X.env := by rfl)
    (he : backTo pos (starEach [e] X.env) = (false, eval e X.env) :: backTo pos (starEach [] X.env) := by rfl) (hpl : (backTo pos (starEach [e] X.env)).any (·.1) = false := by rfl) :
    NM X (.Call (.Name "sorted" p) [e] [⟨some "reverse", .Constant (.bool bb) kind vpos, kpos⟩] pos) (mVL (hSortedB bb) me) :=
  PE.of (pe_callBK (cr_sortAR hu (b := bb)) hg hm hb (b1 h hs) tp_bl (by decide) (by decide) he hpl (by rfl) (by rfl) (by rfl)) fun σ H Q q => by
    have := vn_of (r := rSortA X bb) (fun g f H S l d S' a vs Q s hq r hm q => hSortedB_run s hq r hm q) q
    obtain ⟨g, w, o, ρ, S, d, S', s, hm, q⟩ := this
    exact ⟨g, w, o, ρ, S, d, S', s, hm, fun v g1 H1 x1 s1 r1 => ⟨rfl, q v g1 H1 x1 s1 r1⟩⟩
end
end Mo
set_option maxRecDepth 100000
set_option maxHeartbeats 1000000
/-! Mo: powers of great numbers. -/
namespace Mo
open PySem PySem.Spec PyProof.Rows L2
section
variable {X : Cx}
def CPowW (i j : Int) : Prop := 0 ≤ j ∧ (Builtin.Int.intBits i : Int) * j ≤ 2 ^ 27
theorem op_powW : OpR X (binaryOp .Pow) (rI CPowW fun i j => .int (i ^ j.toNat)) := opI fun _ _ _ _ _ _ _ hc q => pow_int hc.1 hc.2 q
def cPowW (i j : Int) : Prop := 0 ≤ j ∧ (Builtin.Int.intBits i : Int) * j ≤ 2 ^ 27
instance : ∀ i j, Decidable (cPowW i j) := fun _ _ => by unfold cPowW; infer_instance
abbrev gPowW : G2 := gI cPowW fun i j => .int (i ^ j.toNat)
theorem od_powW {K : PySem.W.Frag} : OpD K (rI CPowW fun i j => .int (i ^ j.toNat)) gPowW := od_I (fun _ _ h => h) fun _ _ _ _ _ _ => rfl
theorem bits_le {i : Int} {k : Nat} (h0 : 0 ≤ i) (h : i < 2 ^ k) : Builtin.Int.intBits i ≤ k := by
  unfold Builtin.Int.intBits
  split
  · omega
  · rename_i hz
    have hne : i.natAbs ≠ 0 := by
      intro e
      have : i = 0 := by omega
      exact hz (by simp [this])
    have h1 : i.natAbs < 2 ^ k := by
      have e : ((i.natAbs : Nat) : Int) = i := Int.natAbs_of_nonneg h0
      have : ((i.natAbs : Nat) : Int) < ((2 ^ k : Nat) : Int) := by rw [e]; simpa using h
      exact Int.ofNat_lt.mp this
    have := (Nat.log2_lt hne).mpr h1
    omega
theorem cPowW_nn {i j : Int} {k : Nat} (h0 : 0 ≤ i) (h : i < 2 ^ k) (hj : 0 ≤ j) (hk : (k : Int) * j ≤ 2 ^ 27) : cPowW i j :=
  ⟨hj, Int.le_trans (Int.mul_le_mul_of_nonneg_right (by have := bits_le h0 h; omega) hj) hk⟩
@[simp] theorem mIxO_eq (i : Nat) (mi : ME) (ρ : MEnv) (S : Store) : mIxO i mi ρ S = (mi ρ S).bind fun k S1 => (match ρ[i]?, k with
  | some (some (.own (.lst l))), .int j => (match atI l j with
    | some d => .ok d S1
    | none => .bad)
  | _, _ => .bad) := rfl
@[simp] theorem mSetO_eq (i : Nat) (mi me : ME) (ρ : MEnv) (S : Store) : mSetO i mi me ρ S = (me ρ S).bind fun d S1 => (mi ρ S1).bind fun k S2 => (match ρ[i]?, k with
  | some (some (.own (.lst l))), .int j => (match ixN l.length j with
    | some m => .ok (.nx (ρ.set i (some (.own (.lst (l.set m d)))))) S2
    | none => .bad)
  | _, _ => .bad) := rfl
@[simp] theorem oNone_eq (ρ : MEnv) (S : Store) : oNone ρ S = .ok none S := rfl
@[simp] theorem oSome_eq (m : ME) (ρ : MEnv) (S : Store) : oSome m ρ S = (m ρ S).bind fun d S1 => (match d with
  | .int j => .ok (some j) S1
  | _ => .bad) := rfl
@[simp] theorem mSlT_eq (me : ME) (ml mh : MO) (ρ : MEnv) (S : Store) : mSlT me ml mh ρ S = (me ρ S).bind fun d S1 => (ml ρ S1).bind fun lo S2 => (mh ρ S2).bind fun hi S3 => (match d with
  | .tup l => .ok (.tup (cutD l lo hi)) S3
  | _ => .bad) := rfl
@[simp] theorem mSlQ_eq (me : ML) (ml mh : MO) (ρ : MEnv) (S : Store) : mSlQ me ml mh ρ S = (me ρ S).bind fun l S1 => (ml ρ S1).bind fun lo S2 => (mh ρ S2).bind fun hi S3 => .ok (cutD l lo hi) S3 := rfl
@[simp] theorem mTruQ_eq (m : ML) (ρ : MEnv) (S : Store) : mTruQ m ρ S = (m ρ S).bind fun l S1 => .ok (!l.isEmpty) S1 := rfl
/-! ### repr of numbers, truths, None, texts, too -/
def gReprV (d : D) (S : Store) : R D := match toP d with
  | some p => if shownOk p then .ok (.str p.shown) S else .bad
  | none => .bad
theorem cr_reprV (hg : X.A.guards = some []) (hu : X.A.units + 64 < cLine) : CallR X (.builtin "repr") (fun xs H Q => ∃ x p, xs = [x] ∧ Dp X.K H x p ∧ p.hasDict = false ∧ shownOk p ∧ Q (.str p.shown) H) := by
  intro pins s σ H xs us Q I r h
  obtain ⟨x, p, rfl, hd, nd, ⟨h1, h2, h3⟩, q⟩ := h
  cases hd with
  | non =>
    obtain ⟨u, rfl, hu'⟩ := vals1 r
    cases (show u = Value.none from hu')
    exact PySem.P.repr_of_none ⟨.str _, H, I.tok _, ⟨_, rfl⟩, by simpa only [PyData.shown] using q⟩
  | bl b =>
    obtain ⟨u, rfl, hu'⟩ := vals1 r
    cases (show u = Value.bool b from hu')
    exact PySem.P.repr_of_bool ⟨.str _, H, I.tok _, ⟨_, rfl⟩, by simpa only [PyData.shown] using q⟩
  | int i =>
    obtain ⟨u, rfl, t, rfl⟩ := vals1 r
    exact PySem.P.repr_of_int (by simpa [PyData.showable] using h1) ⟨.str _, H, I.tok _, ⟨_, rfl⟩, by simpa only [PyData.shown] using q⟩
  | str x =>
    obtain ⟨u, rfl, t, rfl⟩ := vals1 r
    exact PySem.P.repr_of_str ⟨.str _, H, I.tok _, ⟨_, rfl⟩, by simpa only [PyData.shown] using q⟩ (by simpa only [PyData.shown] using h3)
  | lst a b => exact cr_repr hg hu pins s σ H _ us Q I r ⟨_, _, rfl, .lst a b, nd, ⟨h1, h2, h3⟩, q⟩
  | tup a b => exact cr_repr hg hu pins s σ H _ us Q I r ⟨_, _, rfl, .tup a b, nd, ⟨h1, h2, h3⟩, q⟩
theorem em_reprV {e : Expr} {me : ME} {p pos : Pos} (hgd : X.A.guards = some []) (hu : X.A.units + 64 < cLine) (h : EM X e me) (hg : Gl X "repr") (hm : X.mg "repr" = none) (hb : bootBuiltins "repr" = some (.builtin "repr") := by decide +kernel) (hs : starEach [e] X.env = (false, eval e X.env) :: starEach [] X.env := by rfl) (hpl : (backTo pos (starEach [] X.env)).any (·.1) = false := by rfl) :
    EM X (.Call (.Name "repr" p) [e] [] pos) (mB1 gReprV me) :=
  PE.of (pe_callB (cr_reprV hgd hu) hg hm hb (b1 h hs) (by decide) (by decide) hs hpl) fun σ H Q ⟨g, w, o, ρ, S, d, S', s, hm, q⟩ => by
    obtain ⟨d1, S1, h1, h2⟩ := R.bind_ok hm
    refine ⟨g, w, o, ρ, S, d1, S1, s, h1, fun v g1 H1 x1 s1 r1 => ?_⟩
    unfold gReprV at h2
    split at h2
    · rename_i pd hp
      split at h2
      · rename_i hok
        cases h2
        exact ⟨v, pd, rfl, RelD.dp _ _ _ r1 hp, toP_noDict _ _ hp, hok, q _ g1 H1 x1 s1 rfl⟩
      · cases h2
    · cases h2
theorem gReprV_ok {d : D} {p : PyData} {S : Store} (hp : toP d = some p) (h : shownOk p) : gReprV d S = .ok (.str p.shown) S := by
  unfold gReprV
  rw [hp]
  dsimp only
  rw [if_pos h]
/-! ### bounds as truths, so that nobody reckons with great numbers unasked -/
def b62 : Int → Bool
  | .ofNat n => Nat.ble n 4611686018427387903
  | .negSucc n => Nat.ble n 4611686018427387903
theorem b62_iff (j : Int) : b62 j = true ↔ (-(2 ^ 62) ≤ j ∧ j < 2 ^ 62) := by
  cases j with
  | ofNat n =>
    show Nat.ble n 4611686018427387903 = true ↔ _
    rw [Nat.ble_eq, Int.ofNat_eq_natCast]
    constructor
    · intro h; exact ⟨by omega, by omega⟩
    · intro h; omega
  | negSucc n =>
    show Nat.ble n 4611686018427387903 = true ↔ _
    rw [Nat.ble_eq]
    constructor
    · intro h; exact ⟨by omega, by omega⟩
    · intro h; omega
def iRg1 (l : MA) : ML := fun ρ S => (l ρ S).bind fun ds S1 => match ds with
  | [.int j] => if b62 j = true then .ok (rangeD 0 j) S1 else .bad
  | _ => .bad
def iRg2 (l : MA) : ML := fun ρ S => (l ρ S).bind fun ds S1 => match ds with
  | [.int i, .int j] => if b62 i = true ∧ b62 j = true then .ok (rangeD i j) S1 else .bad
  | _ => .bad
theorem iRg1_old (l : MA) : iRg1 l = iRange1 l := by
  funext ρ S
  unfold iRg1 iRange1
  congr 1
  funext ds S1
  split
  · rename_i j
    by_cases h : b62 j = true
    · rw [if_pos h]; exact (if_pos ((b62_iff j).mp h)).symm
    · rw [if_neg h]; exact (if_neg fun c => h ((b62_iff j).mpr c)).symm
  · rename_i h
    first
      | rfl
      | (split
         · rename_i j; exact absurd rfl (h j)
         · rfl)
theorem iRg2_old (l : MA) : iRg2 l = iRange2 l := by
  funext ρ S
  unfold iRg2 iRange2
  congr 1
  funext ds S1
  split
  · rename_i i j
    by_cases h : b62 i = true ∧ b62 j = true
    · rw [if_pos h]; exact (if_pos ⟨((b62_iff i).mp h.1).1, ((b62_iff i).mp h.1).2, (b62_iff j).mp h.2⟩).symm
    · rw [if_neg h]; exact (if_neg fun c => h ⟨(b62_iff i).mpr ⟨c.1, c.2.1⟩, (b62_iff j).mpr c.2.2⟩).symm
  · rename_i h
    first
      | rfl
      | (split
         · rename_i i j; exact absurd rfl (h i j)
         · rfl)
theorem im_rg1 {tg a : Expr} {l : MA} {p pos : Pos} (hg : Gl X "range") (hm : X.mg "range" = none) (ha : AM X [a] l) (hs : starEach [a] X.env = [(false, eval a X.env)] := by rfl) : IM X tg (.Call (.Name "range" p) [a] [] pos) (iRg1 l) := by
  rw [iRg1_old]; exact im_range1 hg hm ha hs
theorem im_rg2 {tg a b : Expr} {l : MA} {p pos : Pos} (hg : Gl X "range") (hm : X.mg "range" = none) (ha : AM X [a, b] l) (hs : starEach [a, b] X.env = [(false, eval a X.env), (false, eval b X.env)] := by rfl)
    (hs2 : starEach [b] X.env = [(false, eval b X.env)] := by rfl) : IM X tg (.Call (.Name "range" p) [a, b] [] pos) (iRg2 l) := by
  rw [iRg2_old]; exact im_range2 hg hm ha hs hs2
@[simp] theorem iRg1_eq (l : MA) (ρ : MEnv) (S : Store) : iRg1 l ρ S = (l ρ S).bind fun ds S1 => (match ds with
  | [.int j] => if b62 j = true then .ok (rangeD 0 j) S1 else .bad
  | _ => .bad) := rfl
@[simp] theorem iRg2_eq (l : MA) (ρ : MEnv) (S : Store) : iRg2 l ρ S = (l ρ S).bind fun ds S1 => (match ds with
  | [.int i, .int j] => if b62 i = true ∧ b62 j = true then .ok (rangeD i j) S1 else .bad
  | _ => .bad) := rfl
def b63 : Int → Bool
  | .ofNat n => Nat.ble n 9223372036854775807
  | .negSucc n => Nat.ble n 9223372036854775807
theorem b63_iff (j : Int) : b63 j = true ↔ (-(2 ^ 63) ≤ j ∧ j < 2 ^ 63) := by
  cases j with
  | ofNat n =>
    show Nat.ble n 9223372036854775807 = true ↔ _
    rw [Nat.ble_eq, Int.ofNat_eq_natCast]
    constructor
    · intro h; exact ⟨by omega, by omega⟩
    · intro h; omega
  | negSucc n =>
    show Nat.ble n 9223372036854775807 = true ↔ _
    rw [Nat.ble_eq]
    constructor
    · intro h; exact ⟨by omega, by omega⟩
    · intro h; omega
/-- list * n -/
def gRp : D → D → Store → R (List D)
  | .lst l, .int k, S => if b63 k = true ∧ l.length * k.toNat ≤ sizeLine then .ok (List.replicate k.toNat l).flatten S else .bad
  | _, _, _ => .bad
theorem gRp_old : gRp = gRep := by
  funext x y S
  unfold gRp gRep
  split
  · rename_i l k
    by_cases h : b63 k = true ∧ l.length * k.toNat ≤ sizeLine
    · rw [if_pos h]; exact (if_pos ⟨((b63_iff k).mp h.1).1, ((b63_iff k).mp h.1).2, h.2⟩).symm
    · rw [if_neg h]; exact (if_neg fun c => h ⟨(b63_iff k).mpr ⟨c.1, c.2.1⟩, c.2.2⟩).symm
  · rename_i h
    first
      | rfl
      | (split
         · rename_i l k; exact absurd rfl (h l k rfl)
         · rfl)
theorem nm_rp {a b : Expr} {ma mb : ME} {pos : Pos} (ha : EM X a ma) (hb : EM X b mb) : NM X (.BinOp a .Mult b pos) (n2 gRp ma mb) := by rw [gRp_old]; exact nm_rep ha hb
end
end Mo
set_option maxRecDepth 100000
set_option maxHeartbeats 1000000
/-! Mo: tuple * n. -/
namespace Mo
open PySem PySem.Spec PyProof.Rows L2
section
variable {K : PySem.W.Frag} {g f : List Addr} {H : Hp}
theorem RelDs.reps {l : List D} {vs : List V} (r : RelDs K g f H l vs) : ∀ n : Nat, RelDs K g f H (List.replicate n l).flatten (List.replicate n vs).flatten
  | 0 => rfl
  | n + 1 => by
    rw [List.replicate_succ, List.replicate_succ, List.flatten_cons, List.flatten_cons]
    exact RelDs.append r (RelDs.reps r n)
/-- a tuple * n -/
def gRpT : G2 := fun x y S => match x, y with
  | .tup (d :: l), .int k => if (decide (2 ≤ k) && decide (k ≤ 1000) && decide ((d :: l).length ≤ 1000)) = true then .ok (.tup (List.replicate k.toNat (d :: l)).flatten) S else .bad
  | _, _ => .bad
theorem od_rpT : OpD K (rRepT K) gRpT := by
  intro g f H S dx dy d S' x y Q s rx ry hm q
  unfold gRpT at hm
  split at hm
  · rename_i d0 l k
    split at hm
    · rename_i hc
      rw [Bool.and_eq_true, Bool.and_eq_true, decide_eq_true_eq, decide_eq_true_eq, decide_eq_true_eq] at hc
      cases hm
      obtain ⟨a, vs, rfl, hq, r⟩ := rx
      cases ry
      have hl := r.length
      refine ⟨a, k, vs, rfl, rfl, hq, fun e => ?_, hc.1.1, hc.1.2, by rw [← hl]; exact hc.2, fun p hp => ?_⟩
      · rw [e] at hl; cases hl
      · exact q _ g _ (.new hp) (s.new hp) ⟨p, _, rfl, .inl (.inl upd_same), RelDs.ext (.new hp) _ _ (RelDs.reps r _)⟩
    · cases hm
  · cases hm
end
/-! ### several names at once, cells among them, any number -/
section
variable {X : Cx}
theorem RelSl.new {K : PySem.W.Frag} {g f : List Addr} {H : Hp} {p : Addr} {u : HO} (h : H p = none) : ∀ (ss : List Slot) (vs : List V) (ns : List Addr), RelSl K g f H ss vs ns → RelSl K g f (upd H p u) ss vs ns
  | [], _, _, r => r
  | .val d :: ss, _, ns, ⟨v, vr, e, r, t⟩ => ⟨v, vr, e, RelD.ext (.new h) d v r, RelSl.new h ss vr ns t⟩
  | .own c :: ss, _, _, ⟨a, vr, nr, e, en, r, t⟩ => ⟨a, vr, nr, e, en, r.new h, RelSl.new h ss vr nr t⟩
def gNames : List Nat → TGs
  | [] => gNil
  | i :: is => gCons (gName i) (gNames is)
theorem gNames_of : ∀ (is : List Nat) (vs : List V) (σ : L2.St) (H : Hp) (Q : L2.St → Hp → Prop), vs.length = is.length → Q (setV σ (is.zip vs)) H → gNames is vs σ H Q
  | [], [], σ, H, Q, _, h => ⟨rfl, h⟩
  | i :: is, v :: vs, σ, H, Q, hl, h => ⟨v, vs, rfl, gNames_of is vs _ H Q (by simpa using hl) h⟩
  | [], _ :: _, _, _, _, hl, _ => by simp at hl
  | _ :: _, [], _, _, _, hl, _ => by simp at hl
theorem sm_parG {st : Stmt} {is : List Nat} {n : Nat} {m : MSl} (h : PS X st (tAsg (tTup (tSl X.K m)) (gTup X.K n (gNames is)))) (hn : is.length = n := by rfl) (hz : (decide (is.length ≤ 1000)) = true := by rfl) : SM X st (mPar is m) := PS.of h fun E σ H ⟨g, w, o, ρ, S, fl, S', s, hm, q⟩ => by
  obtain ⟨ss, S1, h1, hm⟩ := R.bind_ok hm
  split at hm
  · rename_i hl
    cases hm
    refine ⟨g, w, o, ρ, S, ss, _, s, h1, fun vs ns g1 H1 x1 st hns nd rs => ?_⟩
    have go : ∀ {f : List Addr} (ss : List Slot) (vs : List V) (ns : List Addr), RelSl X.K g1 f H1 ss vs ns → vs.length = ss.length := by
      intro f ss
      induction ss with
      | nil => intro vs ns h; rw [h.1]; rfl
      | cons c ss ih =>
        intro vs ns h
        cases c with
        | val d => obtain ⟨v, vr, e, _, t⟩ := h; rw [e, List.length_cons, List.length_cons, ih _ _ t]
        | own c => obtain ⟨a, vr, nr, e, _, _, t⟩ := h; rw [e, List.length_cons, List.length_cons, ih _ _ t]
    have hv : vs.length = is.length := by rw [hl]; exact go ss vs ns rs
    refine ⟨by rw [hv]; exact small_le (by have := of_decide_eq_true hz; omega), fun p hp => ⟨p, vs, rfl, .inl (.inl upd_same), by rw [hv]; exact hn, gNames_of is vs σ _ _ hv ?_⟩⟩
    have st2 := st.ext (.new hp) (st.sto.new hp (u := .tup vs))
    refine q g1 (o ++ ns) _ ?_ _ (Sta.setSl is ss vs ns ρ σ st2 (fun p hp => List.mem_append_right _ hp) nd (fun p hp j c hj e => ?_) (RelSl.new hp ss vs ns rs) hl)
    · refine ExtS.trans (o1 := o ++ ns) ⟨x1.more, fun a u h n _ => x1.keep a u h n, x1.live, x1.tups, x1.frz, fun a h => ?_⟩ (Ext.s (.new hp))
      rcases List.mem_append.mp h with m | m
      · exact .inl m
      · exact .inr (hns a m)
    · obtain ⟨a, e1, m, _⟩ := s.own j c hj
      rw [e] at e1; cases e1
      exact s.liv p (List.mem_append_right _ m) (hns p hp)
  · cases hm
end
end Mo
set_option maxRecDepth 100000
set_option maxHeartbeats 1000000
/-! Mo: dicts whose keys are tuples of numbers, of any depth. -/
namespace Mo
open PySem PySem.Spec PyProof.Rows L2
mutual
/-- data as a key -/
def convN : D → Option NestedKey
  | .non => some .none
  | .int i => some (.num i)
  | .tup l => (convNs l).map .tup
  | .bl _ | .str _ | .lst _ | .loc _ | .raw _ | .scr _ => none
def convNs : List D → Option (List NestedKey)
  | [] => some []
  | d :: ds => match convN d, convNs ds with
    | some k, some ks => some (k :: ks)
    | _, _ => none
end
mutual
theorem convN_key : ∀ {d : D} {k : NestedKey}, convN d = some k → d = dKey k ∧ calm k = true
  | .non, k, h => by rw [convN] at h; cases h; exact ⟨by rw [dKey], by rw [calm]⟩
  | .int i, k, h => by rw [convN] at h; cases h; exact ⟨by rw [dKey], by rw [calm]⟩
  | .tup l, k, h => by
    rw [convN] at h
    obtain ⟨ks, h1, rfl⟩ := Option.map_eq_some_iff.mp h
    obtain ⟨i1, i2⟩ := convNs_keys h1
    exact ⟨by rw [dKey, i1], by rw [calm, i2]⟩
  | .bl _, _, h | .str _, _, h | .lst _, _, h | .loc _, _, h | .raw _, _, h | .scr _, _, h => by rw [convN] at h; cases h
theorem convNs_keys : ∀ {l : List D} {ks : List NestedKey}, convNs l = some ks → l = dKeys ks ∧ calms ks = true
  | [], ks, h => by rw [convNs] at h; cases h; exact ⟨by rw [dKeys], by rw [calms]⟩
  | d :: ds, ks, h => by
    rw [convNs] at h
    cases e1 : convN d with
    | none => simp only [e1] at h; cases h
    | some k1 =>
      cases e2 : convNs ds with
      | none => simp only [e1, e2] at h; cases h
      | some k2 =>
        simp only [e1, e2] at h
        cases h
        obtain ⟨i1, i2⟩ := convN_key e1
        obtain ⟨i3, i4⟩ := convNs_keys e2
        exact ⟨by rw [dKeys, ← i1, ← i3], by rw [calms, i2, i4]; rfl⟩
end
/-- a tuple as a key -/
def keyT (d : D) : Option NestedKey := match convN d with
  | some (.tup ks) => if decide ((NestedKey.tup ks).depth ≤ 8) = true then some (.tup ks) else none
  | _ => none
theorem keyT_of {d : D} {k : NestedKey} (h : keyT d = some k) : d = dKey k ∧ calm k = true ∧ k.depth ≤ 8 ∧ ∃ ks, k = .tup ks := by
  unfold keyT at h
  split at h
  · rename_i ks e
    split at h
    · rename_i z
      cases h
      obtain ⟨i1, i2⟩ := convN_key e
      exact ⟨i1, i2, of_decide_eq_true z, ks, rfl⟩
    · cases h
  · cases h
section
variable {X : Cx} {pins : List (Addr × Obj)} {σ : L2.St} {H : Hp} {s : Shared} {g f : List Addr}
mutual
theorem key_is (I : Inv X pins σ H s) : ∀ (k : NestedKey) (v : V) (u : Value), RelD X.K g f H (dKey k) v → RelV v u → NestedIs s.heap k u
  | .none, v, u, h, r => by
    rw [dKey] at h
    obtain rfl : v = V.non := h
    cases r
    exact .none
  | .num i, v, u, h, r => by
    rw [dKey] at h
    obtain rfl : v = V.int i := h
    obtain ⟨t, rfl⟩ := r
    exact .int i t
  | .text x, v, u, h, r => by
    rw [dKey] at h
    obtain rfl : v = V.str x := h
    obtain ⟨t, rfl⟩ := r
    exact .text x t
  | .tup ks, v, u, h, r => by
    rw [dKey] at h
    obtain ⟨a, vs, rfl, q, rs⟩ := h
    obtain rfl : u = Value.ref a := r
    obtain ⟨its, h1, ⟨o, h2, h3, n, h4⟩, _⟩ := I.tuple q
    exact .tup h2 h3 h4 (keys_are I ks vs its rs h1)
theorem keys_are (I : Inv X pins σ H s) : ∀ (ks : List NestedKey) (vs : List V) (us : List Value), RelDs X.K g f H (dKeys ks) vs → Vals vs us → NestedAll s.heap ks us
  | [], vs, us, h, r => by
    rw [dKeys] at h
    obtain rfl : vs = [] := h
    cases r
    exact .nil
  | k :: ks, vs, us, h, r => by
    rw [dKeys] at h
    obtain ⟨v, r1, rfl, q, t⟩ := h
    cases r with
    | cons r2 r3 => exact .cons (key_is I k v _ q r2) (keys_are I ks r1 _ t r3)
end
theorem kal_all {K : PySem.W.Frag} : ∀ {l : List (NestedKey × D)} {xs : List NX}, RelKv K g f H (kdl l) (kal xs) → ∀ x ∈ xs, RelD K g f H (dKey x.1) (.ref x.2.1)
  | [], [], _, x, hx => nomatch hx
  | [], y :: ys, h, _, _ => by cases h
  | p :: l, [], h, x, hx => nomatch hx
  | p :: l, y :: ys, h, x, hx => by
    obtain ⟨v, r, e, q, t⟩ := h
    have e' : (y.1, V.ref y.2.1) :: kal ys = (p.1, v) :: r := e
    injection e' with e1 e2
    injection e1 with e3 e4
    subst e2
    rcases List.mem_cons.mp hx with z | hx
    · rw [z, e3, e4]; exact q
    · exact kal_all t x hx
theorem kAll_of {l : List (NestedKey × D)} {xs : List NX} {k : NestedKey} {b : Addr} (r : RelKv X.K g f H (kdl l) (kal xs)) (rk : RelD X.K g f H (dKey k) (.ref b)) : KAll X H xs k b :=
  fun _ _ _ I => ⟨fun x hx => key_is I x.1 _ _ (kal_all r x hx) rfl, key_is I k _ _ rk rfl⟩
theorem any_kvl (xs : List NX) (k : NestedKey) : ((kvl xs).any fun kv => decide (kv.1 = k)) = (xs.any fun x => decide (x.1 = k)) := by unfold kvl; rw [List.any_map]; rfl
theorem kvl_put (xs : List NX) (k : NestedKey) (b : Addr) (v : V) : kvl (putX xs k b v) = putK (kvl xs) k v := by
  unfold putX putK
  rw [any_kvl]
  split
  · unfold kvl
    rw [List.map_map, List.map_map]
    refine List.map_congr_left fun x _ => ?_
    show (_ : NestedKey × V) = _
    by_cases e : x.1 = k
    · simp [e]
    · simp [e]
  · unfold kvl; rw [List.map_append]; rfl
theorem kal_put (xs : List NX) (k : NestedKey) (b : Addr) (v : V) : kal (putX xs k b v) = if (xs.any fun x => decide (x.1 = k)) = true then kal xs else kal xs ++ [(k, V.ref b)] := by
  unfold putX
  split
  · unfold kal
    rw [List.map_map]
    refine List.map_congr_left fun x _ => ?_
    show (_ : NestedKey × V) = _
    by_cases e : x.1 = k
    · simp [e]
    · simp [e]
  · unfold kal; rw [List.map_append]; rfl
theorem kdl_put (l : List (NestedKey × D)) (k : NestedKey) (d : D) : kdl (putA l k d) = if (l.any fun x => decide (x.1 = k)) = true then kdl l else kdl l ++ [(k, dKey k)] := by
  unfold putA
  split
  · unfold kdl
    rw [List.map_map]
    refine List.map_congr_left fun x _ => ?_
    show (_ : NestedKey × D) = _
    by_cases e : x.1 = k
    · simp [e]
    · simp [e]
  · unfold kdl; rw [List.map_append]; rfl
/-- a dict of deep keys changes -/
theorem relT_put {K : PySem.W.Frag} {l : List (NestedKey × D)} {xs : List NX} {k : NestedKey} {b : Addr} {d : D} {v : V} (r1 : RelKv K g f H (kdl l) (kal xs)) (r2 : RelKv K g f H l (kvl xs)) (rk : RelD K g f H (dKey k) (.ref b)) (rv : RelD K g f H d v) :
    RelKv K g f H (kdl (putA l k d)) (kal (putX xs k b v)) ∧ RelKv K g f H (putA l k d) (kvl (putX xs k b v)) := by
  refine ⟨?_, by rw [kvl_put]; exact r2.put rv⟩
  rw [kal_put, kdl_put, ← any_kvl, r2.any]
  split
  · exact r1
  · exact r1.append rk
end
def dictT (S : Store) : D → Option (List (NestedKey × D))
  | .loc n => match S[n]? with
    | some (.dT l) => some l
    | _ => none
  | _ => none
theorem dictT_of {S : Store} {d : D} {l : List (NestedKey × D)} (h : dictT S d = some l) : ∃ n, d = .loc n ∧ S[n]? = some (.dT l) := by
  cases d with
  | loc n =>
    dsimp only [dictT] at h
    cases e : S[n]? with
    | none => rw [e] at h; cases h
    | some c =>
      rw [e] at h
      cases c with
      | dT l' => cases h; exact ⟨n, rfl, e⟩
      | lst _ => cases h
      | dK _ => cases h
      | dF _ => cases h
  | _ => cases h
theorem keyT_ref {K : PySem.W.Frag} {g f : List Addr} {H : Hp} {d : D} {v : V} {k : NestedKey} (r : RelD K g f H d v) (h : keyT d = some k) : ∃ b, v = .ref b ∧ RelD K g f H (dKey k) (.ref b) := by
  obtain ⟨e, _, _, ks, rfl⟩ := keyT_of h
  subst e
  have r0 := r
  rw [dKey] at r
  obtain ⟨a, vs, rfl, _, _⟩ := r
  exact ⟨a, rfl, r0⟩
section
variable {X : Cx} {e a b o i : Expr} {me ma mb mk mx mv mo : ME} {pos p apos cpos : Pos}
def mNNew : ME := fun _ S => .ok (.loc S.length) (S ++ [.dT []])
theorem em_nnew : EM X (.Dict [] [] pos) mNNew := PE.of pe_nnew fun σ H Q ⟨g, w, o, ρ, S, d, S', s, hm, q⟩ => by
  cases hm
  intro p hp
  have x : Ext g H (g ++ [p]) (upd H p (ndO p [])) := ⟨⟨[p], rfl, fun b hb => by rw [List.mem_singleton.mp hb]; exact hp⟩, fun a u h _ => (Ext.new (g := []) hp).keep a u h (by simp), (Ext.new (g := []) hp).live, (Ext.new (g := []) hp).tups, (Ext.new (g := []) hp).frz⟩
  exact q _ (g ++ [p]) _ x (((s.sto.fresh hp).new hp).addG (s.sto.noG hp) (c := .dT []) ⟨[], upd_same, rfl, rfl⟩) ⟨p, rfl, by rw [← s.sto.len]; exact List.getElem?_concat_length⟩
/-- d[k] -/
def gNGet : G2 := fun x y S => match dictT S x, keyT y with
  | some l, some k => match valA l k with
    | some d => .ok d S
    | none => .bad
  | _, _ => .bad
theorem em_nget (hu : X.A.units + 64 < cLine) (ho : EM X o mo) (hi : EM X i mk) (hs : NoSl i) : EM X (.Subscript o i pos) (m2 gNGet mo mk) :=
  PE.of (pe_nget hu ho hi hs) fun σ H Q q => op_of (r := fun x y H Q => ∃ a b xs k v, x = .ref a ∧ y = .ref b ∧ H a = some (ndO a xs) ∧ KAll X H xs k b ∧ k.depth ≤ 8 ∧ valV (kvl xs) k = some v ∧ Q v H) (fun g f H S dx dy d S' x y Q s rx ry hm q => by
    unfold gNGet at hm
    split at hm
    · rename_i l k hl hk
      split at hm
      · rename_i d' hd
        cases hm
        obtain ⟨n, rfl, hn⟩ := dictT_of hl
        obtain ⟨a, ev, hg⟩ := rx
        obtain ⟨xs, hH, r1, r2⟩ := s.cel n _ a hn hg
        obtain ⟨v, hv, rv⟩ := (r2.val (k := k)).1 _ hd
        obtain ⟨b, eb, rk⟩ := keyT_ref ry hk
        exact ⟨a, b, xs, k, v, ev, eb, hH, kAll_of r1 rk, (keyT_of hk).2.2.1, hv, q.same s rv⟩
      · cases hm
    · cases hm) q
/-- k in d, k not in d -/
def gNIn (neg : Bool) : G2 := fun y x S => match dictT S x, keyT y with
  | some l, some k => .ok (.bl ((valA l k).isSome != neg)) S
  | _, _ => .bad
def rNIn (X : Cx) (neg : Bool) : R2 := fun y x H Q => ∃ a b xs k, x = .ref a ∧ y = .ref b ∧ H a = some (ndO a xs) ∧ KAll X H xs k b ∧ k.depth ≤ 8 ∧ Q (.bl ((valV (kvl xs) k).isSome != neg)) H
theorem op_nin (hu : X.A.units + 64 < cLine) : OpR X (compareOp .In) (rNIn X false) := by
  intro pins s σ H y x iv u Q I ry rx h
  obtain ⟨a, b, xs, k, ex, ey, hH, hk, kd, q2⟩ := h
  subst ex ey
  obtain rfl : u = Value.ref a := rx
  obtain rfl : iv = Value.ref b := ry
  obtain ⟨k1, k2⟩ := hk _ _ _ I
  exact n_in hu I hH k1 k2 kd fun s3 I3 => ⟨.bl (valV (kvl xs) k).isSome, H, I3, rfl, by simpa using q2⟩
theorem op_nnotin (hu : X.A.units + 64 < cLine) : OpR X (compareOp .NotIn) (rNIn X true) := by
  intro pins s σ H y x iv u Q I ry rx h
  obtain ⟨a, b, xs, k, ex, ey, hH, hk, kd, q2⟩ := h
  subst ex ey
  obtain rfl : u = Value.ref a := rx
  obtain rfl : iv = Value.ref b := ry
  obtain ⟨k1, k2⟩ := hk _ _ _ I
  exact n_notIn hu I hH k1 k2 kd fun s3 I3 => ⟨.bl (!(valV (kvl xs) k).isSome), H, I3, rfl, by simpa using q2⟩
theorem od_nin (neg : Bool) : OpD X.K (rNIn X neg) (gNIn neg) := fun g f H S dy dx d S' y x Q s ry rx hm q => by
  unfold gNIn at hm
  split at hm
  · rename_i l k hl hk
    cases hm
    obtain ⟨n, rfl, hn⟩ := dictT_of hl
    obtain ⟨a, ev, hg⟩ := rx
    obtain ⟨xs, hH, r1, r2⟩ := s.cel n _ a hn hg
    obtain ⟨b, eb, rk⟩ := keyT_ref ry hk
    refine ⟨a, b, xs, k, ev, eb, hH, kAll_of r1 rk, (keyT_of hk).2.2.1, ?_⟩
    have e : (valV (kvl xs) k).isSome = (valA l k).isSome := by
      cases hv : valA l k with
      | none => rw [(r2.val (k := k)).2 hv]; rfl
      | some d => obtain ⟨v, e, _⟩ := (r2.val (k := k)).1 d hv; rw [e]; rfl
    rw [e]
    exact q.same s rfl
  · cases hm
/-- d.get(k), d.get(k, x) -/
def mNGet1 (md mk : ME) : ME := fun ρ S => (md ρ S).bind fun c S1 => match dictT S1 c with
  | none => .bad
  | some _ => (mk ρ S1).bind fun y S2 => match dictT S2 c, keyT y with
    | some l, some k => .ok ((valA l k).getD .non) S2
    | _, _ => .bad
theorem em_nget1 (hu : X.A.units + 64 < cLine) (ho : EM X o mo) (he : EM X e mk) (m : M1 X o "get" apos e cpos) : EM X (.Call (.Attribute o "get" apos) [e] [] cpos) (mNGet1 mo mk) :=
  PE.of (pe_nget1 hu ho he m) fun σ H Q ⟨g, w, o, ρ, S, d, S', s, hm, q⟩ => by
    obtain ⟨c, S1, h1, hm⟩ := R.bind_ok hm
    split at hm
    · cases hm
    rename_i l0 hl0
    obtain ⟨y, S2, h2, hm⟩ := R.bind_ok hm
    split at hm
    · rename_i l k hl hk
      cases hm
      obtain ⟨n, rfl, hn0⟩ := dictT_of hl0
      obtain ⟨n', en, hn⟩ := dictT_of hl
      cases en
      refine ⟨g, w, o, ρ, S, _, S1, s, h1, fun vc g1 H1 x1 s1 ⟨a, ev, hg⟩ => ?_⟩
      obtain ⟨xs0, hH0, _, _⟩ := s1.cel n _ a hn0 hg
      refine ⟨a, ev, ⟨xs0, hH0⟩, ?_⟩
      have t1 := s.ext x1 s1
      refine ⟨g1, w, o, ρ, S1, y, _, t1, h2, fun vy g2 H2 x2 s2 r2 => ?_⟩
      obtain ⟨xs, hH, q1, q2⟩ := s2.cel n _ a hn (x2.get hg)
      obtain ⟨b, eb, rk⟩ := keyT_ref r2 hk
      refine ⟨b, xs, k, eb, hH, kAll_of q1 rk, (keyT_of hk).2.2.1, q _ g2 H2 (x1.trans x2) s2 ?_⟩
      cases hv : valA l k with
      | none => rw [(q2.val (k := k)).2 hv]; rfl
      | some d => obtain ⟨v, e, rv⟩ := (q2.val (k := k)).1 d hv; rw [e]; exact rv
    · cases hm
def mNGet2 (md mk mx : ME) : ME := fun ρ S => (md ρ S).bind fun c S1 => match dictT S1 c with
  | none => .bad
  | some _ => (mk ρ S1).bind fun y S2 => (mx ρ S2).bind fun z S3 => match dictT S3 c, keyT y with
    | some l, some k => .ok ((valA l k).getD z) S3
    | _, _ => .bad
theorem em_nget2 {f : Expr} (hu : X.A.units + 64 < cLine) (ho : EM X o mo) (he : EM X e mk) (hf : EM X f mx) (m : M2 X o "get" apos e f cpos) : EM X (.Call (.Attribute o "get" apos) [e, f] [] cpos) (mNGet2 mo mk mx) :=
  PE.of (pe_nget2 hu ho he hf m) fun σ H Q ⟨g, w, o, ρ, S, d, S', s, hm, q⟩ => by
    obtain ⟨c, S1, h1, hm⟩ := R.bind_ok hm
    split at hm
    · cases hm
    rename_i l0 hl0
    obtain ⟨y, S2, h2, hm⟩ := R.bind_ok hm
    obtain ⟨z, S3, h3, hm⟩ := R.bind_ok hm
    split at hm
    · rename_i l k hl hk
      cases hm
      obtain ⟨n, rfl, hn0⟩ := dictT_of hl0
      obtain ⟨n', en, hn⟩ := dictT_of hl
      cases en
      refine ⟨g, w, o, ρ, S, _, S1, s, h1, fun vc g1 H1 x1 s1 ⟨a, ev, hg⟩ => ?_⟩
      obtain ⟨xs0, hH0, _, _⟩ := s1.cel n _ a hn0 hg
      refine ⟨a, ev, ⟨xs0, hH0⟩, ?_⟩
      have t1 := s.ext x1 s1
      refine ⟨g1, w, o, ρ, S1, y, S2, t1, h2, fun vy g2 H2 x2 s2 r2 => ?_⟩
      refine ⟨g2, w, o, ρ, S2, z, _, t1.ext x2 s2, h3, fun vz g3 H3 x3 s3 r3 => ?_⟩
      obtain ⟨xs, hH, q1, q2⟩ := s3.cel n _ a hn ((x2.trans x3).get hg)
      obtain ⟨b, eb, rk⟩ := keyT_ref (RelD.ext x3 _ _ r2) hk
      refine ⟨b, xs, k, eb, hH, kAll_of q1 rk, (keyT_of hk).2.2.1, q _ g3 H3 ((x1.trans x2).trans x3) s3 ?_⟩
      cases hv : valA l k with
      | none => rw [(q2.val (k := k)).2 hv]; exact r3
      | some d => obtain ⟨v, e, rv⟩ := (q2.val (k := k)).1 d hv; rw [e]; exact rv
    · cases hm
/-- d[k] = v -/
def putT (c y d : D) (S : Store) : Option Store := match c with
  | .loc n => match dictT S (.loc n), keyT y with
    | some l, some k => if l.length < sizeLine then some (S.set n (.dT (putA l k d))) else none
    | _, _ => none
  | _ => none
theorem putT_ok {c y d : D} {S S' : Store} (h : putT c y d S = some S') : ∃ n l k, c = .loc n ∧ S[n]? = some (.dT l) ∧ keyT y = some k ∧ l.length < sizeLine ∧ S' = S.set n (.dT (putA l k d)) := by
  cases c with
  | loc n =>
    dsimp only [putT] at h
    cases e1 : dictT S (.loc n) with
    | none => rw [e1] at h; cases h
    | some l =>
      cases e2 : keyT y with
      | none => rw [e1, e2] at h; cases h
      | some k =>
        rw [e1, e2] at h
        dsimp only at h
        split at h
        · rename_i hz
          cases h
          obtain ⟨n', en, hn⟩ := dictT_of e1
          cases en
          exact ⟨n, l, k, rfl, hn, rfl, hz, rfl⟩
        · cases h
  | _ => cases h
theorem updT {K : PySem.W.Frag} {g f : List Addr} {H : Hp} {a b : Addr} {l : List (NestedKey × D)} {xs : List NX} {k : NestedKey} {d : D} {v : V} (mD : Mut (H a)) (gD : a ∈ g) (r1 : RelKv K g f H (kdl l) (kal xs)) (r2 : RelKv K g f H l (kvl xs)) (rk : RelD K g f H (dKey k) (.ref b)) (rv : RelD K g f H d v) :
    RelC K g f (upd H a (ndO a (putX xs k b v))) a (.dT (putA l k d)) := by
  obtain ⟨q1, q2⟩ := relT_put r1 r2 rk rv
  exact ⟨_, upd_same, RelKv.upd mD (.inr gD) _ _ q1, RelKv.upd mD (.inr gD) _ _ q2⟩
def mNPut (md mk mv : ME) : MS := fun ρ S => (mv ρ S).bind fun d S1 => (md ρ S1).bind fun c S2 => (mk ρ S2).bind fun y S3 => match putT c y d S3 with
  | some S4 => .ok (.nx ρ) S4
  | none => .bad
theorem sm_nput {value : Expr} {pos' : Pos} (hu : X.A.units + 64 < cLine) (ho : EM X o mo) (hi : EM X i mk) (hv : EM X value mv) (hs : swapsWith value (some (.Subscript o i pos')) pos.line X.env = pure false := by rfl) :
    SM X (.Assign [.Subscript o i pos'] value pos) (mNPut mo mk mv) := PS.of (ps_nput hu ho hi hv hs) fun E σ H ⟨g, w, o, ρ, S, fl, S', s, hm, q⟩ => by
  obtain ⟨d, S1, h1, hm1⟩ := R.bind_ok hm
  obtain ⟨c, S2, h2, hm2⟩ := R.bind_ok hm1
  obtain ⟨y, S3, h3, hm3⟩ := R.bind_ok hm2
  split at hm3
  · rename_i S4 hp
    cases hm3
    obtain ⟨n, l, k, rfl, hn, hk, hz, rfl⟩ := putT_ok hp
    refine ⟨g, w, o, ρ, S, d, S1, s, h1, fun v g1 H1 x1 s1 r1 => ?_⟩
    have t1 := s.ext x1 s1
    refine ⟨g1, w, o, ρ, S1, _, S2, t1, h2, fun vc g2 H2 x2 s2 r2 => ?_⟩
    have t2 := t1.ext x2 s2
    refine ⟨g2, w, o, ρ, S2, y, S3, t2, h3, fun vy g3 H3 x3 s3 r3 => ?_⟩
    have t3 := t2.ext x3 s3
    obtain ⟨a, ea, hg⟩ := RelD.ext x3 _ _ r2
    obtain ⟨xs, hH, q1, q2⟩ := s3.cel n _ a hn hg
    have mD : Mut (H3 a) := by rw [hH]; trivial
    have gD : a ∈ g3 := List.mem_of_getElem? hg
    have rv := RelD.ext (x2.trans x3) d v r1
    obtain ⟨b, eb, rk⟩ := keyT_ref r3 hk
    obtain ⟨_, ck, kd, _⟩ := keyT_of hk
    refine ⟨a, b, xs, k, ea, eb, hH, kAll_of q1 rk, kd, ck, ?_, ?_⟩
    · have e1 := q2.length
      unfold kvl at e1
      rw [List.length_map] at e1
      omega
    · have x4 : Ext g3 H3 g3 (upd H3 a (ndO a (putX xs k b v))) := .updG mD gD
      have s4 := s3.updG (c := .dT (putA l k d)) (u := ndO a (putX xs k b v)) mD hg (updT mD gD q1 q2 rk rv)
      exact q g3 o _ (((x1.trans x2).trans x3).trans x4).s σ (t3.ext x4 s4)
  · cases hm3
/-- d.setdefault(k, x) -/
def setT (c y z : D) (S : Store) : R D := match c with
  | .loc n => match dictT S (.loc n), keyT y with
    | some l, some k => if l.length < sizeLine then (match valA l k with
      | some d => .ok d S
      | none => .ok z (S.set n (.dT (putA l k z)))) else .bad
    | _, _ => .bad
  | _ => .bad
theorem setT_ok {c y z d : D} {S S' : Store} (h : setT c y z S = .ok d S') : ∃ n l k, c = .loc n ∧ S[n]? = some (.dT l) ∧ keyT y = some k ∧ l.length < sizeLine ∧ ((valA l k = some d ∧ S' = S) ∨ (valA l k = none ∧ d = z ∧ S' = S.set n (.dT (putA l k z)))) := by
  cases c with
  | loc n =>
    dsimp only [setT] at h
    cases e1 : dictT S (.loc n) with
    | none => rw [e1] at h; cases h
    | some l =>
      cases e2 : keyT y with
      | none => rw [e1, e2] at h; cases h
      | some k =>
        rw [e1, e2] at h
        dsimp only at h
        split at h
        · rename_i hz
          obtain ⟨n', en, hn⟩ := dictT_of e1
          cases en
          refine ⟨n, l, k, rfl, hn, rfl, hz, ?_⟩
          cases e3 : valA l k with
          | some d' => rw [e3] at h; cases h; exact .inl ⟨rfl, rfl⟩
          | none => rw [e3] at h; cases h; exact .inr ⟨rfl, rfl, rfl⟩
        · cases h
  | _ => cases h
def mNSet (md mk mx : ME) : ME := fun ρ S => (md ρ S).bind fun c S1 => match dictT S1 c with
  | none => .bad
  | some _ => (mk ρ S1).bind fun y S2 => (mx ρ S2).bind fun z S3 => setT c y z S3
theorem em_nsetd {f : Expr} (hu : X.A.units + 64 < cLine) (ho : EM X o mo) (he : EM X e mk) (hf : EM X f mx) (m : M2 X o "setdefault" apos e f cpos) : EM X (.Call (.Attribute o "setdefault" apos) [e, f] [] cpos) (mNSet mo mk mx) :=
  PE.of (pe_nsetd hu ho he hf m) fun σ H Q ⟨g, w, o, ρ, S, d, S', s, hm, q⟩ => by
    obtain ⟨c, S1, h1, hm1⟩ := R.bind_ok hm
    split at hm1
    · cases hm1
    rename_i l0 hl0
    obtain ⟨y, S2, h2, hm2⟩ := R.bind_ok hm1
    obtain ⟨z, S3, h3, hm3⟩ := R.bind_ok hm2
    obtain ⟨n, l, k, rfl, hn, hk, hz, hor⟩ := setT_ok hm3
    obtain ⟨n0, en0, hn0⟩ := dictT_of hl0
    cases en0
    refine ⟨g, w, o, ρ, S, _, S1, s, h1, fun vc g1 H1 x1 s1 ⟨a, ev, hg⟩ => ?_⟩
    obtain ⟨xs0, hH0, _, _⟩ := s1.cel n _ a hn0 hg
    refine ⟨a, ev, ⟨xs0, hH0⟩, ?_⟩
    have t1 := s.ext x1 s1
    refine ⟨g1, w, o, ρ, S1, y, S2, t1, h2, fun vy g2 H2 x2 s2 r2 => ?_⟩
    refine ⟨g2, w, o, ρ, S2, z, S3, t1.ext x2 s2, h3, fun vz g3 H3 x3 s3 r3 => ?_⟩
    have hg3 := (x2.trans x3).get hg
    obtain ⟨xs, hH, q1, q2⟩ := s3.cel n _ a hn hg3
    have mD : Mut (H3 a) := by rw [hH]; trivial
    have gD : a ∈ g3 := List.mem_of_getElem? hg3
    obtain ⟨b, eb, rk⟩ := keyT_ref (RelD.ext x3 _ _ r2) hk
    obtain ⟨_, ck, kd, _⟩ := keyT_of hk
    have hlen : xs.length < sizeLine := by
      have e1 := q2.length
      unfold kvl at e1
      rw [List.length_map] at e1
      omega
    refine ⟨b, xs, k, eb, hH, kAll_of q1 rk, kd, ck, hlen, fun v hv => ?_, fun hv => ?_⟩
    · rcases hor with ⟨hva, rfl⟩ | ⟨hva, _, _⟩
      · obtain ⟨v', e', rv⟩ := (q2.val (k := k)).1 d hva
        rw [hv] at e'
        cases e'
        exact q v g3 H3 ((x1.trans x2).trans x3) s3 rv
      · rw [(q2.val (k := k)).2 hva] at hv; cases hv
    · rcases hor with ⟨hva, _⟩ | ⟨hva, rfl, rfl⟩
      · obtain ⟨v', e', rv⟩ := (q2.val (k := k)).1 d hva
        rw [hv] at e'; cases e'
      · have x4 : Ext g3 H3 g3 (upd H3 a (ndO a (putX xs k b vz))) := .updG mD gD
        have s4 := s3.updG (c := .dT (putA l k d)) (u := ndO a (putX xs k b vz)) mD hg3 (updT mD gD q1 q2 rk r3)
        exact q vz g3 _ (((x1.trans x2).trans x3).trans x4) s4 (RelD.ext x4 _ _ r3)
end
/-! what they give -/
@[simp] theorem mNNew_eq (ρ : MEnv) (S : Store) : mNNew ρ S = .ok (.loc S.length) (S ++ [.dT []]) := rfl
@[simp] theorem dictT_eq (S : Store) (n : Nat) : dictT S (.loc n) = (match S[n]? with | some (.dT l) => some l | _ => none) := rfl
@[simp] theorem mNGet1_eq (md mk : ME) (ρ : MEnv) (S : Store) : mNGet1 md mk ρ S = (md ρ S).bind fun c S1 => match dictT S1 c with
  | none => .bad
  | some _ => (mk ρ S1).bind fun y S2 => match dictT S2 c, keyT y with
    | some l, some k => .ok ((valA l k).getD .non) S2
    | _, _ => .bad := rfl
@[simp] theorem mNGet2_eq (md mk mx : ME) (ρ : MEnv) (S : Store) : mNGet2 md mk mx ρ S = (md ρ S).bind fun c S1 => match dictT S1 c with
  | none => .bad
  | some _ => (mk ρ S1).bind fun y S2 => (mx ρ S2).bind fun z S3 => match dictT S3 c, keyT y with
    | some l, some k => .ok ((valA l k).getD z) S3
    | _, _ => .bad := rfl
@[simp] theorem gNGet_eq (n : Nat) (y : D) (S : Store) : gNGet (.loc n) y S = (match dictT S (.loc n), keyT y with
  | some l, some k => match valA l k with
    | some d => .ok d S
    | none => .bad
  | _, _ => .bad) := rfl
@[simp] theorem gNIn_eq (neg : Bool) (n : Nat) (y : D) (S : Store) : gNIn neg y (.loc n) S = (match dictT S (.loc n), keyT y with
  | some l, some k => .ok (.bl ((valA l k).isSome != neg)) S
  | _, _ => .bad) := rfl
@[simp] theorem putT_eq (n : Nat) (y d : D) (S : Store) : putT (.loc n) y d S = (match dictT S (.loc n), keyT y with
    | some l, some k => if l.length < sizeLine then some (S.set n (.dT (putA l k d))) else none
    | _, _ => none) := rfl
@[simp] theorem setT_eq (n : Nat) (y z : D) (S : Store) : setT (.loc n) y z S = (match dictT S (.loc n), keyT y with
    | some l, some k => if l.length < sizeLine then (match valA l k with
      | some d => .ok d S
      | none => .ok z (S.set n (.dT (putA l k z)))) else .bad
    | _, _ => .bad) := rfl
@[simp] theorem mNPut_eq (md mk mv : ME) (ρ : MEnv) (S : Store) : mNPut md mk mv ρ S = (mv ρ S).bind fun d S1 => (md ρ S1).bind fun c S2 => (mk ρ S2).bind fun y S3 => match putT c y d S3 with
  | some S4 => .ok (.nx ρ) S4
  | none => .bad := rfl
@[simp] theorem mNSet_eq (md mk mx : ME) (ρ : MEnv) (S : Store) : mNSet md mk mx ρ S = (md ρ S).bind fun c S1 => match dictT S1 c with
  | none => .bad
  | some _ => (mk ρ S1).bind fun y S2 => (mx ρ S2).bind fun z S3 => setT c y z S3 := rfl
end Mo
set_option maxRecDepth 100000
set_option maxHeartbeats 1000000
/-! Mo: dict comprehensions, get of one argument, defaults of keyword-only parameters, constants of a module. -/
namespace Mo
open PySem PySem.Spec PyProof.Rows L2
def mDcL (p : Pat) (mt : MT) (mk me : ME) : List D → MEnv → Store → List (Key × D) → R (List (Key × D))
  | [], _, S, acc => .ok acc S
  | d :: ds, ρ, S, acc => match p.bind d with
    | none => .bad
    | some l => (mt (setD ρ l) S).bind fun k S1 => if k = true then (mk (setD ρ l) S1).bind fun y S2 => (me (setD ρ l) S2).bind fun z S3 => match keyD y with
        | some kk => if acc.length < sizeLine then mDcL p mt mk me ds ρ S3 (putA acc kk z) else .bad
        | none => .bad
      else mDcL p mt mk me ds ρ S1 acc
/-- {k: e for p in it if t}: a new dict of the store -/
def mDc (it : ML) (p : Pat) (vs : List Nat) (mt : MT) (mk me : ME) : ME := fun ρ S => (it ρ S).bind fun l S1 => (mDcL p mt mk me l (wipeM ρ vs) S1 []).bind fun r S2 => .ok (.loc S2.length) (S2 ++ [.dK r])
section
variable {X : Cx} {tg iter kx elt : Expr} {ifs : List Expr} {p : Pat} {pos : Pos} {ml : ML} {mt : MT} {mk me : ME}
theorem dc_of {vs : List Nat} {σ : L2.St} {H : Hp} {Q : VK} (hv : ∀ i ∈ p.ixs, i ∈ vs) (q : tE X.K (mDc ml p vs mt mk me) σ H Q) : tDc (tI X.K ml) (tG X.K p) (tM X.K mt) (tE X.K mk) (tE X.K me) vs σ H Q := by
  obtain ⟨g, w, o, ρ, S, res, S', s, hm, q⟩ := q
  obtain ⟨l, S1, h1, hm⟩ := R.bind_ok hm
  obtain ⟨r, S2, h2, hm⟩ := R.bind_ok hm
  cases hm
  refine ⟨g, w, o, ρ, S, l, S1, s, h1, fun g1 H1 J x1 s1 wk D hD => ?_⟩
  have st1 : Sta X.K g1 w o ρ S1 σ H1 := s.ext x1 s1
  have hHD : H D = none := by
    cases e : H D with
    | none => rfl
    | some u => exact absurd hD (x1.live D (by rw [e]; simp))
  have ea : w ++ (o ++ [D]) = (w ++ o) ++ [D] := (List.append_assoc w o [D]).symm
  have noOwn : ∀ (i : Nat) (c : Cell), (wipeM ρ vs)[i]? = some (some (Slot.own c)) → (wipe σ vs)[i]? ≠ some (some (V.ref D)) := fun i c h e => by
    obtain ⟨a, e1, m, _⟩ := (st1.wipe vs).own i c h
    rw [e] at e1; cases e1
    exact st1.liv D (List.mem_append_right _ m) hD
  have st2 : Sta X.K g1 w (o ++ [D]) (wipeM ρ vs) S1 (wipe σ vs) (upd H1 D (.dK [])) := by
    have a := st1.wipe vs
    refine ⟨a.len, fun i d h => ?_, fun i c h => ?_, a.inj, fun b m => ?_, fun b m => ?_, ?_⟩
    · obtain ⟨v, e1, r1⟩ := a.val i d h
      exact ⟨v, e1, by rw [ea]; exact RelD.ext (.new hD) d v (RelD.fresh hD d v r1)⟩
    · obtain ⟨b, e1, m, r1⟩ := a.own i c h
      exact ⟨b, e1, List.mem_append_left _ m, by rw [ea]; exact (r1.fresh hD).new hD⟩
    · rcases List.mem_append.mp m with m | m
      · exact a.out b m
      · rw [List.mem_singleton.mp m]
        exact ⟨s1.noG hD, fun z => st1.noF hD (List.mem_append_left _ z)⟩
    · rw [ea] at m
      by_cases e : b = D
      · subst e; rw [upd_same]; simp
      · rw [upd_ne e]
        rcases List.mem_append.mp m with m | m
        · exact a.liv b m
        · exact absurd (List.mem_singleton.mp m) e
    · rw [ea]; exact (s1.fresh hD).new hD
  refine ⟨fun i m H2 => m = l.length - i ∧ i ≤ l.length ∧ ∃ g2 S3 acc accD, Ext g1 H1 g2 H2 ∧ Sta X.K g2 w (o ++ [D]) (wipeM ρ vs) S3 (wipe σ vs) H2 ∧ H2 D = some (.dK acc) ∧ RelKv X.K g2 (w ++ (o ++ [D])) H2 accD acc ∧
      mDcL p mt mk me (l.drop i) (wipeM ρ vs) S3 accD = .ok r S2,
    ⟨l.length, by simp, Nat.zero_le _, g1, S1, [], [], .new hD, st2, upd_same, rfl, by simpa using h2⟩, ?_⟩
  rintro i m H2 ⟨rfl, hi, g2, S3, acc, accD, x2, s2, hacc, racc, hm⟩
  have xs : ExtS g1 o H1 g2 (o ++ [D]) H2 := .own x2 hD
  by_cases hlt : i < l.length
  · have hdr : l.drop i = l[i] :: l.drop (i + 1) := List.drop_eq_getElem_cons hlt
    obtain ⟨go, yl⟩ := wk.item i l[i] g2 (o ++ [D]) H2 (List.getElem?_eq_getElem hlt) xs
    rw [hdr] at hm
    unfold mDcL at hm
    split at hm
    · cases hm
    rename_i bl hbl
    obtain ⟨k, S4, h3, hm⟩ := R.bind_ok hm
    refine .inr ⟨go, fun H3 => ∃ g3 S3 acc accD, Ext g1 H1 g3 H3 ∧ Sta X.K g3 w (o ++ [D]) (wipeM ρ vs) S3 (wipe σ vs) H3 ∧ H3 D = some (.dK acc) ∧ RelKv X.K g3 (w ++ (o ++ [D])) H3 accD acc ∧
      mDcL p mt mk me (l.drop (i + 1)) (wipeM ρ vs) S3 accD = .ok r S2, fun H' n => ⟨l.length - (i + 1), by omega, rfl, hlt, n⟩, fun x H3 hy => ?_⟩
    obtain ⟨⟨x3, t3⟩, rx⟩ := yl x H3 hy
    have s3 := s2.ext x3 (t3 _ _ s2.sto)
    have racc3 := RelKv.ext x3 _ _ racc
    have nD : D ∉ g2 := (s2.out D (by simp)).1
    have hacc3 : H3 D = some (.dK acc) := x3.keep D _ hacc nD
    refine ⟨g2, w ++ (o ++ [D]), l[i], bl, rx, hbl, fun us ru => ⟨wipe_setV fun j hj => ?_, ?_⟩⟩
    · rw [ru.fst, p.bind_ixs _ _ hbl] at hj
      exact hv j hj
    refine ⟨g2, w, o ++ [D], _, S3, k, S4, s3.setA ru, h3, fun g4 H4 x4 s4 => ?_⟩
    have st4 := s3.ext x4 s4
    have racc4 := RelKv.ext x4 _ _ racc3
    have hacc4 : H4 D = some (.dK acc) := x4.keep D _ hacc3 nD
    have nD4 : D ∉ g4 := (st4.out D (by simp)).1
    have x14 := (x2.trans x3).trans x4
    cases k with
    | false =>
      rw [if_neg Bool.false_ne_true] at hm
      exact iteF ⟨g4, S4, acc, accD, x14, st4, hacc4, racc4, hm⟩
    | true =>
      rw [if_pos rfl] at hm
      obtain ⟨y, S5, h5, hm⟩ := R.bind_ok hm
      obtain ⟨z, S6, h6, hm⟩ := R.bind_ok hm
      split at hm
      · rename_i kk hkk
        split at hm
        · rename_i hz
          refine iteT ⟨g4, w, o ++ [D], _, S4, y, S5, (s3.setA ru).ext x4 s4, h5, fun v g5 H5 x5 s5 r5 => ?_⟩
          have st5 := st4.ext x5 s5
          refine ⟨g5, w, o ++ [D], _, S5, z, S6, ((s3.setA ru).ext x4 s4).ext x5 s5, h6, fun u g6 H6 x6 s6 r6 => ?_⟩
          have st6 := st5.ext x6 s6
          have x46 := x5.trans x6
          have hacc6 : H6 D = some (.dK acc) := x46.keep D _ hacc4 nD4
          have nD6 : D ∉ g6 := (st6.out D (by simp)).1
          have racc6 := RelKv.ext x46 _ _ racc4
          have mD : Mut (H6 D) := by rw [hacc6]; trivial
          have fD : D ∈ w ++ (o ++ [D]) := by simp
          refine ⟨acc, kk, keyD_rel r5 hkk, hacc6, by rw [← racc6.length]; exact hz, ?_⟩
          refine ⟨g6, S6, putK acc kk u, putA accD kk z, ?_, st6.updF mD fD nD6 noOwn, upd_same, RelKv.upd mD (.inl fD) _ _ (racc6.put r6), hm⟩
          have xx := x14.trans x46
          refine ⟨xx.more, fun a u e hn => ?_, fun a h => ?_, fun a vs h => ?_, fun a o u h => ?_⟩
          · have : a ≠ D := fun z => by subst z; rw [hD] at e; cases e
            rw [upd_ne this]; exact xx.keep a u e hn
          · by_cases z : a = D
            · subst z; rw [upd_same]; simp
            · rw [upd_ne z]; exact xx.live a h
          · have h' := xx.tups a vs h
            exact Rd.upd (Rd.mut (v := .tup vs) mD (fun z => z) h') h'
          · have h' := xx.frz a o u h
            have : a ≠ D := fun z => by subst z; rw [h'] at mD; exact mD
            rw [upd_ne this]; exact h'
        · cases hm
      · cases hm
  · have e : i = l.length := by omega
    subst e
    rw [List.drop_length] at hm
    cases hm
    refine .inl ⟨wk.stop _ g2 (o ++ [D]) H2 (Nat.le_refl _) xs, ?_⟩
    have nD : D ∉ g2 := (s2.out D (by simp)).1
    obtain ⟨ns, eg, hns⟩ := (x1.trans x2).more
    have x3 : Ext g H (g2 ++ [D]) H2 := ⟨⟨ns ++ [D], by rw [eg, List.append_assoc], fun b hb => by
      rcases List.mem_append.mp hb with z | z
      · exact hns b z
      · rw [List.mem_singleton.mp z]; exact hHD⟩, (x1.trans x2).keep, (x1.trans x2).live, (x1.trans x2).tups, (x1.trans x2).frz⟩
    have sto := s2.sto
    rw [ea] at sto racc
    exact q _ _ H2 x3 (sto.addG nD ⟨acc, hacc, racc⟩) ⟨D, rfl, by rw [← s2.sto.len]; exact List.getElem?_concat_length⟩
theorem em_dc {scope : Scope} {own : List (Str × Nat)} (hc : X.calm = true) (hN : X.N.Nodup) (hi : IM X tg iter ml) (ok : BlkOk X.N X.env.scope scope own) (hv : ∀ i ∈ p.ixs, i ∈ own.map (·.2))
    (hg : ∀ (s : Shared) (H : Hp) (C : Addr) (cl : List (Str × Addr)) (fp : List Addr), GM (X.blk s H scope (compEnvC scope cl C X.env) fp) tg p)
    (ht : ∀ (s : Shared) (H : Hp) (C : Addr) (cl : List (Str × Addr)) (fp : List Addr), TsM (X.blk s H scope (compEnvC scope cl C X.env) fp) ifs mt)
    (hk : ∀ (s : Shared) (H : Hp) (C : Addr) (cl : List (Str × Addr)) (fp : List Addr), EM (X.blk s H scope (compEnvC scope cl C X.env) fp) kx mk)
    (he : ∀ (s : Shared) (H : Hp) (C : Addr) (cl : List (Str × Addr)) (fp : List Addr), EM (X.blk s H scope (compEnvC scope cl C X.env) fp) elt me) (hs : ∀ x, foldedSetIterable iter X.env x = pure x := by intro _; rfl) :
    EM X (.DictComp kx elt [⟨tg, iter, ifs, 0⟩] scope pos) (mDc ml p (own.map (·.2)) mt mk me) :=
  PE.of (pe_dc (g := tG X.K p) (tt := tM X.K mt) (tk := tE X.K mk) (tv := tE X.K me) hc hN hi ok hg ht hk he hs) fun σ H Q q => dc_of hv q
end
end Mo
set_option maxRecDepth 100000
set_option maxHeartbeats 1000000
namespace Mo
open PySem PySem.Spec PyProof.Rows L2
section
variable {X : Cx} {e a b o i : Expr} {me ma mb mk mx mv mo : ME} {pos p apos cpos : Pos}
/-- d.get(k) -/
def mDGet1 (md mk : ME) : ME := fun ρ S => (md ρ S).bind fun c S1 => match dictR S1 c with
  | none => .bad
  | some _ => (mk ρ S1).bind fun y S2 => match dictR S2 c, keyD y with
    | some l, some k => .ok ((valA l k).getD .non) S2
    | _, _ => .bad
theorem em_dget1 (hu : X.A.units + 64 < cLine) (ho : EM X o mo) (he : EM X e mk) (m : M1 X o "get" apos e cpos) : EM X (.Call (.Attribute o "get" apos) [e] [] cpos) (mDGet1 mo mk) :=
  PE.of (pe_dget1 (by omega) ho he m) fun σ H Q ⟨g, w, o, ρ, S, d, S', s, hm, q⟩ => by
    obtain ⟨c, S1, h1, hm⟩ := R.bind_ok hm
    split at hm
    · cases hm
    rename_i l0 hl0
    obtain ⟨y, S2, h2, hm⟩ := R.bind_ok hm
    split at hm
    · rename_i l k hl hk
      cases hm
      obtain ⟨n, rfl, hn0⟩ := dictR_of hl0
      obtain ⟨n', en, hn⟩ := dictR_of hl
      cases en
      refine ⟨g, w, o, ρ, S, _, S1, s, h1, fun vc g1 H1 x1 s1 ⟨a, ev, hg⟩ => ?_⟩
      obtain ⟨kvs0, hH0, _⟩ := s1.rd hn0 hg
      refine ⟨a, ev, .inl ⟨kvs0, hH0⟩, ?_⟩
      have t1 := s.ext x1 s1
      refine ⟨g1, w, o, ρ, S1, y, _, t1, h2, fun vy g2 H2 x2 s2 r2 => ?_⟩
      obtain ⟨kvs, hH, r⟩ := s2.rd hn (x2.get hg)
      refine ⟨valV kvs k, ?_, q _ g2 H2 (x1.trans x2) s2 ?_⟩
      · rw [keyD_rel r2 hk]
        exact .inl ⟨kvs, k, hH, rfl, rfl⟩
      · cases hv : valA l k with
        | none => rw [(r.val (k := k)).2 hv]; rfl
        | some d => obtain ⟨v, e, rv⟩ := (r.val (k := k)).1 d hv; rw [e]; exact rv
    · cases hm
@[simp] theorem mDGet1_eq (md mk : ME) (ρ : MEnv) (S : Store) : mDGet1 md mk ρ S = (md ρ S).bind fun c S1 => match dictR S1 c with
  | none => .bad
  | some _ => (mk ρ S1).bind fun y S2 => match dictR S2 c, keyD y with
    | some l, some k => .ok ((valA l k).getD .non) S2
    | _, _ => .bad := rfl
end
/-! ### constants of a module -/
mutual
def KD (K : PySem.W.Frag) : D → Value → Prop
  | .non, u => u = .none
  | .bl b, u => u = .bool b
  | .int i, u => ∃ t, u = .int i t
  | .str x, u => ∃ t, u = .str x t
  | .tup l, u => ∃ (a : Addr) (ob : Obj) (its : Array Value) (n : Nat), u = .ref a ∧ K.lookup a = some ob ∧ ob.cls = .type "tuple" ∧ ob.data = .seq its n ∧ its.size ≤ sizeLine ∧ KDs K l its.toList
  | .lst _, _ | .loc _, _ | .raw _, _ | .scr _, _ => False
def KDs (K : PySem.W.Frag) : List D → List Value → Prop
  | [], us => us = []
  | d :: ds, us => ∃ u r, us = u :: r ∧ KD K d u ∧ KDs K ds r
end
mutual
theorem kd_rel {K : PySem.W.Frag} : ∀ {d : D} {u : Value}, KD K d u → ∃ v, RelV v u ∧ ∀ g f H, RelD K g f H d v
  | .non, u, h => by rw [KD] at h; subst h; exact ⟨.non, rfl, fun _ _ _ => rfl⟩
  | .bl b, u, h => by rw [KD] at h; subst h; exact ⟨.bl b, rfl, fun _ _ _ => rfl⟩
  | .int i, u, h => by rw [KD] at h; exact ⟨.int i, h, fun _ _ _ => rfl⟩
  | .str x, u, h => by rw [KD] at h; exact ⟨.str x, h, fun _ _ _ => rfl⟩
  | .tup l, u, h => by
    rw [KD] at h
    obtain ⟨a, ob, its, n, rfl, h1, h2, h3, h4, h5⟩ := h
    obtain ⟨vs, r1, r2⟩ := kds_rel h5
    exact ⟨.ref a, rfl, fun g f H => ⟨a, vs, rfl, .inr ⟨ob, its, n, h1, h2, h3, h4, r1⟩, r2 g f H⟩⟩
  | .lst _, _, h | .loc _, _, h | .raw _, _, h | .scr _, _, h => by rw [KD] at h; exact h.elim
theorem kds_rel {K : PySem.W.Frag} : ∀ {l : List D} {us : List Value}, KDs K l us → ∃ vs, Vals vs us ∧ ∀ g f H, RelDs K g f H l vs
  | [], us, h => by rw [KDs] at h; subst h; exact ⟨[], .nil, fun _ _ _ => rfl⟩
  | d :: ds, us, h => by
    rw [KDs] at h
    obtain ⟨u, r, rfl, h1, h2⟩ := h
    obtain ⟨v, q1, q2⟩ := kd_rel h1
    obtain ⟨vs, q3, q4⟩ := kds_rel h2
    exact ⟨v :: vs, .cons q1 q3, fun g f H => ⟨v, vs, rfl, q2 g f H, q4 g f H⟩⟩
end
/-- a name of the module that stands for data -/
structure Cst (K : PySem.W.Frag) (mg : Str → Option Value) (x : Str) (d : D) : Prop where
  ex : ∃ u, mg x = some u ∧ KD K d u
theorem em_cst {X : Cx} {x : Str} {d : D} {pos : Pos} (c : Cst X.K X.mg x d) (hg : Gl X x) (hd : (x == ("__debug__" : Str)) = false := by decide) : EM X (.Name x pos) (mC d) := by
  obtain ⟨u, h1, h2⟩ := c.ex
  obtain ⟨v, r1, r2⟩ := kd_rel h2
  refine PE.of (pe_glob hg h1 r1 hd) fun σ H Q ⟨g, w, o, ρ, S, d', S', s, hm, q⟩ => ?_
  cases hm
  exact q v g H .refl s.sto (r2 _ _ _)
/-! ### keyword-only parameters with a default -/
/-- how names bind where the last parameters are not given -/
structure MixD (K : PySem.W.Frag) (fd : FuncData) (ps ks : List Str) (np : Nat) (ix : List Nat) (dv : List D) : Prop where
  ex : ∃ (dvs : List V) (dws : List Value), Vals dvs dws ∧ (∀ K g f H, RelDs K g f H dv dvs) ∧
    ∀ (s : Shared) (us ws : List Value), K.In s.heap → us.length = np → ws.length = ks.length → BindsTo s fd ⟨us, ks.zip ws⟩ (ps.zip (pickIx ix us ws ++ dws))
def mCallD (m : MF) (n np nk : Nat) (ix : List Nat) (dv : List D) (l lk : MA) : ME := fun ρ S => (l ρ S).bind fun ds S1 => (lk ρ S1).bind fun es S2 =>
  if ds.length = np ∧ es.length = nk ∧ (pickIx ix ds es ++ dv).length = n then m (pickIx ix ds es ++ dv) S2 else .bad
section
variable {X : Cx} {k n : Nat} {a : Addr} {fd : FuncData} {ps : List Str} {x : Str} {p pos : Pos} {e : Expr} {es : List Expr} {l : MA} {m : MF} {dv : List D}
variable {kws : List Keyword} {ks : List Str} {lk : MA} {np : Nat} {ix : List Nat}
theorem em_ownD (C : Own X.prog X.w X.K X.mg X.base k n x ps a fd m) (B : MixD X.K fd ps ks np ix dv) (hgd : X.A.guards = some []) (hr : Room k X.A) (hg : Gl X x) (ha : AM X (e :: es) l) (hkw : KM X kws lk) (hall : (backToKw pos (keywordEach kws X.env)).all (·.1.isSome) = true := by rfl)
    (hks : (backToKw pos (keywordEach kws X.env)).filterMap (·.1) = ks := by rfl) (hdb : (x == ("__debug__" : Str)) = false := by decide) (he : starEach (e :: es) X.env = (false, eval e X.env) :: starEach es X.env := by rfl)
    (hpl : ((backTo pos (starEach (e :: es) X.env)).any (·.1) || (backToKw pos (keywordEach kws X.env)).any (·.1.isNone)) = false := by rfl) : EM X (.Call (.Name x p) (e :: es) kws pos) (mCallD m n np ks.length ix dv l lk) := by
  obtain ⟨dvs, dws, hv, hdd, hb⟩ := B.ex
  refine ⟨fun pins s σ H Q I ⟨g, w, o, ρ, S, d, S', st, hq, q⟩ => ?_⟩
  obtain ⟨ds, S1, h1, hq⟩ := R.bind_ok hq
  obtain ⟨ds2, S2, h2, hq⟩ := R.bind_ok hq
  split at hq
  · rename_i hl
    obtain ⟨l1, l2, l3⟩ := hl
    refine wpAny_Call_Name_kw (ld_glob I hg C.at_ (PySem.W.callWith_KW (h₀ := X.base) I.ok.mod.kin C.kp hall ?_ hpl he) hdb)
    refine thn (PA.run ha pos pins s σ H _ I ⟨g, w, o, ρ, S, ds, S1, st, h1, fun vs g1 H1 x1 s1 r1 => (⟨g1, H1, rfl, x1, s1, r1⟩ : ∃ g1 H2, H1 = H2 ∧ Ext g H g1 H2 ∧ RelS X.K g1 (w ++ o) H2 S1 ∧ RelDs X.K g1 (w ++ o) H2 ds vs)⟩) fun us s1 ⟨vs, H1, I1, r, g1, H1', e1, x1, t1, r1⟩ => ?_
    subst e1
    refine thn (PK.run hkw pos pins s1 σ H1 _ I1 ⟨g1, w, o, ρ, S1, ds2, S2, st.ext x1 t1, h2, fun zs g2 H2 x2 s2 r2 => (⟨g2, H2, rfl, x2, s2, r2⟩ : ∃ g2 H3, H2 = H3 ∧ Ext g1 H1 g2 H3 ∧ RelS X.K g2 (w ++ o) H3 S2 ∧ RelDs X.K g2 (w ++ o) H3 ds2 zs)⟩) fun ws s2 ⟨zs, H2, I2, rz, g2, H2', e2, x2, t2, r2⟩ => ⟨I2.kIn, ?_⟩
    subst e2
    rw [hks]
    have u1 : us.length = np := by rw [← r.length, ← r1.length]; exact l1
    have u2 : ws.length = ks.length := by rw [← rz.length, ← r2.length]; exact l2
    have rr : RelDs X.K g2 (w ++ o) H2 (pickIx ix ds ds2 ++ dv) (pickIx ix vs zs ++ dvs) := RelDs.append (rel_pick (RelDs.append (RelDs.ext x2 ds vs r1) r2) ix) (hdd _ _ _ _)
    have rv : Vals (pickIx ix vs zs ++ dvs) (pickIx ix us ws ++ dws) := (vals_pick (r.append rz) ix).append hv
    refine C.ok.run hgd hr (fun _ => hb s2 us ws I2.kIn u1 u2) pass0 I2 rv ⟨by rw [← rr.length]; exact l3, g2, w ++ o, pickIx ix ds ds2 ++ dv, S2, d, S', fun b hbm => x2.live b (x1.live b (st.liv b hbm)), t2, rr, hq, ?_⟩
    exact fun v g3 H3 x3 s3 r3 => q v g3 H3 ((x1.trans x2).trans x3) s3 r3
  · cases hq
theorem em_ownD0 (C : Own X.prog X.w X.K X.mg X.base k n x ps a fd m) (B : MixD X.K fd ps ks 0 ix dv) (hgd : X.A.guards = some []) (hr : Room k X.A) (hg : Gl X x) (hkw : KM X kws lk) (hall : (backToKw pos (keywordEach kws X.env)).all (·.1.isSome) = true := by rfl)
    (hks : (backToKw pos (keywordEach kws X.env)).filterMap (·.1) = ks := by rfl) (hdb : (x == ("__debug__" : Str)) = false := by decide)
    (hpl : ((backTo pos (starEach [] X.env)).any (·.1) || (backToKw pos (keywordEach kws X.env)).any (·.1.isNone)) = false := by rfl) : EM X (.Call (.Name x p) [] kws pos) (mCallD m n 0 ks.length ix dv aNil lk) := by
  obtain ⟨dvs, dws, hv, hdd, hb⟩ := B.ex
  refine ⟨fun pins s σ H Q I ⟨g, w, o, ρ, S, d, S', st, hq, q⟩ => ?_⟩
  obtain ⟨ds, S1, h1, hq⟩ := R.bind_ok hq
  cases h1
  obtain ⟨ds2, S2, h2, hq⟩ := R.bind_ok hq
  split at hq
  · rename_i hl
    obtain ⟨l1, l2, l3⟩ := hl
    refine wpAny_Call_Name_kw (ld_glob I hg C.at_ (PySem.W.callWith_KW0 (h₀ := X.base) I.ok.mod.kin C.kp hall ?_ hpl) hdb)
    refine thn (PK.run hkw pos pins s σ H _ I ⟨g, w, o, ρ, _, ds2, S2, st, h2, fun zs g2 H2 x2 s2 r2 => (⟨g2, H2, rfl, x2, s2, r2⟩ : ∃ g2 H3, H2 = H3 ∧ Ext g H g2 H3 ∧ RelS X.K g2 (w ++ o) H3 S2 ∧ RelDs X.K g2 (w ++ o) H3 ds2 zs)⟩) fun ws s2 ⟨zs, H2, I2, rz, g2, H2', e2, x2, t2, r2⟩ => ⟨I2.kIn, ?_⟩
    subst e2
    rw [hks]
    have u2 : ws.length = ks.length := by rw [← rz.length, ← r2.length]; exact l2
    have rr : RelDs X.K g2 (w ++ o) H2 (pickIx ix [] ds2 ++ dv) (pickIx ix [] zs ++ dvs) := RelDs.append (rel_pick (RelDs.append (l := []) (vs := []) rfl r2) ix) (hdd _ _ _ _)
    have rv : Vals (pickIx ix [] zs ++ dvs) (pickIx ix [] ws ++ dws) := (vals_pick (Vals.append .nil rz) ix).append hv
    refine C.ok.run (us := []) hgd hr (fun _ => hb s2 [] ws I2.kIn rfl u2) pass0 I2 rv ⟨by rw [← rr.length]; exact l3, g2, w ++ o, pickIx ix [] ds2 ++ dv, S2, d, S', fun b hbm => x2.live b (st.liv b hbm), t2, rr, hq, ?_⟩
    exact fun v g3 H3 x3 s3 r3 => q v g3 H3 (x2.trans x3) s3 r3
  · cases hq
/-- the same call, its values written in their places, no keywords -/
theorem em_ownP (C : Own X.prog X.w X.K X.mg X.base k n x ps a fd m) (B : MixD X.K fd ps [] np ix dv) (hix : ∀ us : List Value, us.length = np → pickIx ix us [] = us) (hn : np + dv.length = ps.length) (hgd : X.A.guards = some []) (hr : Room k X.A) (hg : Gl X x) (ha : AM X (e :: es) l) (hdb : (x == ("__debug__" : Str)) = false := by decide)
    (he : starEach (e :: es) X.env = (false, eval e X.env) :: starEach es X.env := by rfl) (hpl : (backTo pos (starEach es X.env)).any (·.1) = false := by rfl) : EM X (.Call (.Name x p) (e :: es) [] pos) (mCall m n dv l) := by
  obtain ⟨dvs, dws, hv, hdd, hb⟩ := B.ex
  have hlen : dv.length = dws.length := by
    have := (hdd X.K [] [] (fun _ => none)).length
    rw [this, hv.length]
  refine em_call (dvs := dvs) C.ok hgd hr hg C.at_ C.kp (dws := dws) (fun s us I hl => ?_) hv hdd ha hdb he hpl
  have hu : us.length = np := by
    rw [List.length_append] at hl
    omega
  have := hb s us [] I hu rfl
  have e1 := hix us hu
  rw [e1] at this
  exact this
end
end Mo
set_option maxRecDepth 100000
set_option maxHeartbeats 1000000
/-! Mo: how a keyword-only default is found, how a constant of the module is. -/
namespace Mo
open PySem PySem.Spec PyProof.Rows L2
theorem mixD_of {K : PySem.W.Frag} {fd : FuncData} {ps ks : List Str} {np : Nat} {D : Addr} {nm : Str} {i : Int} {t : Tok} (ix : List Nat) (hq : PySem.W.nsIn K D nm = some (some (.int i t)))
    (h : ∀ us ws : List Value, us.length = np → ws.length = ks.length → KwChain D [(nm, .int i t)] (bindArgs fd ⟨us, ks.zip ws⟩) (ps.zip (pickIx ix us ws ++ [.int i t]))) : MixD K fd ps ks np ix [.int i] := by
  refine ⟨[.int i], [.int i t], .cons ⟨t, rfl⟩ .nil, fun K' g f H => ⟨_, [], rfl, rfl, rfl⟩, fun s us ws I l1 l2 => BindsTo.of_looks fun M => KwChain.looks I (fun q hq' => ?_) (h us ws l1 l2)⟩
  rw [List.mem_singleton.mp hq']; exact hq
end Mo
set_option maxRecDepth 100000
set_option maxHeartbeats 1000000
/-! Mo: starred items of a display. -/
namespace Mo
open PySem PySem.Spec PyProof.Rows L2
/-- *e, .. : what e holds, then the rest -/
def aStar (m : ME) (l : MA) : MA := fun ρ S => (m ρ S).bind fun d S1 => (anyD d S1).bind fun xs S2 => (l ρ S2).bind fun ys S3 => .ok (xs ++ ys) S3
theorem am_star {X : Cx} {e : Expr} {es : List Expr} {me : ME} {l : MA} {p : Pos} (he : EM X e me) (hr : AM X es l) (hs : starEach (.Starred e p :: es) X.env = (true, eval e X.env) :: starEach es X.env := by rfl) : AM X (.Starred e p :: es) (aStar me l) :=
  ⟨fun pos pins s σ H Q I ⟨g, w, o, ρ, S, ds, S', st, hm, q⟩ => by
    obtain ⟨d, S1, h1, hm⟩ := R.bind_ok hm
    obtain ⟨xs, S2, h2, hm⟩ := R.bind_ok hm
    obtain ⟨ys, S3, h3, hm⟩ := R.bind_ok hm
    cases hm
    refine (StX.pa_star he hr hs).run pos pins s σ H Q I (show StX.tStar X.K (tE X.K me) (tA X.K l) σ H Q from ?_)
    refine ⟨g, w, o, ρ, S, d, S1, st, h1, fun v g1 H1 x1 s1 r1 => ?_⟩
    obtain ⟨e2, a, vs, ev, hq, rr⟩ := anyD_rel s1 r1 h2
    subst e2
    refine ⟨a, vs, ev, hq.symm, ?_⟩
    refine ⟨g1, w, o, ρ, _, ys, _, st.ext x1 s1, h3, fun us g2 H2 x2 s2 r2 => ?_⟩
    exact q (vs ++ us) g2 H2 (x1.trans x2) s2 (RelDs.append (RelDs.ext x2 _ _ rr) r2)⟩
@[simp] theorem aStar_eq (m : ME) (l : MA) (ρ : MEnv) (S : Store) : aStar m l ρ S = (m ρ S).bind fun d S1 => (anyD d S1).bind fun xs S2 => (l ρ S2).bind fun ys S3 => .ok (xs ++ ys) S3 := rfl
end Mo
set_option maxRecDepth 100000
set_option maxHeartbeats 1000000
/-! Mo: a dict copied. -/
namespace Mo
open PySem PySem.Spec PyProof.Rows L2
def rDCopy : List V → Hp → VK → Prop := fun xs H Q => ∃ a kvs, xs = [.ref a] ∧ Rd H a (.dK kvs) ∧ ∀ p, H p = none → Q (.ref p) (upd H p (.dK kvs))
theorem cr_dcopy {X : Cx} : CallR X (.type "dict") rDCopy := by
  intro pins s σ H xs us Q I r h
  obtain ⟨a, kvs, rfl, e, q⟩ := h
  cases r with
  | cons r1 r2 =>
    cases r2
    cases r1
    exact d_copyOf I e fun p s' hp I' => ⟨.ref p, _, I', rfl, q p hp⟩
def mDCopy (m : ME) : ME := fun ρ S => (m ρ S).bind fun c S1 => match dictR S1 c with
  | some l => .ok (.loc S1.length) (S1 ++ [.dK l])
  | none => .bad
theorem em_dcopy {X : Cx} {e : Expr} {me : ME} {p pos : Pos} (h : EM X e me) (hg : Gl X "dict") (hm : X.mg "dict" = none) (hb : bootBuiltins "dict" = some (.type "dict") := by decide +kernel) (hs : starEach [e] X.env = (false, eval e X.env) :: starEach [] X.env := by rfl) (hpl : (backTo pos (starEach [] X.env)).any (·.1) = false := by rfl) :
    EM X (.Call (.Name "dict" p) [e] [] pos) (mDCopy me) :=
  PE.of (pe_callTy cr_dcopy hg hm hb (b1 h hs) (by decide) (by decide) hs hpl) fun σ H Q ⟨g, w, o, ρ, S, d, S', s, hm, q⟩ => by
    obtain ⟨c, S1, h1, hm⟩ := R.bind_ok hm
    split at hm
    · rename_i l hl
      cases hm
      obtain ⟨n, rfl, hn⟩ := dictR_of hl
      refine ⟨g, w, o, ρ, S, _, S1, s, h1, fun v g1 H1 x1 s1 ⟨a, ev, hg1⟩ => ?_⟩
      subst ev
      obtain ⟨kvs, hH, r⟩ := s1.rd hn hg1
      refine ⟨a, kvs, rfl, hH, fun t ht => ?_⟩
      have x2 : Ext g1 H1 (g1 ++ [t]) (upd H1 t (.dK kvs)) := ⟨⟨[t], rfl, fun b hb => by rw [List.mem_singleton.mp hb]; exact ht⟩, fun a u h _ => (Ext.new (g := []) ht).keep a u h (by simp), (Ext.new (g := []) ht).live, (Ext.new (g := []) ht).tups, (Ext.new (g := []) ht).frz⟩
      refine q _ (g1 ++ [t]) _ (x1.trans x2) (((s1.fresh ht).new ht).addG (s1.noG ht) (c := .dK l) ⟨_, upd_same, ?_⟩) ⟨t, rfl, by rw [← s1.len]; exact List.getElem?_concat_length⟩
      exact RelKv.ext (.new ht) _ _ (RelKv.fresh ht _ _ r)
    · cases hm
@[simp] theorem mDCopy_eq (m : ME) (ρ : MEnv) (S : Store) : mDCopy m ρ S = (m ρ S).bind fun c S1 => match dictR S1 c with
  | some l => .ok (.loc S1.length) (S1 ++ [.dK l])
  | none => .bad := rfl
end Mo
set_option maxRecDepth 100000
set_option maxHeartbeats 1000000
/-! Mo: k in d, k not in d, of dicts by numbers and texts. -/
namespace Mo
open PySem PySem.Spec PyProof.Rows L2
def gDIn (neg : Bool) : G2 := fun y x S => match dictR S x, keyD y with
  | some l, some k => .ok (.bl ((valA l k).isSome != neg)) S
  | _, _ => .bad
def rDIn (neg : Bool) : R2 := fun y x H Q => ∃ a o, x = V.ref a ∧ DGet H a y o ∧ Q (.bl (o.isSome != neg)) H
theorem op_din {X : Cx} (hu : X.A.units + 64 < cLine) : OpR X (compareOp .In) (rDIn false) := by
  intro pins s σ H y x iv u Q I ry rx h
  obtain ⟨a, o, ex, g, q2⟩ := h
  subst ex
  obtain rfl : u = Value.ref a := rx
  exact d_in (by omega) I g ry fun s3 I3 => ⟨.bl o.isSome, H, I3, rfl, by simpa using q2⟩
theorem op_dnotin {X : Cx} (hu : X.A.units + 64 < cLine) : OpR X (compareOp .NotIn) (rDIn true) := by
  intro pins s σ H y x iv u Q I ry rx h
  obtain ⟨a, o, ex, g, q2⟩ := h
  subst ex
  obtain rfl : u = Value.ref a := rx
  exact d_notIn (by omega) I g ry fun s3 I3 => ⟨.bl (!o.isSome), H, I3, rfl, by simpa using q2⟩
theorem od_din {X : Cx} (neg : Bool) : OpD X.K (rDIn neg) (gDIn neg) := fun g f H S dy dx d S' y x Q s ry rx hm q => by
  unfold gDIn at hm
  split at hm
  · rename_i l k hl hk
    cases hm
    obtain ⟨n, rfl, hn⟩ := dictR_of hl
    obtain ⟨a, ev, hg⟩ := rx
    obtain ⟨kvs, hH, r⟩ := s.rd hn hg
    refine ⟨a, valV kvs k, ev, ?_, ?_⟩
    · rw [keyD_rel ry hk]
      exact .inl ⟨kvs, k, hH, rfl, rfl⟩
    · have e : (valV kvs k).isSome = (valA l k).isSome := by
        cases hv : valA l k with
        | none => rw [(r.val (k := k)).2 hv]; rfl
        | some d => obtain ⟨v, e, _⟩ := (r.val (k := k)).1 d hv; rw [e]; rfl
      rw [e]
      exact q.same s rfl
  · cases hm
@[simp] theorem gDIn_eq (neg : Bool) (y x : D) (S : Store) : gDIn neg y x S = (match dictR S x, keyD y with
  | some l, some k => .ok (.bl ((valA l k).isSome != neg)) S
  | _, _ => .bad) := rfl
end Mo
set_option maxRecDepth 100000
set_option maxHeartbeats 1000000
/-! Mo: x.insert(i, e) of an own list; x[::-1] of a list. -/
namespace Mo
open PySem PySem.Spec PyProof.Rows L2
section
variable {X : Cx}
def mIns (i : Nat) (mk me : ME) : MS := fun ρ S => (mk ρ S).bind fun k S1 => (me ρ S1).bind fun d S2 => match ρ[i]?, k with
  | some (some (.own (.lst l))), .int j => if l.length < sizeLine ∧ 0 ≤ j ∧ j < 2 ^ 63 then .ok (.nx (ρ.set i (some (.own (.lst (l.take j.toNat ++ [d] ++ l.drop j.toNat)))))) S2 else .bad
  | _, _ => .bad
theorem sm_insert {o e f : Expr} {mk me : ME} {apos cpos spos : Pos} {i : Nat} (ho : PE X o (tVar i)) (hk : EM X e mk) (ha : EM X f me) (hbase : attributeBase o "insert" X.env (eval o X.env) = eval o X.env := by rfl)
    (hfew : ((backTo cpos (starEach [e, f] X.env)).all (fun x => !x.1) && (backToKw cpos (keywordEach [] X.env)).all (fun x => x.1.isSome) && decide ([e, f].length + ([] : List Keyword).length + (if ([] : List Keyword).isEmpty then 0 else 1) < 30)) = true := by rfl)
    (hline : (apos.endLine == cpos.line) = true := by rfl) (hs : starEach [e, f] X.env = (false, eval e X.env) :: starEach [f] X.env := by rfl) (hs2 : starEach [f] X.env = (false, eval f X.env) :: starEach [] X.env := by rfl) (hplain : (backTo cpos (starEach [f] X.env)).any (·.1) = false := by rfl)
    (hsw : swapsWith (.Call (.Attribute o "insert" apos) [e, f] [] cpos) none spos.line X.env = pure false := by rfl) : SM X (.Expr (.Call (.Attribute o "insert" apos) [e, f] [] cpos) spos) (mIns i mk me) :=
  PS.of (ps_expr (pe_bm PySem.F.plainAttrs_list PySem.F.slot_list_insert PySem.F.type_list_insert mt_insert ho (pa_cons hk (pa_cons ha pa_nil hs2) hs) hbase hfew hline hs hplain) hsw) fun E σ H ⟨g, w, o, ρ, S, fl, S', s, hm, q⟩ => by
    obtain ⟨k, S1, h1, hm⟩ := R.bind_ok hm
    obtain ⟨d, S2, h2, hm⟩ := R.bind_ok hm
    split at hm
    · rename_i l j hl hb
      split at hm
      · rename_i hz
        cases hm
        obtain ⟨a, e1, m, vs, hH, r⟩ := s.own i _ hl
        refine ⟨_, e1, .inl ⟨rfl, vs, .of hH⟩, ?_⟩
        refine ⟨g, w, o, ρ, S, _, S1, s, h1, fun v g1 H1 x1 s1 r1 => ?_⟩
        have st1 := s.ext x1 s1
        refine ⟨g1, w, o, ρ, S1, d, _, st1, h2, fun v2 g2 H2 x2 s2 r2 => ?_⟩
        have st2 := st1.ext x2 s2
        obtain ⟨a', e1', m', vs', hH', r'⟩ := st2.own i _ hl
        rw [e1] at e1'; cases e1'
        have mD : Mut (H2 a) := by rw [hH']; trivial
        have fD : a ∈ w ++ o := List.mem_append_right _ m
        cases r1
        refine ⟨a, vs', j, v2, rfl, rfl, hH', by rw [← r'.length]; exact hz.1, hz.2.1, hz.2.2, q g2 o _ ((x1.trans x2).s.trans (.updO mD m)) _ (st2.updO hl e1 mD ?_)⟩
        exact ⟨_, upd_same, RelDs.upd mD (.inl fD) _ _ (RelDs.append (RelDs.append (r'.take j.toNat) ⟨v2, [], rfl, r2, rfl⟩) (r'.drop j.toNat))⟩
      · cases hm
    · cases hm
@[simp] theorem mIns_eq (i : Nat) (mk me : ME) (ρ : MEnv) (S : Store) : mIns i mk me ρ S = (mk ρ S).bind fun k S1 => (me ρ S1).bind fun d S2 => (match ρ[i]?, k with
  | some (some (.own (.lst l))), .int j => if l.length < sizeLine ∧ 0 ≤ j ∧ j < 2 ^ 63 then .ok (.nx (ρ.set i (some (.own (.lst (l.take j.toNat ++ [d] ++ l.drop j.toNat)))))) S2 else .bad
  | _, _ => .bad) := rfl
/-- xs[::-1] -/
def rRevL (K : PySem.W.Frag) : V → Hp → VK → Prop := fun x H Q => ∃ a xs, x = .ref a ∧ SqL K H a xs ∧ ∀ p, H p = none → Q (.ref p) (upd H p (.lst xs.reverse))
theorem vals_reverse {xs : List V} {us : List Value} (r : Vals xs us) : Vals xs.reverse us.reverse := by
  induction r with
  | nil => exact .nil
  | cons h _ ih =>
    rw [List.reverse_cons, List.reverse_cons]
    exact ih.append (.cons h .nil)
theorem pe_rev {e ste : Expr} {te : TE} {ts : TO} {pos p2 : Pos} (he : PE X e te) (hs : PO X (some ste) ts) : PE X (.Subscript e (.Slice none none (some ste) p2) pos) (fun σ H Q => te σ H fun x H1 => ts σ H1 fun k H2 => k = some (-1) ∧ rRevL X.K x H2 Q) := by
  refine ⟨fun pins s σ H Q I h => ?_⟩
  refine Subscript_ (thn (he.run pins s σ H _ I h) fun v s1 ⟨x, H1, I1, r1, q1⟩ => ?_)
  refine wpAny_Slice ?_
  rw [evalPart_none]
  refine wpAny_pure ?_
  refine wpAny_pure ?_
  refine thn (hs.run pins s1 σ H1 _ I1 q1) fun vs s3 ⟨k, H3, I3, pk, ek, q3⟩ => ?_
  subst ek
  have I4 : Inv X pins σ H3 { s3 with heap := s3.heap.push { cls := .type "slice", data := .fields #[.none, .none, vs] } } := I3.kept (t' := s3.toks) fun b ob q => Heap.get?_push_of_some _ q
  obtain ⟨a, xs, rfl, hx, q⟩ := q3
  cases r1
  obtain ⟨its, r, ht, hz⟩ := I4.list hx
  have hlen := r.length
  have hg : wpAny (model X.prog X.w) X.A (getItem (.ref a) (.ref s3.heap.objs.size)) (EP X pins σ Q) X.xe { s3 with heap := s3.heap.push { cls := .type "slice", data := .fields #[.none, .none, vs] } } := by
    refine wpAny_getItem_list_slice ht.isList (Heap.IsSliceOf.new ..) .none .none pk (by simp) ?_ (by rw [List.size_toArray] <;> omega)
    rw [PySem.W.krv_pick]
    refine ⟨.ref _, _, I4.laid (t' := s3.toks) (o := .lst xs.reverse) (fun b ob q => Heap.get?_push_of_some _ q) (Nat.le_refl _) ?_, rfl, q _ (I4.hok.fresh (Nat.le_refl _))⟩
    exact ⟨by rw [List.length_reverse]; exact hz, _, 0, vals_reverse r, Heap.get?_push_size _ rfl⟩
  show wpAny (model X.prog X.w) X.A (subscriptTail e (.Slice none none (some ste) p2) (.ref a) (.ref s3.heap.objs.size)) (EP X pins σ Q) X.xe { s3 with heap := s3.heap.push { cls := .type "slice", data := .fields #[.none, .none, vs] } }
  exact tail_any (ops := [.ref a, .ref s3.heap.objs.size]) ht.isList.typeIs slot_list_getitem.lookup hg (by with_unfolding_all rfl)
/-- xs[::-1] of a list that rests -/
def mRevQ (ml : ML) (mo : MO) : ML := fun ρ S => (ml ρ S).bind fun l S1 => (mo ρ S1).bind fun k S2 => if k = some (-1) then .ok l.reverse S2 else .bad
theorem RelDs.rev {K : PySem.W.Frag} {g f : List Addr} {H : Hp} : ∀ {l : List D} {vs : List V}, RelDs K g f H l vs → RelDs K g f H l.reverse vs.reverse
  | [], _, h => by cases h; rfl
  | d :: l, _, ⟨v, r, e, h, t⟩ => by
    subst e
    rw [List.reverse_cons, List.reverse_cons]
    exact RelDs.append (RelDs.rev t) ⟨v, [], rfl, h, rfl⟩
theorem nm_rev {e ste : Expr} {me : ME} {mo : MO} {pos p2 : Pos} (he : EM X e me) (hs : OM X (some ste) mo) : NM X (.Subscript e (.Slice none none (some ste) p2) pos) (mRevQ (iLst me) mo) := PE.of (pe_rev he hs) fun σ H Q ⟨g, w, o, ρ, S, d, S', s, hm, q⟩ => by
  obtain ⟨l, S1, h1, hm⟩ := R.bind_ok hm
  obtain ⟨k1, S2, h2, hm⟩ := R.bind_ok hm
  split at hm
  · rename_i hk
    cases hm
    obtain ⟨d1, S0, h0, h1⟩ := R.bind_ok h1
    obtain ⟨rfl, rfl⟩ := seqD_ok h1
    refine ⟨g, w, o, ρ, S, _, _, s, h0, fun v g1 H1 x1 s1 r1 => ?_⟩
    have t1 := s.ext x1 s1
    refine ⟨g1, w, o, ρ, _, _, _, t1, h2, fun g2 H2 x2 s2 => ⟨hk, ?_⟩⟩
    obtain ⟨a, vs, ev, hq, r⟩ := RelD.ext x2 _ _ r1
    refine ⟨a, vs, ev, hq.sq, ?_⟩
    have q' : FinN X.K g2 (w ++ o) H2 l.reverse _ Q := fun p vs g4 H4 x4 hp n4 e4 s4 r4 => q p vs g4 H4 ((x1.trans x2).trans x4) (back_none x1 (back_none x2 hp)) n4 e4 s4 r4
    exact q'.put s2 (RelDs.rev r)
  · cases hm
@[simp] theorem mRevQ_eq (ml : ML) (mo : MO) (ρ : MEnv) (S : Store) : mRevQ ml mo ρ S = (ml ρ S).bind fun l S1 => (mo ρ S1).bind fun k S2 => if k = some (-1) then .ok l.reverse S2 else .bad := rfl
end
end Mo
set_option maxRecDepth 100000
set_option maxHeartbeats 1000000
/-! Mo: list(d), list(d.items()), d.pop(k), try where nothing is raised, raise that is never reached, targets with subscripts. -/
namespace Mo
open PySem PySem.Spec PyProof.Rows L2
section
variable {X : Cx}
theorem relDs_keys {K : PySem.W.Frag} {g f : List Addr} {H : Hp} : ∀ {l : List (Key × D)} {kvs : List (Key × V)}, RelKv K g f H l kvs → RelDs K g f H (l.map fun kv => keyV kv.1) (kvs.map fun kv => kV kv.1)
  | [], _, h => by cases h; rfl
  | p :: l, _, ⟨v, r, e, _, t⟩ => by
    subst e
    exact ⟨_, _, rfl, keyV_rel _, relDs_keys t⟩
/-- list(d) -/
def mKeysL (m : ME) : ML := fun ρ S => (m ρ S).bind fun c S1 => match dictR S1 c with
  | some l => .ok (l.map fun kv => keyV kv.1) S1
  | none => .bad
theorem nm_listD {e : Expr} {me : ME} {p pos : Pos} (hc : X.calm = true) (h : EM X e me) (hg : Gl X "list") (hm : X.mg "list" = none) (hb : bootBuiltins "list" = some (.type "list") := by decide +kernel) (hs : starEach [e] X.env = (false, eval e X.env) :: starEach [] X.env := by rfl) (hpl : (backTo pos (starEach [] X.env)).any (·.1) = false := by rfl) :
    NM X (.Call (.Name "list" p) [e] [] pos) (mKeysL me) :=
  PE.of (pe_callTy (call_listD hc) hg hm hb (b1 h hs) (by decide) (by decide) hs hpl) fun σ H Q ⟨g, w, o, ρ, S, d, S', s, hm, q⟩ => by
    obtain ⟨c, S1, h1, hm⟩ := R.bind_ok hm
    split at hm
    · rename_i l hl
      cases hm
      obtain ⟨n, rfl, hn⟩ := dictR_of hl
      refine ⟨g, w, o, ρ, S, .loc n, _, s, h1, fun v g1 H1 x1 s1 ⟨a, ev, hg1⟩ => ?_⟩
      subst ev
      obtain ⟨kvs, hH, r⟩ := s1.rd hn hg1
      refine ⟨a, kvs, rfl, hH, ?_⟩
      have q' : FinN X.K g1 (w ++ o) H1 (l.map fun kv => keyV kv.1) _ Q := fun p vs g4 H4 x4 hp n4 e4 s4 r4 => q p vs g4 H4 (x1.trans x4) (back_none x1 hp) n4 e4 s4 r4
      exact q'.put s1 (relDs_keys r)
    · cases hm
@[simp] theorem mKeysL_eq (m : ME) (ρ : MEnv) (S : Store) : mKeysL m ρ S = (m ρ S).bind fun c S1 => (match dictR S1 c with
  | some l => .ok (l.map fun kv => keyV kv.1) S1
  | none => .bad) := rfl
/-! ### all that was there stands -/
theorem Ext.all {g : List Addr} {H H' : Hp} (k : ∀ b o, H b = some o → H' b = some o) : Ext g H g H' :=
  ⟨⟨[], by simp, fun _ h => nomatch h⟩, fun a u h _ => k a u h, (fun a h => by
    cases e : H a with
    | none => exact absurd e h
    | some u => rw [k a u e]; exact (fun z => nomatch z)), (fun a vs h => by
    rcases h with h | ⟨o, h⟩
    · exact .inl (k _ _ h)
    · exact .inr ⟨o, k _ _ h⟩), fun a o u h => k _ _ h⟩
theorem RelS.all {K : PySem.W.Frag} {g f : List Addr} {H H' : Hp} {S : Store} (k : ∀ b o, H b = some o → H' b = some o) (s : RelS K g f H S) : RelS K g f H' S :=
  ⟨s.len, s.nod, fun n c a e1 e2 => by
    have x : Ext g H g H' := .all k
    have := s.cel n c a e1 e2
    cases c with
    | lst l => obtain ⟨vs, h, r⟩ := this; exact ⟨vs, k _ _ h, RelDs.ext x _ _ r⟩
    | dK l => obtain ⟨vs, h, r⟩ := this; exact ⟨vs, k _ _ h, RelKv.ext x _ _ r⟩
    | dT l => obtain ⟨vs, h, r, r2⟩ := this; exact ⟨vs, k _ _ h, RelKv.ext x _ _ r, RelKv.ext x _ _ r2⟩
    | dF l => obtain ⟨vs, ⟨ob, h⟩, r⟩ := this; exact ⟨vs, ⟨ob, k _ _ h⟩, RelKv.ext x _ _ r⟩⟩
theorem relDs_items {K : PySem.W.Frag} {g f : List Addr} {H : Hp} : ∀ {l : List (Key × D)} {kvs : List (Key × V)} {ts : List Addr}, RelKv K g f H l kvs → Paired (fun (t : Addr) (q : Key × V) => H t = some (.tup [kV q.1, q.2])) ts kvs → RelDs K g f H (l.map fun kv => .tup [keyV kv.1, kv.2]) (ts.map V.ref)
  | [], _, _, h, p => by cases h; cases p; rfl
  | d :: l, _, _, ⟨v, r, e, q, t⟩, p => by
    subst e
    cases p with
    | cons h p => exact ⟨_, _, rfl, ⟨_, _, rfl, .inl (.inl h), ⟨_, _, rfl, keyV_rel _, ⟨_, _, rfl, q, rfl⟩⟩⟩, relDs_items t p⟩
/-- list(d.items()) -/
def mItemsL (m : ME) : ML := fun ρ S => (m ρ S).bind fun c S1 => match dictAt S1 c with
  | some l => .ok (l.map fun kv => .tup [keyV kv.1, kv.2]) S1
  | none => .bad
theorem nm_items {e : Expr} {me : ME} {p apos cpos pos : Pos} (hc : X.calm = true) (h : EM X e me) (hg : Gl X "list") (hm : X.mg "list" = none) (hv : bootBuiltins "list" = some (.type "list") := by decide +kernel) (hbase : attributeBase e "items" X.env (eval e X.env) = eval e X.env := by rfl) (hline : (apos.endLine == cpos.line) = true := by rfl)
    (hs : starEach [.Call (.Attribute e "items" apos) [] [] cpos] X.env = (false, eval (.Call (.Attribute e "items" apos) [] [] cpos) X.env) :: starEach [] X.env := by rfl) :
    NM X (.Call (.Name "list" p) [.Call (.Attribute e "items" apos) [] [] cpos] [] pos) (mItemsL me) :=
  PE.of (LiI.pe_listItems hc h hg hm hv hbase hline hs) fun σ H Q ⟨g, w, o, ρ, S, d, S', s, hm, q⟩ => by
    obtain ⟨c, S1, h1, hm⟩ := R.bind_ok hm
    split at hm
    · rename_i l hl
      cases hm
      obtain ⟨n, rfl, hn⟩ := dictAt_of hl
      refine ⟨g, w, o, ρ, S, .loc n, _, s, h1, fun v g1 H1 x1 s1 ⟨a, ev, hg1⟩ => ?_⟩
      subst ev
      obtain ⟨kvs, hH, r⟩ := s1.cel n _ a hn hg1
      refine ⟨a, kvs, rfl, hH, fun H' p ts k hp hts hpt hl2 pr => ?_⟩
      have x2 : Ext g1 H1 g1 H' := .all k
      refine q p (ts.map V.ref) g1 H' (x1.trans x2) (back_none x1 hp) (s1.noG hp) hl2 ((s1.fresh hp).all k) ?_
      exact relDs_items (RelKv.ext x2 _ _ (RelKv.fresh hp _ _ r)) pr
    · cases hm
@[simp] theorem mItemsL_eq (m : ME) (ρ : MEnv) (S : Store) : mItemsL m ρ S = (m ρ S).bind fun c S1 => (match dictAt S1 c with
  | some l => .ok (l.map fun kv => .tup [keyV kv.1, kv.2]) S1
  | none => .bad) := rfl
/-! ### d.pop(k) -/
def dropA (l : List (Key × D)) (k : Key) : List (Key × D) := l.filter fun kv => decide (kv.1 ≠ k)
theorem RelKv.drop {K : PySem.W.Frag} {g f : List Addr} {H : Hp} {k : Key} : ∀ {l : List (Key × D)} {kvs : List (Key × V)}, RelKv K g f H l kvs → RelKv K g f H (dropA l k) (dropK kvs k)
  | [], _, h => by cases h; rfl
  | p :: l, _, ⟨v, r, e, q, t⟩ => by
    subst e
    have ih := RelKv.drop (k := k) t
    unfold dropA dropK at *
    by_cases c : p.1 = k
    · rw [List.filter_cons_of_neg (by simp [c]), List.filter_cons_of_neg (by simp [c])]; exact ih
    · rw [List.filter_cons_of_pos (by simp [c]), List.filter_cons_of_pos (by simp [c])]; exact ⟨v, _, rfl, q, ih⟩
def mDPop (mo mk : ME) : ME := fun ρ S => (mo ρ S).bind fun c S1 => match dictAt S1 c with
  | none => .bad
  | some _ => (mk ρ S1).bind fun y S2 => match c, dictAt S2 c, keyD y with
    | .loc n, some l, some k => (match valA l k with
      | some d => .ok d (S2.set n (.dK (dropA l k)))
      | none => .bad)
    | _, _, _ => .bad
theorem em_dpop {o e : Expr} {mo mk : ME} {apos cpos : Pos} (ho : EM X o mo) (he : EM X e mk) (m : M1 X o "pop" apos e cpos) : EM X (.Call (.Attribute o "pop" apos) [e] [] cpos) (mDPop mo mk) :=
  PE.of (pe_dpop1 ho he m) fun σ H Q ⟨g, w, o, ρ, S, d, S', s, hm, q⟩ => by
    obtain ⟨c, S1, h1, hm1⟩ := R.bind_ok hm
    split at hm1
    · cases hm1
    rename_i l0 hl0
    obtain ⟨y, S2, h2, hm2⟩ := R.bind_ok hm1
    obtain ⟨n, rfl, hn0⟩ := dictAt_of hl0
    cases hk : keyD y with
    | none => rw [hk] at hm2; cases hd2 : dictAt S2 (.loc n) <;> rw [hd2] at hm2 <;> cases hm2
    | some k =>
      cases hd2 : dictAt S2 (.loc n) with
      | none => rw [hk, hd2] at hm2; cases hm2
      | some l =>
        rw [hk, hd2] at hm2
        dsimp only at hm2
        cases hv : valA l k with
        | none => rw [hv] at hm2; cases hm2
        | some d2 =>
          rw [hv] at hm2
          cases hm2
          obtain ⟨n', en, hn⟩ := dictAt_of hd2
          cases en
          refine ⟨g, w, o, ρ, S, _, S1, s, h1, fun vc g1 H1 x1 s1 ⟨a, ev, hg⟩ => ?_⟩
          obtain ⟨kvs0, hH0, _⟩ := s1.cel n _ a hn0 hg
          refine ⟨a, ev, .inl ⟨kvs0, .inl hH0⟩, ?_⟩
          have t1 := s.ext x1 s1
          refine ⟨g1, w, o, ρ, S1, y, S2, t1, h2, fun vy g2 H2 x2 s2 r2 => ?_⟩
          have hg2 := x2.get hg
          obtain ⟨kvs, hH, r⟩ := s2.cel n _ a hn hg2
          have mD : Mut (H2 a) := by rw [hH]; trivial
          have gD : a ∈ g2 := List.mem_of_getElem? hg2
          obtain ⟨v', e', rv⟩ := (r.val (k := k)).1 d hv
          have x4 : Ext g2 H2 g2 (upd H2 a (.dK (dropK kvs k))) := .updG mD gD
          have s4 := s2.updG (c := .dK (dropA l k)) (u := .dK (dropK kvs k)) mD hg2 ⟨_, upd_same, RelKv.upd mD (.inr gD) _ _ (RelKv.drop r)⟩
          exact ⟨kvs, k, v', hH, keyD_rel r2 hk, e', q v' g2 _ ((x1.trans x2).trans x4) s4 (RelD.ext x4 _ _ rv)⟩
@[simp] theorem mDPop_eq (mo mk : ME) (ρ : MEnv) (S : Store) : mDPop mo mk ρ S = (mo ρ S).bind fun c S1 => (match dictAt S1 c with
  | none => .bad
  | some _ => (mk ρ S1).bind fun y S2 => (match c, dictAt S2 c, keyD y with
    | .loc n, some l, some k => (match valA l k with
      | some d => .ok d (S2.set n (.dK (dropA l k)))
      | none => .bad)
    | _, _, _ => .bad)) := rfl
/-! ### try, raise -/
theorem sm_thru {body : List Stmt} {h₀ : ExceptHandler} {hs : List ExceptHandler} {pos : Pos} {m : MS} (hb : SsM X.nox body m) : SM X (.Try body (h₀ :: hs) [] [] pos) m := ps_try_thru0 hb
def mBad : MS := fun _ _ => .bad
theorem sm_bad {st : Stmt} : SM X st mBad := ⟨fun pins s σ H D I ⟨g, w, o, ρ, S, fl, S', s', hm, q⟩ => by cases hm⟩
@[simp] theorem mBad_eq (ρ : MEnv) (S : Store) : mBad ρ S = .bad := rfl
/-! ### o[i], x = e; o[i], o2[i2] = e -/
def mAsgS (mo mk : ME) (i : Nat) (m : ME) : MS := fun ρ S => (m ρ S).bind fun d S1 => match d with
  | .tup [d1, d2] => (mo ρ S1).bind fun c S2 => (mk ρ S2).bind fun k S3 => (match putC c k d1 S3 with
    | some S4 => .ok (.nx (ρ.set i (some (.val d2)))) S4
    | none => .bad)
  | _ => .bad
theorem sm_asgS {st : Stmt} {mo mk me : ME} {i : Nat} (h : PS X st (tAsg (tE X.K me) (gTup X.K 2 (gCons (gSub (tE X.K mo) (tE X.K mk) rSetL) (gCons (gName i) gNil))))) : SM X st (mAsgS mo mk i me) := PS.of h fun E σ H ⟨g, w, o, ρ, S, fl, S', s, hm, q⟩ => by
  obtain ⟨d, S1, h1, hm⟩ := R.bind_ok hm
  split at hm
  · rename_i d1 d2
    obtain ⟨c, S2, h2, hm⟩ := R.bind_ok hm
    obtain ⟨k, S3, h3, hm⟩ := R.bind_ok hm
    split at hm
    · rename_i S4 hp
      cases hm
      obtain ⟨n, j, l, m, rfl, rfl, hl, hmx, rfl⟩ := putC_ok hp
      refine ⟨g, w, o, ρ, S, _, S1, s, h1, fun v g1 H1 x1 s1 r1 => ?_⟩
      obtain ⟨b, vs0, ev, hq, v1, rr, ers, rv1, v2, rr2, ers2, rv2, ers3⟩ := r1
      subst ers3; subst ers2; subst ers; subst ev
      refine ⟨b, _, rfl, hq, rfl, v1, _, rfl, ?_⟩
      have t1 := s.ext x1 s1
      refine ⟨g1, w, o, ρ, S1, _, S2, t1, h2, fun vc g2 H2 x2 s2 r2 => ?_⟩
      have t2 := t1.ext x2 s2
      refine ⟨g2, w, o, ρ, S2, _, S3, t2, h3, fun vk g3 H3 x3 s3 r3 => ?_⟩
      have t3 := t2.ext x3 s3
      obtain ⟨a, ea, hg⟩ := RelD.ext x3 _ _ r2
      obtain ⟨vs, hH, r⟩ := s3.cel n _ a hl hg
      have mD : Mut (H3 a) := by rw [hH]; trivial
      have gD : a ∈ g3 := List.mem_of_getElem? hg
      have rv := RelD.ext (x2.trans x3) d1 v1 rv1
      refine ⟨a, vs, j, m, ea, r3, hH, by rw [← r.length]; exact hmx, ?_⟩
      have x4 : Ext g3 H3 g3 (upd H3 a (.lst (vs.set m v1))) := .updG mD gD
      have s4 := s3.updG (c := .lst (l.set m d1)) (u := .lst (vs.set m v1)) mD hg ⟨_, upd_same, RelDs.upd mD (.inr gD) _ _ (RelDs.set r rv)⟩
      exact ⟨v2, _, rfl, rfl, q g3 o _ (((x1.trans x2).trans x3).trans x4).s _ ((t3.ext x4 s4).set (RelD.ext ((x2.trans x3).trans x4) d2 v2 rv2))⟩
    · cases hm
  · cases hm
def mAsgSS (mo mk mo2 mk2 : ME) (m : ME) : MS := fun ρ S => (m ρ S).bind fun d S1 => match d with
  | .tup [d1, d2] => (mo ρ S1).bind fun c S2 => (mk ρ S2).bind fun k S3 => (match putC c k d1 S3 with
    | some S4 => (mo2 ρ S4).bind fun c2 S5 => (mk2 ρ S5).bind fun k2 S6 => (match putC c2 k2 d2 S6 with
      | some S7 => .ok (.nx ρ) S7
      | none => .bad)
    | none => .bad)
  | _ => .bad
theorem sm_asgSS {st : Stmt} {mo mk mo2 mk2 me : ME} (h : PS X st (tAsg (tE X.K me) (gTup X.K 2 (gCons (gSub (tE X.K mo) (tE X.K mk) rSetL) (gCons (gSub (tE X.K mo2) (tE X.K mk2) rSetL) gNil))))) : SM X st (mAsgSS mo mk mo2 mk2 me) := PS.of h fun E σ H ⟨g, w, o, ρ, S, fl, S', s, hm, q⟩ => by
  obtain ⟨d, S1, h1, hm⟩ := R.bind_ok hm
  split at hm
  · rename_i d1 d2
    obtain ⟨c, S2, h2, hm⟩ := R.bind_ok hm
    obtain ⟨k, S3, h3, hm⟩ := R.bind_ok hm
    split at hm
    · rename_i S4 hp
      obtain ⟨c2, S5, h5, hm⟩ := R.bind_ok hm
      obtain ⟨k2, S6, h6, hm⟩ := R.bind_ok hm
      split at hm
      · rename_i S7 hp2
        cases hm
        obtain ⟨n, j, l, m, rfl, rfl, hl, hmx, rfl⟩ := putC_ok hp
        obtain ⟨n2, j2, l2, m2, rfl, rfl, hl2, hmx2, rfl⟩ := putC_ok hp2
        refine ⟨g, w, o, ρ, S, _, S1, s, h1, fun v g1 H1 x1 s1 r1 => ?_⟩
        obtain ⟨b, vs0, ev, hq, v1, rr, ers, rv1, v2, rr2, ers2, rv2, ers3⟩ := r1
        subst ers3; subst ers2; subst ers; subst ev
        refine ⟨b, _, rfl, hq, rfl, v1, _, rfl, ?_⟩
        have t1 := s.ext x1 s1
        refine ⟨g1, w, o, ρ, S1, _, S2, t1, h2, fun vc g2 H2 x2 s2 r2 => ?_⟩
        have t2 := t1.ext x2 s2
        refine ⟨g2, w, o, ρ, S2, _, S3, t2, h3, fun vk g3 H3 x3 s3 r3 => ?_⟩
        have t3 := t2.ext x3 s3
        obtain ⟨a, ea, hg⟩ := RelD.ext x3 _ _ r2
        obtain ⟨vs, hH, r⟩ := s3.cel n _ a hl hg
        have mD : Mut (H3 a) := by rw [hH]; trivial
        have gD : a ∈ g3 := List.mem_of_getElem? hg
        have rv := RelD.ext (x2.trans x3) d1 v1 rv1
        refine ⟨a, vs, j, m, ea, r3, hH, by rw [← r.length]; exact hmx, ?_⟩
        have x4 : Ext g3 H3 g3 (upd H3 a (.lst (vs.set m v1))) := .updG mD gD
        have s4 := s3.updG (c := .lst (l.set m d1)) (u := .lst (vs.set m v1)) mD hg ⟨_, upd_same, RelDs.upd mD (.inr gD) _ _ (RelDs.set r rv)⟩
        refine ⟨v2, _, rfl, ?_⟩
        have t4 := t3.ext x4 s4
        refine ⟨g3, w, o, ρ, _, _, S5, t4, h5, fun vc5 g5 H5 x5 s5 r5 => ?_⟩
        have t5 := t4.ext x5 s5
        refine ⟨g5, w, o, ρ, S5, _, S6, t5, h6, fun vk6 g6 H6 x6 s6 r6 => ?_⟩
        have t6 := t5.ext x6 s6
        obtain ⟨a2, ea2, hg2⟩ := RelD.ext x6 _ _ r5
        obtain ⟨vs2, hH2, r22⟩ := s6.cel n2 _ a2 hl2 hg2
        have mD2 : Mut (H6 a2) := by rw [hH2]; trivial
        have gD2 : a2 ∈ g6 := List.mem_of_getElem? hg2
        have x26 := (((x2.trans x3).trans x4).trans x5).trans x6
        have rv2' := RelD.ext x26 d2 v2 rv2
        refine ⟨a2, vs2, j2, m2, ea2, r6, hH2, by rw [← r22.length]; exact hmx2, ?_⟩
        have x7 : Ext g6 H6 g6 (upd H6 a2 (.lst (vs2.set m2 v2))) := .updG mD2 gD2
        have s7 := s6.updG (c := .lst (l2.set m2 d2)) (u := .lst (vs2.set m2 v2)) mD2 hg2 ⟨_, upd_same, RelDs.upd mD2 (.inr gD2) _ _ (RelDs.set r22 rv2')⟩
        exact ⟨rfl, q g6 o _ ((x1.trans x26).trans x7).s _ (t6.ext x7 s7)⟩
      · cases hm
    · cases hm
  · cases hm
@[simp] theorem mAsgS_eq (mo mk : ME) (i : Nat) (m : ME) (ρ : MEnv) (S : Store) : mAsgS mo mk i m ρ S = (m ρ S).bind fun d S1 => (match d with
  | .tup [d1, d2] => (mo ρ S1).bind fun c S2 => (mk ρ S2).bind fun k S3 => (match putC c k d1 S3 with
    | some S4 => .ok (.nx (ρ.set i (some (.val d2)))) S4
    | none => .bad)
  | _ => .bad) := rfl
@[simp] theorem mAsgSS_eq (mo mk mo2 mk2 : ME) (m : ME) (ρ : MEnv) (S : Store) : mAsgSS mo mk mo2 mk2 m ρ S = (m ρ S).bind fun d S1 => (match d with
  | .tup [d1, d2] => (mo ρ S1).bind fun c S2 => (mk ρ S2).bind fun k S3 => (match putC c k d1 S3 with
    | some S4 => (mo2 ρ S4).bind fun c2 S5 => (mk2 ρ S5).bind fun k2 S6 => (match putC c2 k2 d2 S6 with
      | some S7 => .ok (.nx ρ) S7
      | none => .bad)
    | none => .bad)
  | _ => .bad) := rfl
end
end Mo
set_option maxRecDepth 100000
set_option maxHeartbeats 1000000
/-! Mo: str(int), the text of an empty dict. -/
namespace Mo
open PySem PySem.Spec PyProof.Rows L2
section
variable {X : Cx} {e : Expr} {me : ME} {l : MA} {p pos : Pos}
/-- str(a whole number) -/
def hStrI : List D → Store → R D
  | [.int i], S => if b62 i = true then .ok (.str (toString i)) S else .bad
  | _, _ => .bad
theorem log_b62 {i : Int} (h : b62 i = true) : i.natAbs.log2 < 1920 := by
  have h1 := (b62_iff i).mp h
  by_cases c : i.natAbs = 0
  · rw [c]; decide
  · have h2 : 2 ^ i.natAbs.log2 ≤ i.natAbs := Nat.log2_self_le c
    have h3 : 2 ^ i.natAbs.log2 < 2 ^ 63 := by
      have : (2 : Nat) ^ 63 = 9223372036854775808 := by decide
      omega
    have h4 := (Nat.pow_lt_pow_iff_right (by decide : 1 < 2)).mp h3
    omega
theorem em_strI (h : AM X [e] l) (hg : Gl X "str") (hm : X.mg "str" = none) (hb : bootBuiltins "str" = some (.type "str") := by decide +kernel) (hs : starEach [e] X.env = (false, eval e X.env) :: starEach [] X.env := by rfl) (hpl : (backTo pos (starEach [] X.env)).any (·.1) = false := by rfl) :
    EM X (.Call (.Name "str" p) [e] [] pos) (mA hStrI l) :=
  PE.of (pe_callTy call_str_int hg hm hb h (by decide) (by decide) hs hpl) fun σ H Q q => a_of (fun g f H S l d S' vs Q s r hm q => by
    unfold hStrI at hm
    split at hm
    · split at hm
      · rename_i i hi
        cases hm
        obtain ⟨v, t, ev, rv, rn⟩ := r
        cases rv; cases rn
        exact ⟨_, ev, log_b62 hi, q.same s rfl⟩
      · cases hm
    · cases hm) q
/-- repr of data, or of an empty dict -/
def gReprA (d : D) (S : Store) : R D := match d with
  | .loc n => match S[n]? with
    | some (.dK []) => .ok (.str "{}") S
    | _ => .bad
  | d => gReprV d S
theorem cr_repr0 (hg : X.A.guards = some []) (hu : X.A.units + 64 < cLine) : CallR X (.builtin "repr") (fun xs H Q => ∃ a, xs = [.ref a] ∧ H a = some (.dK []) ∧ Q (.str "{}") H) := by
  intro pins s σ H xs us Q I r h
  obtain ⟨a, rfl, ha, q⟩ := h
  rw [Vals.ref1 r]
  obtain ⟨_, lo, vs, kv, o, es, ep, h1, h2, h3, h4, h5, h6⟩ := dk_of I.hok ha
  cases kv
  have he : es.toList = [] := by
    cases q2 : es.toList with
    | nil => rfl
    | cons x l => rw [q2] at h5; cases h5
  have rd : Reads s.heap (.ref a) (.dict []) (a :: [] ++ []) := .dict h1 h2.1 h3 (by rw [he]; exact .nil) (by rw [he]; exact .nil)
  refine repr_of_reads' rd rfl (fun _ hz => ?_) hg (Nat.lt_of_le_of_lt (Nat.add_le_add_left (show (PyData.dict []).depth + 1 ≤ 64 by decide) _) hu) (fun _ _ e => e) (fun h' u tk hk => ?_) (by decide)
  · rw [beq_eq_false_iff_ne] at lo
    simp only [List.append_nil, List.mem_singleton] at hz
    exact lo hz.symm
  · exact ⟨.str _, H, I.kept (t' := tk) hk, ⟨u, rfl⟩, q⟩
theorem cr_reprA (hg : X.A.guards = some []) (hu : X.A.units + 64 < cLine) : CallR X (.builtin "repr") (fun xs H Q => (∃ x p, xs = [x] ∧ Dp X.K H x p ∧ p.hasDict = false ∧ shownOk p ∧ Q (.str p.shown) H) ∨ (∃ a, xs = [.ref a] ∧ H a = some (.dK []) ∧ Q (.str "{}") H)) := by
  intro pins s σ H xs us Q I r h
  rcases h with h | h
  · exact cr_reprV hg hu pins s σ H xs us Q I r h
  · exact cr_repr0 hg hu pins s σ H xs us Q I r h
theorem em_reprA (hgd : X.A.guards = some []) (hu : X.A.units + 64 < cLine) (h : EM X e me) (hg : Gl X "repr") (hm : X.mg "repr" = none) (hb : bootBuiltins "repr" = some (.builtin "repr") := by decide +kernel) (hs : starEach [e] X.env = (false, eval e X.env) :: starEach [] X.env := by rfl) (hpl : (backTo pos (starEach [] X.env)).any (·.1) = false := by rfl) :
    EM X (.Call (.Name "repr" p) [e] [] pos) (mB1 gReprA me) :=
  PE.of (pe_callB (cr_reprA hgd hu) hg hm hb (b1 h hs) (by decide) (by decide) hs hpl) fun σ H Q ⟨g, w, o, ρ, S, d, S', s, hm, q⟩ => by
    obtain ⟨d1, S1, h1, h2⟩ := R.bind_ok hm
    refine ⟨g, w, o, ρ, S, d1, S1, s, h1, fun v g1 H1 x1 s1 r1 => ?_⟩
    unfold gReprA at h2
    split at h2
    · rename_i n
      split at h2
      · rename_i hn
        cases h2
        obtain ⟨a, rfl, hg1⟩ := r1
        obtain ⟨kvs, hH, rk⟩ := s1.cel n _ a hn hg1
        cases rk
        exact .inr ⟨a, rfl, hH, q _ g1 H1 x1 s1 rfl⟩
      · cases h2
    · unfold gReprV at h2
      split at h2
      · rename_i pd hp
        split at h2
        · rename_i hok
          cases h2
          exact .inl ⟨v, pd, rfl, RelD.dp _ _ _ r1 hp, toP_noDict _ _ hp, hok, q _ g1 H1 x1 s1 rfl⟩
        · cases h2
      · cases h2
end
@[simp] theorem hStrI_eq (i : Int) (S : Store) : hStrI [.int i] S = if b62 i = true then .ok (.str (toString i)) S else .bad := rfl
@[simp] theorem gReprA_loc (n : Nat) (S : Store) : gReprA (.loc n) S = (match S[n]? with
  | some (.dK []) => .ok (.str "{}") S
  | _ => .bad) := rfl
@[simp] theorem gReprA_tup (l : List D) (S : Store) : gReprA (.tup l) S = gReprV (.tup l) S := rfl
@[simp] theorem gReprA_lst (l : List D) (S : Store) : gReprA (.lst l) S = gReprV (.lst l) S := rfl
@[simp] theorem gReprA_non (S : Store) : gReprA .non S = gReprV .non S := rfl
@[simp] theorem gReprA_bl (k : Bool) (S : Store) : gReprA (.bl k) S = gReprV (.bl k) S := rfl
@[simp] theorem gReprA_int (i : Int) (S : Store) : gReprA (.int i) S = gReprV (.int i) S := rfl
@[simp] theorem gReprA_str (i : Str) (S : Store) : gReprA (.str i) S = gReprV (.str i) S := rfl
end Mo
set_option maxRecDepth 100000
set_option maxHeartbeats 1000000
/-! Mo: t[::-1] of a tuple. -/
namespace Mo
open PySem PySem.Spec PyProof.Rows L2 HT
section
variable {prog : Program} {w : World} {A : Around} {E : Value → Shared → Prop} {s : Shared}
theorem adjust_back (n : Nat) : Builtin.Slice.sliceAdjust none none (-1) (n : Int) = ((n : Int) - 1, -1) := rfl
theorem places_back (n : Nat) : Builtin.Slice.slicePlaces ((n : Int) - 1) (-1) (-1) = n := by
  have h1 : ¬ ((-1 : Int) > 0) := by decide
  unfold Builtin.Slice.slicePlaces
  rw [if_neg h1]
  by_cases c : n = 0
  · subst c; rfl
  · rw [if_pos (by omega), Int.neg_neg, Int.ediv_one]; omega
theorem applied_back {sl : Addr} {vs : Value} {n : Nat} {Q : Int × Int × Nat → Shared → Prop} (hs : s.heap.IsSliceOf sl .none .none vs) (pk : IsPart vs (some (-1))) (h : Q ((n : Int) - 1, -1, n) s) : wpAny (model prog w) A (Builtin.Slice.sliceApplied (.ref sl) (pure (n : Int))) Q E s := by
  obtain ⟨os, hos, _, hds⟩ := hs
  unfold Builtin.Slice.sliceApplied Builtin.Slice.sliceFields
  refine wpAny_bind (wpAny_bind (wpAny_field hos hds (x := .none) rfl (wpAny_bind (wpAny_field hos hds (x := .none) rfl (wpAny_bind (wpAny_field hos hds (x := vs) rfl (wpAny_pure ?_)))))))
  refine wpAny_bind (slicePart_ pk ?_)
  show wpAny _ _ (if ((-1 : Int) == 0) = true then _ else _) _ _ s
  rw [if_neg (by decide)]; refine wpAny_bind (slicePart_none (wpAny_bind (slicePart_none (wpAny_bind (wpAny_pure ?_)))))
  show wpAny _ _ (match Builtin.Slice.sliceAdjust none none (-1) (n : Int) with | (lo, hi) => pure (lo, (-1 : Int), Builtin.Slice.slicePlaces lo hi (-1))) _ _ s
  rw [adjust_back]
  show wpAny _ _ (pure ((n : Int) - 1, (-1 : Int), Builtin.Slice.slicePlaces ((n : Int) - 1) (-1) (-1))) _ _ s
  rw [places_back]; exact wpAny_pure h
theorem fm_congr {α β : Type} {f g : α → Option β} : ∀ {l : List α}, (∀ x ∈ l, f x = g x) → l.filterMap f = l.filterMap g
  | [], _ => rfl
  | x :: l, h => by rw [List.filterMap_cons, List.filterMap_cons, h x List.mem_cons_self, fm_congr fun y hy => h y (List.mem_cons_of_mem _ hy)]
theorem pick_back (xs : Array Value) : ((List.range xs.size).filterMap fun (k : Nat) => xs[((xs.size : Int) - 1 + (k : Int) * (-1)).toNat]?) = xs.toList.reverse := by
  have e : ((List.range xs.size).filterMap fun (k : Nat) => xs[((xs.size : Int) - 1 + (k : Int) * (-1)).toNat]?) = (((List.range xs.size).map fun k => xs.size - 1 - k).filterMap (xs[·]?)) := by
    rw [List.filterMap_map]
    refine fm_congr fun k hk => ?_
    have : ((xs.size : Int) - 1 + (k : Int) * (-1)).toNat = xs.size - 1 - k := by have := List.mem_range.mp hk; omega
    show xs[((xs.size : Int) - 1 + (k : Int) * (-1)).toNat]? = xs[xs.size - 1 - k]?
    rw [this]
  rw [e, PySem.W.krv_range, List.filterMap_reverse, PySem.W.krv_all]
theorem item_back {t sl : Addr} {items : Array Value} {vs : Value} {Q : Value → Shared → Prop} (ht : IsTup s.heap t items) (hs : s.heap.IsSliceOf sl .none .none vs) (pk : IsPart vs (some (-1)))
    (h : Q (.ref s.heap.objs.size) { s with heap := s.heap.push { cls := .type "tuple", data := .seq items.toList.reverse.toArray } }) (hsz : items.size ≤ sizeLine) : wpAny (model prog w) A (getItem (.ref t) (.ref sl)) Q E s := by
  have hz : sizeOk (.seq items.toList.reverse.toArray) := (by rw [List.size_toArray, List.length_reverse, Array.length_toList]; exact hsz : items.toList.reverse.toArray.size ≤ sizeLine)
  obtain ⟨os, hos, hcs, _⟩ := id hs
  have hT : s.TypeIs (.ref sl) "slice" := ⟨os, hos, hcs⟩
  unfold getItem; (try with_reducible refine wpAny_holding ?_); (first | refine wpAny_bind (wpAny_pure ?_) | skip)
  refine wpAny_bind (wpAny_sequenceKey ht.typeIs (by decide) (wpAny_bind (wpAny_callSpecial?_slot (name := Str.ofString "__getitem__") ht.typeIs PyProof.Rows.slot_tuple_getitem (wpAny_call_entry PyProof.Rows.slot_tuple_getitem ht.typeIs entry_tuple_getitem ?_ (args_tuple_getitem _ _)))))
  show wpAny _ _ (Builtin.Tuple.tupleItemsOf (.ref t) >>= _) _ _ s; refine wpAny_bind (tupleItemsOf_ ht (wpAny_bind (wpAny_typeOf hT ?_)))
  rw [if_pos (by decide)]; refine wpAny_bind (applied_back hs pk ?_)
  have no : ¬ ((((items.size : Int) - 1) == 0 && (-1 : Int) == 1 && items.size == items.size) = true) := by simp
  show wpAny _ _ (if (((items.size : Int) - 1) == 0 && (-1 : Int) == 1 && items.size == items.size) = true then _ else _) _ _ s
  rw [if_neg no, pick_back]
  first
    | exact wpAny_bind (m := Builtin.Tuple.tupleExact _) (wpAny_newObj_type (wpAny_pure ⟨_, rfl, wpAny_pure h⟩) hz)
    | exact wpAny_bind (m := Builtin.Tuple.tupleExact _) (wpAny_newObj_type (wpAny_bind (wpAny_pure (wpAny_pure ⟨_, rfl, wpAny_pure h⟩))) hz)
    | exact wpAny_bind (wpAny_bind (m := Builtin.Tuple.tupleExact _) (wpAny_newObj_type (wpAny_pure (wpAny_pure ⟨_, rfl, wpAny_pure h⟩)) hz))
    | exact wpAny_bind (wpAny_bind (m := Builtin.Tuple.tupleExact _) (wpAny_newObj_type (wpAny_pure ⟨_, rfl, wpAny_pure h⟩) hz))
end
section
variable {X : Cx}
def rRevT (K : PySem.W.Frag) : V → Hp → VK → Prop := fun x H Q => ∃ a xs, x = .ref a ∧ SqT K H a xs ∧ ∀ p, H p = none → Q (.ref p) (upd H p (.tup xs.reverse))
theorem pe_revT {e ste : Expr} {te : TE} {ts : TO} {pos p2 : Pos} (he : PE X e te) (hs : PO X (some ste) ts) : PE X (.Subscript e (.Slice none none (some ste) p2) pos) (fun σ H Q => te σ H fun x H1 => ts σ H1 fun k H2 => k = some (-1) ∧ rRevT X.K x H2 Q) := by
  refine ⟨fun pins s σ H Q I h => Subscript_ (thn (he.run pins s σ H _ I h) fun v s1 ⟨x, H1, I1, r1, q1⟩ => wpAny_Slice ?_)⟩
  rw [evalPart_none]
  refine wpAny_pure (wpAny_pure (thn (hs.run pins s1 σ H1 _ I1 q1) fun vs s3 ⟨k, H3, I3, pk, ek, a, xs, ex, hx, q⟩ => ?_))
  subst ek; subst ex
  have I4 : Inv X pins σ H3 { s3 with heap := s3.heap.push { cls := .type "slice", data := .fields #[.none, .none, vs] } } := I3.kept (t' := s3.toks) fun b ob q => Heap.get?_push_of_some _ q
  cases r1
  obtain ⟨its, r, ht, hz⟩ := I4.tuple hx
  have hlen := r.length
  have hg : wpAny (model X.prog X.w) X.A (getItem (.ref a) (.ref s3.heap.objs.size)) (EP X pins σ Q) X.xe { s3 with heap := s3.heap.push { cls := .type "slice", data := .fields #[.none, .none, vs] } } := by
    refine item_back ht (Heap.IsSliceOf.new ..) pk ?_ (by rw [List.size_toArray]; omega)
    refine ⟨.ref _, _, I4.laid (t' := s3.toks) (o := .tup xs.reverse) (fun b ob q => Heap.get?_push_of_some _ q) (Nat.le_refl _) ?_, rfl, q _ (I4.hok.fresh (Nat.le_refl _))⟩
    exact ⟨by rw [List.length_reverse]; exact hz, _, vals_reverse r, _, Heap.get?_push_size _ rfl, rfl, 0, rfl⟩
  show wpAny (model X.prog X.w) X.A (subscriptTail e (.Slice none none (some ste) p2) (.ref a) (.ref s3.heap.objs.size)) (EP X pins σ Q) X.xe { s3 with heap := s3.heap.push { cls := .type "slice", data := .fields #[.none, .none, vs] } }
  exact tail_any (ops := [.ref a, .ref s3.heap.objs.size]) ht.typeIs slot_tuple_getitem.lookup hg (by with_unfolding_all rfl)
/-- t[::-1] of a tuple -/
def mRevT (me : ME) (mo : MO) : ME := fun ρ S => (me ρ S).bind fun d S1 => (mo ρ S1).bind fun k S2 => match d with
  | .tup l => if k = some (-1) then .ok (.tup l.reverse) S2 else .bad
  | _ => .bad
theorem em_revT {e ste : Expr} {me : ME} {mo : MO} {pos p2 : Pos} (he : EM X e me) (hs : OM X (some ste) mo) : EM X (.Subscript e (.Slice none none (some ste) p2) pos) (mRevT me mo) := PE.of (pe_revT he hs) fun σ H Q ⟨g, w, o, ρ, S, d, S', s, hm, q⟩ => by
  obtain ⟨d1, S1, h1, hm⟩ := R.bind_ok hm
  obtain ⟨k1, S2, h2, hm⟩ := R.bind_ok hm
  split at hm
  · rename_i l
    split at hm
    · rename_i hk
      cases hm
      refine ⟨g, w, o, ρ, S, _, S1, s, h1, fun v g1 H1 x1 s1 r1 => ?_⟩
      have t1 := s.ext x1 s1
      refine ⟨g1, w, o, ρ, S1, _, _, t1, h2, fun g2 H2 x2 s2 => ⟨hk, ?_⟩⟩
      obtain ⟨a, vs, ev, hq, r⟩ := RelD.ext x2 _ _ r1
      exact ⟨a, vs, ev, hq, fun t ht => q _ g2 _ ((x1.trans x2).trans (.new ht)) (s2.new ht) ⟨t, _, rfl, .inl (.inl upd_same), RelDs.ext (.new ht) _ _ (RelDs.rev r)⟩⟩
    · cases hm
  · cases hm
@[simp] theorem mRevT_eq (me : ME) (mo : MO) (ρ : MEnv) (S : Store) : mRevT me mo ρ S = (me ρ S).bind fun d S1 => (mo ρ S1).bind fun k S2 => (match d with
  | .tup l => if k = some (-1) then .ok (.tup l.reverse) S2 else .bad
  | _ => .bad) := rfl
end
end Mo
set_option maxRecDepth 100000
set_option maxHeartbeats 1000000
/-! Mo: sums, orders of numbers, types told. -/
namespace Mo
open PySem L2
theorem intsD_map : ∀ ns : List Int, intsD (ns.map .int) = some ns
  | [] => rfl
  | n :: ns => by rw [List.map_cons, intsD, intsD_map ns]; rfl
theorem blsD_map : ∀ ns : List Bool, blsD (ns.map .bl) = some ns
  | [] => rfl
  | n :: ns => by rw [List.map_cons, blsD, blsD_map ns]; rfl
theorem hSum_ints (ns : List Int) (S : Store) : hSum (ns.map .int) S = .ok (.int ns.sum) S := by unfold hSum; rw [intsD_map]
theorem hAll_bls (bs : List Bool) (S : Store) : hAll (bs.map .bl) S = .ok (.bl (bs.all id)) S := by unfold hAll; rw [blsD_map]
/-- numbers from 0 -/
def dN' (n : Nat) : D := .int (n : Int)
theorem map_nat (ns : List Nat) : ns.map (fun n : Nat => D.int (n : Int)) = (ns.map (fun n : Nat => (n : Int))).map .int := by rw [List.map_map]; rfl
theorem sum_nat : ∀ ns : List Nat, (ns.map (fun n : Nat => (n : Int))).sum = ((ns.sum : Nat) : Int)
  | [] => rfl
  | n :: ns => by rw [List.map_cons, List.sum_cons, List.sum_cons, sum_nat ns, Int.natCast_add]
theorem hSum_nat (ns : List Nat) (S : Store) : hSum (ns.map fun n : Nat => D.int (n : Int)) S = .ok (.int ((ns.sum : Nat) : Int)) S := by rw [map_nat, hSum_ints, sum_nat]
/-- isinstance, told -/
theorem k_int_int : kitB "int" "int" = some true := by decide +kernel
theorem k_int_bool : kitB "int" "bool" = some false := by decide +kernel
theorem k_int_tuple : kitB "int" "tuple" = some false := by decide +kernel
theorem k_int_str : kitB "int" "str" = some false := by decide +kernel
theorem k_bool_int : kitB "bool" "int" = some true := by decide +kernel
theorem k_bool_bool : kitB "bool" "bool" = some true := by decide +kernel
theorem k_bool_tuple : kitB "bool" "tuple" = some false := by decide +kernel
theorem k_bool_str : kitB "bool" "str" = some false := by decide +kernel
theorem k_str_int : kitB "str" "int" = some false := by decide +kernel
theorem k_str_bool : kitB "str" "bool" = some false := by decide +kernel
theorem k_str_tuple : kitB "str" "tuple" = some false := by decide +kernel
theorem k_str_str : kitB "str" "str" = some true := by decide +kernel
theorem k_non_int : kitB "NoneType" "int" = some false := by decide +kernel
theorem k_non_bool : kitB "NoneType" "bool" = some false := by decide +kernel
theorem k_non_tuple : kitB "NoneType" "tuple" = some false := by decide +kernel
theorem k_non_str : kitB "NoneType" "str" = some false := by decide +kernel
theorem k_tup_int : kitB "tuple" "int" = some false := by decide +kernel
theorem k_tup_bool : kitB "tuple" "bool" = some false := by decide +kernel
theorem k_tup_tuple : kitB "tuple" "tuple" = some true := by decide +kernel
theorem k_tup_str : kitB "tuple" "str" = some false := by decide +kernel
theorem k_lst_int : kitB "list" "int" = some false := by decide +kernel
theorem k_lst_bool : kitB "list" "bool" = some false := by decide +kernel
theorem k_lst_tuple : kitB "list" "tuple" = some false := by decide +kernel
theorem k_lst_str : kitB "list" "str" = some false := by decide +kernel
theorem k_dct_int : kitB "dict" "int" = some false := by decide +kernel
theorem k_dct_bool : kitB "dict" "bool" = some false := by decide +kernel
theorem k_dct_tuple : kitB "dict" "tuple" = some false := by decide +kernel
theorem k_dct_str : kitB "dict" "str" = some false := by decide +kernel
/-- what isinstance tells, by kinds -/
def isTy : D → String → Bool
  | .int _, t => t == "int"
  | .bl _, t => t == "int" || t == "bool"
  | .str _, t => t == "str"
  | .tup _, t => t == "tuple"
  | _, _ => false
def tyKnown : D → Store → Bool
  | .raw _, _ => false
  | .scr _, _ => false
  | .loc n, S => match S[n]? with
    | some (.dT _) => false
    | some _ => true
    | none => false
  | _, _ => true
theorem hIsi_of (d : D) (t : String) (S : Store) (ht : t = "int" ∨ t = "bool" ∨ t = "tuple" ∨ t = "str") (h : tyKnown d S = true) : hIsi [d, .raw (.ty t)] S = .ok (.bl (isTy d t)) S := by
  unfold hIsi
  dsimp only
  have go : ∀ a : String, tyD d S = some a → kitB a t = some (isTy d t) → (match tyD d S with
    | some t_1 => match kitB t_1 t with
      | some b => R.ok (D.bl b) S
      | none => R.bad
    | none => R.bad) = R.ok (D.bl (isTy d t)) S := fun a h1 h2 => by rw [h1]; dsimp only; rw [h2]
  cases d with
  | non => refine go "NoneType" rfl ?_; rcases ht with rfl | rfl | rfl | rfl <;> first | exact k_non_int | exact k_non_bool | exact k_non_tuple | exact k_non_str
  | bl x => refine go "bool" rfl ?_; rcases ht with rfl | rfl | rfl | rfl <;> first | exact k_bool_int | exact k_bool_bool | exact k_bool_tuple | exact k_bool_str
  | int x => refine go "int" rfl ?_; rcases ht with rfl | rfl | rfl | rfl <;> first | exact k_int_int | exact k_int_bool | exact k_int_tuple | exact k_int_str
  | str x => refine go "str" rfl ?_; rcases ht with rfl | rfl | rfl | rfl <;> first | exact k_str_int | exact k_str_bool | exact k_str_tuple | exact k_str_str
  | tup x => refine go "tuple" rfl ?_; rcases ht with rfl | rfl | rfl | rfl <;> first | exact k_tup_int | exact k_tup_bool | exact k_tup_tuple | exact k_tup_str
  | lst x => refine go "list" rfl ?_; rcases ht with rfl | rfl | rfl | rfl <;> first | exact k_lst_int | exact k_lst_bool | exact k_lst_tuple | exact k_lst_str
  | raw x => cases h
  | scr x => cases h
  | loc n =>
    cases e : S[n]? with
    | none => simp only [tyKnown, e] at h; cases h
    | some c =>
      cases c with
      | lst x => refine go "list" (by simp only [tyD, e]) ?_; rcases ht with rfl | rfl | rfl | rfl <;> first | exact k_lst_int | exact k_lst_bool | exact k_lst_tuple | exact k_lst_str
      | dK x => refine go "dict" (by simp only [tyD, e]) ?_; rcases ht with rfl | rfl | rfl | rfl <;> first | exact k_dct_int | exact k_dct_bool | exact k_dct_tuple | exact k_dct_str
      | dT x => simp only [tyKnown, e] at h; cases h
      | dF x => refine go "dict" (by simp only [tyD, e]) ?_; rcases ht with rfl | rfl | rfl | rfl <;> first | exact k_dct_int | exact k_dct_bool | exact k_dct_tuple | exact k_dct_str
/-- sorted numbers -/
def leI (i j : Int) : Bool := decide (i ≤ j)
def ordI (b : Bool) (i j : Int) : Bool := if b then decide (j ≤ i) else decide (i ≤ j)
theorem dataLe_int (b : Bool) (i j : Int) : PySem.W.dataLe b encD (.int i) (.int j) = ordI b i j := by
  cases b with
  | false =>
    show (!PySem.W.dataLt (.int j) (.int i)) = _
    rw [PySem.W.dataLt_int]
    simp [ordI, ← decide_not]
  | true =>
    show (!PySem.W.dataLt (.int i) (.int j)) = _
    rw [PySem.W.dataLt_int]
    simp [ordI, ← decide_not]
theorem sortDR_int (b : Bool) (ns : List Int) : sortDR b (ns.map .int) = (ns.mergeSort (ordI b)).map .int := by
  unfold sortDR
  exact (List.map_mergeSort (r := ordI b) (s := PySem.W.dataLe b encD) (f := D.int) (fun i _ j _ => (dataLe_int b i j).symm)).symm
theorem toPs_ints (ns : List Int) : toPs (ns.map .int) = some (ns.map .int) := toPs_map (g := PyData.int) (fun _ => rfl) ns
theorem depth_ints : ∀ ns : List Int, PyData.depthAll (ns.map PyData.int) ≤ 1
  | [] => by simp [PyData.depthAll]
  | n :: ns => by have := depth_ints ns; simp [PyData.depthAll, PyData.depth]; exact this
theorem hSortedB_int (b : Bool) (ns : List Int) (S : Store) : hSortedB b (ns.map .int) S = .ok ((ns.mergeSort (ordI b)).map .int) S := by
  unfold hSortedB
  rw [toPs_ints]
  dsimp only
  rw [if_pos, sortDR_int]
  refine ⟨?_, ?_, ?_⟩
  · simp [List.all_eq_true, PySem.W.alike]
  · simp [sortableB]
  · have := depth_ints ns; omega
/-- numbers sorted one by one -/
def insI (b : Bool) (x : Int) : List Int → List Int
  | [] => [x]
  | y :: ys => if ordI b x y = true then x :: y :: ys else y :: insI b x ys
def isI (b : Bool) : List Int → List Int
  | [] => []
  | x :: xs => insI b x (isI b xs)
theorem insI_perm (b : Bool) (x : Int) : ∀ ys, (insI b x ys).Perm (x :: ys)
  | [] => .refl _
  | y :: ys => by
    unfold insI
    split
    · exact .refl _
    · exact ((insI_perm b x ys).cons y).trans (.swap x y ys)
theorem isI_perm (b : Bool) : ∀ ys, (isI b ys).Perm ys
  | [] => .refl _
  | y :: ys => (insI_perm b y _).trans ((isI_perm b ys).cons y)
theorem ordI_trans {b : Bool} {x y z : Int} (h1 : ordI b x y = true) (h2 : ordI b y z = true) : ordI b x z = true := by
  cases b <;> simp [ordI] at * <;> omega
theorem ordI_total (b : Bool) (x y : Int) : ordI b x y = true ∨ ordI b y x = true := by
  cases b <;> simp [ordI] <;> omega
theorem ordI_anti {b : Bool} {x y : Int} (h1 : ordI b x y = true) (h2 : ordI b y x = true) : x = y := by
  cases b <;> simp [ordI] at * <;> omega
theorem insI_ord (b : Bool) (x : Int) : ∀ ys, ys.Pairwise (fun i j => ordI b i j = true) → (insI b x ys).Pairwise fun i j => ordI b i j = true
  | [], _ => by simp [insI]
  | y :: ys, h => by
    rw [List.pairwise_cons] at h
    unfold insI
    split
    · rename_i hxy
      refine List.pairwise_cons.mpr ⟨fun z hz => ?_, List.pairwise_cons.mpr h⟩
      rcases List.mem_cons.mp hz with e | hz
      · rw [e]; exact hxy
      · exact ordI_trans hxy (h.1 z hz)
    · rename_i hxy
      refine List.pairwise_cons.mpr ⟨fun z hz => ?_, insI_ord b x ys h.2⟩
      rcases List.mem_cons.mp ((insI_perm b x ys).mem_iff.mp hz) with e | hz
      · rw [e]; exact (ordI_total b x y).resolve_left hxy
      · exact h.1 z hz
theorem isI_ord (b : Bool) : ∀ ys, (isI b ys).Pairwise fun i j => ordI b i j = true
  | [] => .nil
  | y :: ys => insI_ord b y _ (isI_ord b ys)
theorem perm_ord {b : Bool} : ∀ {xs ys : List Int}, xs.Perm ys → (xs.Pairwise fun i j => ordI b i j = true) → (ys.Pairwise fun i j => ordI b i j = true) → xs = ys
  | [], ys, h, _, _ => (List.perm_nil.mp h.symm).symm
  | x :: xs, [], h, _, _ => nomatch h.length_eq
  | x :: xs, y :: ys, h, hx, hy => by
    rw [List.pairwise_cons] at hx hy
    have e : x = y := by
      have h1 : x ∈ y :: ys := h.mem_iff.mp List.mem_cons_self
      have h2 : y ∈ x :: xs := h.mem_iff.mpr List.mem_cons_self
      rcases List.mem_cons.mp h1 with q | q
      · exact q
      · rcases List.mem_cons.mp h2 with q2 | q2
        · exact q2.symm
        · exact ordI_anti (hx.1 y q2) (hy.1 x q)
    subst e
    rw [perm_ord (List.Perm.cons_inv h) hx.2 hy.2]
theorem merge_is (b : Bool) (ns : List Int) : ns.mergeSort (ordI b) = isI b ns := by
  refine perm_ord (b := b) ((List.mergeSort_perm ns (ordI b)).trans (isI_perm b ns).symm) ?_ (isI_ord b ns)
  exact List.pairwise_mergeSort (le := ordI b) (fun x y z h1 h2 => ordI_trans h1 h2) (fun x y => Bool.or_eq_true_iff.mpr (ordI_total b x y)) ns
theorem sorted_int (b : Bool) (ns : List Int) (S : Store) : hSortedB b (ns.map .int) S = .ok ((isI b ns).map .int) S := by rw [hSortedB_int, merge_is]
/-- .. from 0 -/
def ordN (b : Bool) (i j : Nat) : Bool := if b then Nat.ble j i else Nat.ble i j
def insN (b : Bool) (x : Nat) : List Nat → List Nat
  | [] => [x]
  | y :: ys => if ordN b x y = true then x :: y :: ys else y :: insN b x ys
def isN (b : Bool) : List Nat → List Nat
  | [] => []
  | x :: xs => insN b x (isN b xs)
theorem ordN_eq (b : Bool) (i j : Nat) : ordN b i j = ordI b (i : Int) (j : Int) := by
  rw [Bool.eq_iff_iff]
  cases b <;> simp [ordN, ordI, Nat.ble_eq]
theorem insN_eq (b : Bool) (x : Nat) : ∀ ys, (insN b x ys).map (fun n : Nat => (n : Int)) = insI b x (ys.map fun n : Nat => (n : Int))
  | [] => rfl
  | y :: ys => by
    rw [List.map_cons, insN, insI, ordN_eq]
    split
    · rfl
    · rw [List.map_cons, insN_eq b x ys]
theorem isN_eq (b : Bool) : ∀ ys, (isN b ys).map (fun n : Nat => (n : Int)) = isI b (ys.map fun n : Nat => (n : Int))
  | [] => rfl
  | y :: ys => by rw [List.map_cons, isN, insN_eq, isN_eq b ys]; rfl
theorem sorted_nat (b : Bool) (ns : List Nat) (S : Store) : hSortedB b (ns.map fun n : Nat => D.int (n : Int)) S = .ok ((isN b ns).map fun n : Nat => D.int (n : Int)) S := by
  rw [map_nat, sorted_int, ← isN_eq, ← map_nat]
theorem insN_len (b : Bool) (x : Nat) : ∀ ys, (insN b x ys).length = ys.length + 1
  | [] => rfl
  | y :: ys => by rw [insN]; split <;> simp [insN_len b x ys]
theorem isN_len (b : Bool) : ∀ ys, (isN b ys).length = ys.length
  | [] => rfl
  | y :: ys => by rw [isN, insN_len, isN_len b ys, List.length_cons]
end Mo
namespace Mo
open PySem L2
theorem sub_nat {a b c : Int} (S : Store) (h : a - b = c) : gSubI (.int a) (.int b) S = .ok (.int c) S := by rw [← h]; rfl
theorem add_nat {a b c : Int} (S : Store) (h : a + b = c) : gAddI (.int a) (.int b) S = .ok (.int c) S := by rw [← h]; rfl
theorem range_nat (n : Nat) : rangeD 0 (n : Int) = (List.range n).map fun k : Nat => D.int (0 + (k : Nat)) := by unfold rangeD; rw [Int.sub_zero, Int.toNat_natCast]
end Mo
namespace Mo
open PySem L2
theorem iRange1_nat {l : MA} {ρ : MEnv} {S S1 : Store} {n : Nat} (h : l ρ S = .ok [.int (n : Int)] S1) (hn : n < 2 ^ 60) : iRg1 l ρ S = .ok ((List.range n).map fun k : Nat => D.int (0 + (k : Nat))) S1 := by
  unfold iRg1
  rw [h, bind_ok_eq, ← range_nat]
  exact if_pos ((b62_iff _).mpr ⟨by omega, by omega⟩)
theorem iRange1_lit {l : MA} {ρ : MEnv} {S S1 : Store} {j : Int} (n : Nat) (h : l ρ S = .ok [.int j] S1) (e : j = (n : Int)) (hn : n < 2 ^ 60) : iRg1 l ρ S = .ok ((List.range n).map fun k : Nat => D.int (0 + (k : Nat))) S1 := by
  subst e
  exact iRange1_nat h hn
end Mo
namespace Mo
open PySem L2
theorem mem_le_sum : ∀ {s : List Nat} {x : Nat}, x ∈ s → x ≤ s.sum
  | [], _, h => nomatch h
  | y :: s, x, h => by
    rw [List.sum_cons]
    rcases List.mem_cons.mp h with e | h
    · omega
    · have := mem_le_sum h; omega
theorem insN_sum (b : Bool) (x : Nat) : ∀ ys, (insN b x ys).sum = x + ys.sum
  | [] => by simp [insN]
  | y :: ys => by
    rw [insN]
    split
    · rw [List.sum_cons]
    · rw [List.sum_cons, insN_sum b x ys, List.sum_cons]; omega
theorem isN_sum (b : Bool) : ∀ ys, (isN b ys).sum = ys.sum
  | [] => rfl
  | y :: ys => by rw [isN, insN_sum, isN_sum b ys, List.sum_cons]
theorem take_sum_le (n : Nat) (s : List Nat) : (s.take n).sum ≤ s.sum := by
  have h3 := congrArg List.sum (List.take_append_drop n s)
  rw [List.sum_append] at h3
  omega
theorem mul_of {i j k : Int} (S : Store) (c : cMul i j) (e : i * j = k) : gMulI (.int i) (.int j) S = .ok (.int k) S := by
  unfold gMulI
  rw [gI_eq, if_pos c, e]
theorem gt_of {i j : Int} {k : Bool} (S : Store) (e : decide (j < i) = k) : gGt (.int i) (.int j) S = .ok (.bl k) S := by rw [← e]; rfl
theorem lt_of {i j : Int} {k : Bool} (S : Store) (e : decide (i < j) = k) : gLt (.int i) (.int j) S = .ok (.bl k) S := by rw [← e]; rfl
theorem ge_of {i j : Int} {k : Bool} (S : Store) (e : decide (j ≤ i) = k) : gGe (.int i) (.int j) S = .ok (.bl k) S := by rw [← e]; rfl
theorem le_of {i j : Int} {k : Bool} (S : Store) (e : decide (i ≤ j) = k) : gLe (.int i) (.int j) S = .ok (.bl k) S := by rw [← e]; rfl
end Mo
namespace Mo
open PySem L2
theorem gRep_nat (l : List D) (h : Nat) (S : Store) (hl : l.length * h ≤ 1000000) (hh : h < 2 ^ 60) : gRp (.lst l) (.int (h : Int)) S = .ok (List.replicate h l).flatten S := by
  have e : (List.replicate h l).flatten = (List.replicate (h : Int).toNat l).flatten := by rw [Int.toNat_natCast]
  rw [e]
  unfold gRp
  exact if_pos ⟨(b63_iff _).mpr ⟨by omega, by omega⟩, by rw [Int.toNat_natCast]; exact small_le hl⟩
theorem flat_rep (d : D) : ∀ h : Nat, (List.replicate h [d]).flatten = List.replicate h d
  | 0 => rfl
  | h + 1 => by rw [List.replicate_succ, List.flatten_cons, flat_rep d h, List.replicate_succ]; rfl
end Mo
namespace Mo
open PySem L2
theorem catL_ok (a b : List D) (S : Store) (h : a.length + b.length ≤ 1000000) : gCatL (.lst a) (.lst b) S = .ok (a ++ b) S := by
  have e0 : gCatL (.lst a) (.lst b) S = if a.length + b.length ≤ sizeLine then .ok (a ++ b) S else .bad := rfl
  rw [e0, if_pos (small_le h)]
theorem catT_ok (a b : List D) (S : Store) (h : a.length + b.length ≤ 1000000) : gCatT (.tup a) (.tup b) S = .ok (.tup (a ++ b)) S := by
  have e0 : gCatT (.tup a) (.tup b) S = if a.length + b.length ≤ sizeLine then .ok (.tup (a ++ b)) S else .bad := rfl
  rw [e0, if_pos (small_le h)]
end Mo
set_option maxRecDepth 100000
set_option maxHeartbeats 1000000
/-! Mo: plain data: numbers below 2 ^ 64, truths, None, lists and tuples of such; what repr, ==, in tell of them. -/
namespace Mo
open PySem L2
mutual
def niceD : D → Bool
  | .non => true
  | .bl _ => true
  | .int i => decide (i.natAbs.log2 < 64)
  | .tup l => niceDs l
  | .lst l => niceDs l
  | _ => false
def niceDs : List D → Bool
  | [] => true
  | d :: ds => niceD d && niceDs ds
end
mutual
def nodesD : D → Nat
  | .tup l => 1 + nodesDs l
  | .lst l => 1 + nodesDs l
  | _ => 1
def nodesDs : List D → Nat
  | [] => 0
  | d :: ds => nodesD d + nodesDs ds
end
mutual
def depthD : D → Nat
  | .tup l => depthDs l + 1
  | .lst l => depthDs l + 1
  | _ => 0
def depthDs : List D → Nat
  | [] => 0
  | d :: ds => max (depthD d) (depthDs ds)
end
mutual
def plainP : D → PyData
  | .non => .none
  | .bl b => .bool b
  | .int i => .int i
  | .tup l => .tuple (plainPs l)
  | .lst l => .list (plainPs l)
  | _ => .none
def plainPs : List D → List PyData
  | [] => []
  | d :: ds => plainP d :: plainPs ds
end
mutual
theorem plain_toP : ∀ d : D, niceD d = true → toP d = some (plainP d)
  | .non, _ => rfl
  | .bl _, _ => rfl
  | .int _, _ => rfl
  | .tup l, h => by rw [niceD] at h; rw [toP, plain_toPs l h]; rfl
  | .lst l, h => by rw [niceD] at h; rw [toP, plain_toPs l h]; rfl
  | .str _, h => by cases h
  | .loc _, h => by cases h
  | .raw _, h => by cases h
  | .scr _, h => by cases h
theorem plain_toPs : ∀ l : List D, niceDs l = true → toPs l = some (plainPs l)
  | [], _ => rfl
  | d :: ds, h => by
    rw [niceDs, Bool.and_eq_true] at h
    rw [toPs, plain_toP d h.1, plain_toPs ds h.2]; rfl
end
mutual
theorem plain_nums : ∀ d : D, niceD d = true → nums (plainP d) = true ∧ (plainP d).canLay0 = true ∧ nodes (plainP d) = nodesD d
  | .non, _ => ⟨rfl, rfl, rfl⟩
  | .bl _, _ => ⟨rfl, rfl, rfl⟩
  | .int _, h => by rw [niceD] at h; refine ⟨?_, rfl, rfl⟩; rw [plainP, nums]; exact h
  | .tup l, h => by
    rw [niceD] at h
    obtain ⟨a, b, c⟩ := plain_numss l h
    exact ⟨by rw [plainP, nums]; exact a, by rw [plainP, PyData.canLay0]; exact b, by rw [plainP, nodes, nodesD, c]⟩
  | .lst l, h => by
    rw [niceD] at h
    obtain ⟨a, b, c⟩ := plain_numss l h
    exact ⟨by rw [plainP, nums]; exact a, by rw [plainP, PyData.canLay0]; exact b, by rw [plainP, nodes, nodesD, c]⟩
  | .str _, h => by cases h
  | .loc _, h => by cases h
  | .raw _, h => by cases h
  | .scr _, h => by cases h
theorem plain_numss : ∀ l : List D, niceDs l = true → numsAll (plainPs l) = true ∧ PyData.canLayAll0 (plainPs l) = true ∧ nodesAll (plainPs l) = nodesDs l
  | [], _ => ⟨rfl, rfl, rfl⟩
  | d :: ds, h => by
    rw [niceDs, Bool.and_eq_true] at h
    obtain ⟨a, b, c⟩ := plain_nums d h.1
    obtain ⟨a', b', c'⟩ := plain_numss ds h.2
    exact ⟨by rw [plainPs, numsAll, a, a']; rfl, by rw [plainPs, PyData.canLayAll0, b, b']; rfl, by rw [plainPs, nodesAll, nodesDs, c, c']⟩
end
mutual
theorem plain_depth : ∀ d : D, (plainP d).depth ≤ depthD d * 4
  | .non => by simp [plainP, PyData.depth]
  | .bl _ => by simp [plainP, PyData.depth]
  | .int _ => by simp [plainP, PyData.depth]
  | .tup l => by have := plain_depths l; simp only [plainP, PyData.depth, depthD]; omega
  | .lst l => by have := plain_depths l; simp only [plainP, PyData.depth, depthD]; omega
  | .str _ => by simp [plainP, PyData.depth]
  | .loc _ => by simp [plainP, PyData.depth]
  | .raw _ => by simp [plainP, PyData.depth]
  | .scr _ => by simp [plainP, PyData.depth]
theorem plain_depths : ∀ l : List D, PyData.depthAll (plainPs l) ≤ depthDs l * 4
  | [] => by simp [plainPs, PyData.depthAll]
  | d :: ds => by
    have := plain_depth d
    have := plain_depths ds
    simp only [plainPs, PyData.depthAll, depthDs]; omega
end
/-- plain, small, shallow -/
structure NiceD (d : D) : Prop where
  n : niceD d = true
  s : nodesD d ≤ 10000
  h : depthD d ≤ 15
/-- its text -/
def rp (d : D) : Str := (plainP d).shown
theorem NiceD.ok {d : D} (h : NiceD d) : shownOk (plainP d) := by
  obtain ⟨a, b, c⟩ := plain_nums d h.n
  have := plain_depth d
  have := h.h
  exact shownOk_of a (by rw [c]; exact h.s) (by omega)
theorem NiceD.shaped {d : D} (h : NiceD d) : SeqAt.shaped (plainP d) = true := by
  obtain ⟨a, b, c⟩ := plain_nums d h.n
  have := plain_depth d
  have := h.h
  exact shaped_of b (by omega)
theorem repr_nice {d : D} (h : NiceD d) (S : Store) : gReprV d S = .ok (.str (rp d)) S := gReprV_ok (plain_toP d h.n) h.ok
theorem eqD_nice {x y : D} (hx : NiceD x) (hy : NiceD y) : eqD x y = some (PyData.eqv (plainP x) (plainP y)) := by
  unfold eqD
  rw [plain_toP x hx.n, plain_toP y hy.n]
  dsimp only
  rw [if_pos ⟨hx.shaped, hy.shaped⟩]
theorem gEqS_nice {x y : D} (hx : NiceD x) (S : Store) : gEqS x y S = .bad := by
  obtain ⟨n, _, _⟩ := hx
  cases x <;> first | rfl | (cases n; done)
theorem gNeS_nice {x y : D} (hx : NiceD x) (S : Store) : gNeS x y S = .bad := by
  obtain ⟨n, _, _⟩ := hx
  cases x <;> first | rfl | (cases n; done)
theorem eq_nice {x y : D} (hx : NiceD x) (hy : NiceD y) (S : Store) : gEqA x y S = .ok (.bl (PyData.eqv (plainP x) (plainP y))) S := by
  unfold gEqA gOr
  rw [gEqS_nice hx]
  dsimp only
  unfold gEq
  rw [eqD_nice hx hy]
theorem ne_nice {x y : D} (hx : NiceD x) (hy : NiceD y) (S : Store) : gNeA x y S = .ok (.bl (!PyData.eqv (plainP x) (plainP y))) S := by
  unfold gNeA gOr
  rw [gNeS_nice hx]
  dsimp only
  unfold gNe
  rw [eqD_nice hx hy]
theorem eqv_self {x : D} (hx : NiceD x) : PyData.eqv (plainP x) (plainP x) = true := SeqAt.eqv_refl _ (plain_nums x hx.n).2.1
/-- made of parts -/
theorem niceDs_map {α : Type} {f : α → D} : ∀ {xs : List α}, (∀ x ∈ xs, niceD (f x) = true) → niceDs (xs.map f) = true
  | [], _ => rfl
  | x :: xs, h => by rw [List.map_cons, niceDs, h x List.mem_cons_self, niceDs_map fun y hy => h y (List.mem_cons_of_mem _ hy)]; rfl
theorem nodesDs_map {α : Type} {f : α → D} {k : Nat} : ∀ {xs : List α}, (∀ x ∈ xs, nodesD (f x) ≤ k) → nodesDs (xs.map f) ≤ k * xs.length
  | [], _ => Nat.zero_le _
  | x :: xs, h => by
    have h1 := h x List.mem_cons_self
    have h2 := nodesDs_map (xs := xs) fun y hy => h y (List.mem_cons_of_mem _ hy)
    rw [List.map_cons, nodesDs, List.length_cons, Nat.mul_succ]; omega
theorem depthDs_map {α : Type} {f : α → D} {k : Nat} : ∀ {xs : List α}, (∀ x ∈ xs, depthD (f x) ≤ k) → depthDs (xs.map f) ≤ k
  | [], _ => Nat.zero_le _
  | x :: xs, h => by
    have h1 := h x List.mem_cons_self
    have h2 := depthDs_map (xs := xs) fun y hy => h y (List.mem_cons_of_mem _ hy)
    rw [List.map_cons, depthDs]; omega
theorem nodes_int (i : Int) : nodesD (.int i) = 1 := by simp [nodesD]
theorem depth_int (i : Int) : depthD (.int i) = 0 := by simp [depthD]
theorem nice_int {i : Int} (h : i.natAbs < 2 ^ 64) : niceD (.int i) = true := by rw [niceD]; exact decide_eq_true (log_lt h)
theorem NiceD.int {i : Int} (h : i.natAbs < 2 ^ 64) : NiceD (.int i) := ⟨nice_int h, by simp [nodesD], by simp [depthD]⟩
/-- the texts are texts -/
theorem ok_app (a b : Str) : PyData.strOk (a ++ b) = (PyData.strOk a && PyData.strOk b) := by
  show (a.cps ++ b.cps).all _ = _
  rw [Array.all_append]; rfl
theorem ok_of (s : String) : PyData.strOk (Str.ofString s) = true := by
  unfold PyData.strOk
  rw [Str.ofString_eq_toList]
  simp only [List.all_toArray, List.all_map, List.all_eq_true, Function.comp]
  intro c _
  have := c.valid
  have h2 : c.toNat < 0x110000 := by
    rcases c.valid with h | ⟨_, h⟩
    · exact Nat.lt_trans h (by decide)
    · exact h
  exact decide_eq_true h2
theorem ok_join : ∀ ts : List Str, (∀ t ∈ ts, PyData.strOk t = true) → PyData.strOk (Str.join ", " ts) = true
  | [], _ => by show PyData.strOk Str.empty = true; simp [PyData.strOk, Str.empty]
  | [x], h => h x (by simp)
  | x :: y :: r, h => by
    show PyData.strOk (x ++ ", " ++ Str.join ", " (y :: r)) = true
    rw [ok_app, ok_app, h x (by simp), ok_of, ok_join (y :: r) fun t ht => h t (List.mem_cons_of_mem _ ht)]; rfl
theorem ok_from : ∀ (ts : List Str) (k : Nat) (acc : Str), PyData.strOk acc = true → (∀ t ∈ ts, PyData.strOk t = true) → PyData.strOk (textFrom k acc ts) = true
  | [], _, _, h, _ => h
  | t :: ts, k, acc, h, ht => by
    refine ok_from ts (k + 1) _ ?_ fun u hu => ht u (List.mem_cons_of_mem _ hu)
    rw [ok_app, ok_app, h, ht t (by simp), ok_of]; rfl
mutual
theorem ok_shown : ∀ p : PyData, nums p = true → PyData.strOk p.shown = true
  | .none, _ => by rw [PyData.shown]; exact ok_of _
  | .bool b, _ => by rw [PyData.shown]; cases b <;> exact ok_of _
  | .int i, _ => by rw [PyData.shown]; exact ok_of _
  | .str _, h => by rw [nums] at h; cases h
  | .list xs, h => by
    rw [nums] at h
    rw [PyData.shown]
    unfold listText
    rw [ok_app, ok_from _ _ _ (ok_of _) (ok_shownAll xs h), ok_of]; rfl
  | .tuple xs, h => by
    rw [nums] at h
    rw [PyData.shown]
    unfold tupleText
    rw [ok_app, ok_app, ok_join _ (ok_shownAll xs h), ok_of, ok_of]; rfl
  | .dict _, h => by rw [nums] at h; cases h
theorem ok_shownAll : ∀ ps : List PyData, numsAll ps = true → ∀ t ∈ PyData.shownAll ps, PyData.strOk t = true
  | [], _, t, ht => by rw [PyData.shownAll] at ht; cases ht
  | p :: ps, h, t, ht => by
    rw [numsAll, Bool.and_eq_true] at h
    rw [PyData.shownAll] at ht
    rcases List.mem_cons.mp ht with e | ht
    · rw [e]; exact ok_shown p h.1
    · exact ok_shownAll ps h.2 t ht
end
theorem ok_rp {d : D} (h : niceD d = true) : PyData.strOk (rp d) = true := ok_shown _ (plain_nums d h).1
/-- a text among texts -/
theorem in_strs (neg : Bool) (x : Str) (ys : List Str) (S : Store) (hx : PyData.strOk x = true) (hy : ∀ y ∈ ys, PyData.strOk y = true) : gInA neg (.str x) (.lst (ys.map .str)) S = .ok (.bl (decide (x ∈ ys) != neg)) S := by
  have e : toPs (ys.map D.str) = some (ys.map PyData.str) := toPs_map (g := PyData.str) (fun _ => rfl) ys
  have c : ∀ zs : List Str, (∀ y ∈ zs, PyData.strOk y = true) → PyData.canLayAll0 (zs.map PyData.str) = true := by
    intro zs
    induction zs with
    | nil => intro _; rfl
    | cons z zs ih => intro h; rw [List.map_cons, PyData.canLayAll0, PyData.canLay0, h z (by simp), ih fun y hy => h y (List.mem_cons_of_mem _ hy)]; rfl
  have dd : ∀ zs : List Str, PyData.depthAll (zs.map PyData.str) ≤ 1 := by
    intro zs
    induction zs with
    | nil => simp [PyData.depthAll]
    | cons z zs ih => rw [List.map_cons]; simp only [PyData.depthAll, PyData.depth]; omega
  have s1 : SeqAt.shaped (.str x) = true := shaped_of (by rw [PyData.canLay0]; exact hx) (by simp [PyData.depth])
  have s2 : SeqAt.shaped (.list (ys.map .str)) = true := shaped_of (by rw [PyData.canLay0]; exact c ys hy) (by have := dd ys; simp only [PyData.depth]; omega)
  have a : ((ys.map PyData.str).any fun z => PyData.eqv z (.str x)) = decide (x ∈ ys) := by
    clear hy s2 e
    induction ys with
    | nil => rfl
    | cons y ys ih =>
      rw [List.map_cons, List.any_cons, ih]
      have : PyData.eqv (.str y) (.str x) = decide (y = x) := by rw [PyData.eqv, Bool.eq_iff_iff]; simp
      rw [this]
      by_cases h : y = x
      · subst h; simp
      · simp [h, Ne.symm h]
  unfold gInA
  rw [toP, toP, e]
  dsimp only [Option.map_some, seqP]
  rw [if_pos ⟨s1, s2⟩, a]
/-- parts of lists -/
theorem cutD_to (l : List D) (n : Nat) : cutD l none (some (n : Int)) = l.take n := by
  unfold cutD
  rw [HT.sIx_none, HT.sIx_nat, List.drop_zero, Nat.sub_zero]
  by_cases h : n ≤ l.length
  · rw [Nat.min_eq_left h]
  · rw [Nat.min_eq_right (by omega), List.take_of_length_le (Nat.le_refl _), List.take_of_length_le (by omega)]
theorem cutD_from (l : List D) (n : Nat) : cutD l (some (n : Int)) none = l.drop n := by
  unfold cutD
  rw [HT.sIx_none, HT.sIx_nat]
  by_cases h : n ≤ l.length
  · rw [Nat.min_eq_left h, List.take_of_length_le (by rw [List.length_drop]; omega)]
  · rw [Nat.min_eq_right (by omega), Nat.sub_self, List.take_zero, List.drop_eq_nil_of_le (by omega)]
end Mo
set_option maxRecDepth 100000
set_option maxHeartbeats 1000000
/-! Mo: what a text of numbers and tuples of such is the text of. -/
namespace Mo
open PySem L2
def cs (x : Str) : List Nat := x.cps.toList
theorem cs_app (a b : Str) : cs (a ++ b) = cs a ++ cs b := Array.toList_append
theorem cs_inj {a b : Str} (h : cs a = cs b) : a = b := by
  obtain ⟨a⟩ := a
  obtain ⟨b⟩ := b
  have : a = b := Array.toList_inj.mp h
  rw [this]
/-- what may stand behind a thing's text -/
def Stop : List Nat → Prop
  | [] => True
  | c :: _ => c = 44 ∨ c = 41 ∨ c = 93
def dg (m : Nat) : List Nat := (Nat.toDigits 10 m).map Char.toNat
theorem dg_mem {m c : Nat} (h : c ∈ dg m) : 48 ≤ c ∧ c ≤ 57 := by
  obtain ⟨ch, hch, e⟩ := List.mem_map.mp h
  have := Nat.isDigit_of_mem_toDigits (by decide) (by decide) hch
  rw [← e]
  simp only [Char.isDigit, Bool.and_eq_true, decide_eq_true_eq] at this
  exact ⟨this.1, this.2⟩
theorem dg_inj {m n : Nat} (h : dg m = dg n) : m = n := by
  have a := PySem.W.KIN.val_back m
  have b := PySem.W.KIN.val_back n
  unfold dg at h
  rw [h] at a
  omega
theorem stop_split : ∀ {a b s t : List Nat}, (∀ c ∈ a, 48 ≤ c ∧ c ≤ 57) → (∀ c ∈ b, 48 ≤ c ∧ c ≤ 57) → Stop s → Stop t → a ++ s = b ++ t → a = b ∧ s = t
  | [], [], s, t, _, _, _, _, h => ⟨rfl, h⟩
  | [], c :: b, s, t, _, hb, hs, _, h => by
    rw [List.nil_append] at h
    subst h
    have := hb c List.mem_cons_self
    rcases hs with z | z | z <;> omega
  | c :: a, [], s, t, ha, _, _, ht, h => by
    rw [List.nil_append] at h
    subst h
    have := ha c List.mem_cons_self
    rcases ht with z | z | z <;> omega
  | c :: a, d :: b, s, t, ha, hb, hs, ht, h => by
    rw [List.cons_append, List.cons_append] at h
    injection h with h1 h2
    obtain ⟨e1, e2⟩ := stop_split (fun x hx => ha x (List.mem_cons_of_mem _ hx)) (fun x hx => hb x (List.mem_cons_of_mem _ hx)) hs ht h2
    rw [h1, e1]; exact ⟨rfl, e2⟩
theorem cs_int (i : Int) : cs ((toString i : String) : Str) = if 0 ≤ i then dg i.toNat else 45 :: dg i.natAbs := by
  show (Str.ofString (toString i)).cps.toList = _
  rw [Str.ofString_eq_toList, List.toList_toArray]
  cases i with
  | ofNat m =>
    rw [if_pos (show (0 : Int) ≤ Int.ofNat m from Int.natCast_nonneg m)]
    show (Nat.repr m).toList.map Char.toNat = _
    rw [Nat.toList_repr]; rfl
  | negSucc m =>
    rw [if_neg (by omega)]
    show ("-" ++ Nat.repr (m + 1)).toList.map Char.toNat = _
    rw [String.toList_append, List.map_append, Nat.toList_repr]; rfl
theorem int_inj {i j : Int} {s t : List Nat} (hs : Stop s) (ht : Stop t) (h : cs ((toString i : String) : Str) ++ s = cs ((toString j : String) : Str) ++ t) : i = j ∧ s = t := by
  rw [cs_int, cs_int] at h
  have dm : ∀ m, ∀ c ∈ dg m, 48 ≤ c ∧ c ≤ 57 := fun m c hc => dg_mem hc
  have ne : ∀ m n s t, dg m ++ s = 45 :: dg n ++ t → Stop s → False := fun m n s t e hs => by
    cases q : dg m with
    | nil =>
      rw [q, List.nil_append] at e
      subst e
      rcases hs with z | z | z <;> omega
    | cons c l =>
      rw [q, List.cons_append, List.cons_append] at e
      injection e with e1 e2
      have := dm m c (by rw [q]; exact List.mem_cons_self)
      omega
  by_cases a : 0 ≤ i <;> by_cases b : 0 ≤ j
  · rw [if_pos a, if_pos b] at h
    obtain ⟨e1, e2⟩ := stop_split (dm _) (dm _) hs ht h
    have := dg_inj e1
    exact ⟨by omega, e2⟩
  · rw [if_pos a, if_neg b] at h
    exact (ne _ _ _ _ h hs).elim
  · rw [if_neg a, if_pos b] at h
    exact (ne _ _ _ _ h.symm ht).elim
  · rw [if_neg a, if_neg b, List.cons_append, List.cons_append] at h
    injection h with _ h
    obtain ⟨e1, e2⟩ := stop_split (dm _) (dm _) hs ht h
    have := dg_inj e1
    exact ⟨by omega, e2⟩
mutual
/-- numbers and tuples of such -/
def numP : PyData → Bool
  | .int _ => true
  | .tuple xs => numPs xs
  | _ => false
def numPs : List PyData → Bool
  | [] => true
  | x :: xs => numP x && numPs xs
end
theorem fst_from : ∀ (ts : List Str) (k : Nat) (acc : Str), ∃ l, cs (textFrom k acc ts) = cs acc ++ l
  | [], _, acc => ⟨[], (List.append_nil _).symm⟩
  | x :: ts, k, acc => by
    obtain ⟨l, e⟩ := fst_from ts (k + 1) (acc ++ (if k > 0 then ", " else "" : String) ++ x)
    refine ⟨cs ((if k > 0 then ", " else "" : String) : Str) ++ cs x ++ l, ?_⟩
    show cs (textFrom (k + 1) (acc ++ (if k > 0 then ", " else "" : String) ++ x) ts) = _
    rw [e, cs_app, cs_app, List.append_assoc, List.append_assoc, List.append_assoc]
def oddP : PyData → Prop
  | .int _ => False
  | .tuple _ => False
  | _ => True
/-- the first sign of what is no number and no tuple -/
theorem fst_odd (p : PyData) (h : oddP p) : ∃ c l, cs p.shown = c :: l ∧ (c = 78 ∧ p = .none ∨ c = 84 ∨ c = 70 ∨ c = 34 ∨ c = 39 ∨ c = 91 ∨ c = 123) := by
  cases p with
  | none => exact ⟨78, [111, 110, 101], (by rw [PyData.shown]; decide +kernel), .inl ⟨rfl, rfl⟩⟩
  | bool b =>
    cases b
    · exact ⟨70, [97, 108, 115, 101], (by rw [PyData.shown]; decide +kernel), by simp⟩
    · exact ⟨84, [114, 117, 101], (by rw [PyData.shown]; decide +kernel), by simp⟩
  | int i => exact h.elim
  | str x =>
    have : ∃ l, cs (reprText x) = reprQuote x :: l := by
      have e : ∀ (l : List Nat) (acc : Array Nat), ∃ m, (l.foldl (fun out c => out ++ (Builtin.Str.reprChar (reprQuote x) c).toArray) acc).toList = acc.toList ++ m := by
        intro l
        induction l with
        | nil => exact fun acc => ⟨[], (List.append_nil _).symm⟩
        | cons c l ih =>
          intro acc
          obtain ⟨m, e⟩ := ih (acc ++ (Builtin.Str.reprChar (reprQuote x) c).toArray)
          exact ⟨Builtin.Str.reprChar (reprQuote x) c ++ m, by rw [List.foldl_cons, e, Array.toList_append, List.append_assoc]⟩
      obtain ⟨m, e⟩ := e x.cps.toList #[reprQuote x]
      refine ⟨m ++ [reprQuote x], ?_⟩
      unfold reprText cs
      rw [Array.toList_push, ← Array.foldl_toList, e]
      rfl
    obtain ⟨l, e⟩ := this
    rw [PyData.shown, e]
    refine ⟨_, _, rfl, ?_⟩
    unfold reprQuote
    split <;> simp
  | list xs =>
    obtain ⟨l, e⟩ := fst_from (PyData.shownAll xs) 0 "["
    rw [PyData.shown]
    unfold listText
    rw [cs_app, e]
    exact ⟨91, l ++ cs ("]" : Str), rfl, by simp⟩
  | tuple xs => exact h.elim
  | dict kvs =>
    rw [PyData.shown]
    unfold dictText
    rw [cs_app, cs_app]
    exact ⟨123, _, rfl, by simp⟩
/-- what follows a tuple's element -/
def tailT : List PyData → List Nat
  | [] => [41]
  | x :: xs => 44 :: 32 :: (cs x.shown ++ tailT xs)
theorem stop_44 (s : List Nat) : Stop (44 :: s) := .inl rfl
theorem tail_stop (xs : List PyData) (s : List Nat) : Stop (tailT xs ++ s) := by
  cases xs with
  | nil => exact .inr (.inl rfl)
  | cons x xs => exact .inl rfl
theorem join_tail : ∀ (x : PyData) (xs : List PyData), cs (Str.join ", " (PyData.shownAll (x :: xs))) ++ [41] = cs x.shown ++ tailT xs
  | x, [] => rfl
  | x, y :: xs => by
    have ih := join_tail y xs
    have e : Str.join ", " (PyData.shownAll (x :: y :: xs)) = x.shown ++ ((", " : String) : Str) ++ Str.join ", " (PyData.shownAll (y :: xs)) := rfl
    rw [e, cs_app, cs_app, List.append_assoc, List.append_assoc, ih]
    rfl
theorem tup_cs (xs : List PyData) : cs (PyData.tuple xs).shown = match xs with
  | [] => [40, 41]
  | [x] => 40 :: (cs x.shown ++ [44, 41])
  | x :: y :: r => 40 :: (cs x.shown ++ tailT (y :: r)) := by
  rw [PyData.shown]
  unfold tupleText
  rw [cs_app, cs_app]
  cases xs with
  | nil => rfl
  | cons x xs =>
    cases xs with
    | nil =>
      show 40 :: (cs x.shown ++ [44, 41]) = _
      rfl
    | cons y r =>
      have h : ((PyData.shownAll (x :: y :: r)).length == 1) = false := by
        show ((PyData.shownAll r).length + 1 + 1 == 1) = false
        simp
      rw [h]
      show [40] ++ cs (Str.join ", " (PyData.shownAll (x :: y :: r))) ++ [41] = _
      rw [List.append_assoc, join_tail]
      rfl
theorem tup_fst (xs : List PyData) : ∃ l, cs (PyData.tuple xs).shown = 40 :: l := by
  rw [tup_cs]
  split <;> exact ⟨_, rfl⟩
theorem int_fst (i : Int) : ∃ c l, cs (PyData.int i).shown = c :: l ∧ (48 ≤ c ∧ c ≤ 57 ∨ c = 45) := by
  rw [PyData.shown, cs_int]
  split
  · cases q : dg i.toNat with
    | nil => exact absurd (List.map_eq_nil_iff.mp q) Nat.toDigits_ne_nil
    | cons c l => exact ⟨c, l, rfl, .inl (dg_mem (m := i.toNat) (by rw [q]; exact List.mem_cons_self))⟩
  · exact ⟨45, _, rfl, .inr rfl⟩
theorem fst_any (p : PyData) : ∃ c l, cs p.shown = c :: l ∧ c ≠ 41 ∧ c ≠ 44 := by
  have odd : oddP p → ∃ c l, cs p.shown = c :: l ∧ c ≠ 41 ∧ c ≠ 44 := fun h => by
    obtain ⟨c, l, e, q⟩ := fst_odd p h
    refine ⟨c, l, e, ?_⟩
    rcases q with q | q | q | q | q | q | q <;> omega
  cases p with
  | int i =>
    obtain ⟨c, l, e, q⟩ := int_fst i
    exact ⟨c, l, e, by omega, by omega⟩
  | tuple xs =>
    obtain ⟨l, e⟩ := tup_fst xs
    exact ⟨40, l, e, by decide, by decide⟩
  | none => exact odd trivial
  | bool b => exact odd trivial
  | str x => exact odd trivial
  | list xs => exact odd trivial
  | dict kvs => exact odd trivial
theorem cons_app {c : Nat} {a l s r : List Nat} (e : a = c :: l) (h : a ++ s = r) : c :: (l ++ s) = r := by
  subst e; exact h
mutual
theorem shown_inj : ∀ (q : PyData), numP q = true → ∀ (p : PyData) (s t : List Nat), Stop s → Stop t → cs p.shown ++ s = cs q.shown ++ t → p = q ∧ s = t
  | .int j, _, p, s, t, hs, ht, h => by
    obtain ⟨c, l, e, k⟩ := int_fst j
    have odd : oddP p → False := fun z => by
      obtain ⟨d, l2, e2, k2⟩ := fst_odd p z
      have h1 := cons_app e2 h
      rw [e, List.cons_append] at h1
      injection h1 with h1 _
      rcases k2 with k2 | k2 | k2 | k2 | k2 | k2 | k2 <;> omega
    cases p with
    | int i =>
      rw [PyData.shown, PyData.shown] at h
      obtain ⟨e1, e2⟩ := int_inj hs ht h
      exact ⟨by rw [e1], e2⟩
    | tuple xs =>
      obtain ⟨l2, e2⟩ := tup_fst xs
      have h1 := cons_app e2 h
      rw [e, List.cons_append] at h1
      injection h1 with h1 _
      omega
    | none => exact (odd trivial).elim
    | bool b => exact (odd trivial).elim
    | str x => exact (odd trivial).elim
    | list xs => exact (odd trivial).elim
    | dict kvs => exact (odd trivial).elim
  | .tuple ys, hq, p, s, t, hs, ht, h => by
    have odd : oddP p → False := fun z => by
      obtain ⟨d, l2, e2, k2⟩ := fst_odd p z
      obtain ⟨l, e⟩ := tup_fst ys
      have h1 := cons_app e2 h
      rw [e, List.cons_append] at h1
      injection h1 with h1 _
      rcases k2 with k2 | k2 | k2 | k2 | k2 | k2 | k2 <;> omega
    cases p with
    | int i =>
      obtain ⟨c, l, e, k⟩ := int_fst i
      obtain ⟨l2, e2⟩ := tup_fst ys
      have h1 := cons_app e h
      rw [e2, List.cons_append] at h1
      injection h1 with h1 _
      omega
    | tuple xs =>
      rw [tup_cs, tup_cs] at h
      cases ys with
      | nil =>
        cases xs with
        | nil =>
          dsimp only at h
          injection h with _ h
          injection h with _ h
          exact ⟨rfl, h⟩
        | cons x xs =>
          exfalso
          obtain ⟨c, l, e, k, _⟩ := fst_any x
          cases xs with
          | nil =>
            dsimp only at h
            rw [e] at h
            injection h with _ h
            injection h with h _
            exact k h
          | cons x2 xs =>
            dsimp only at h
            rw [e] at h
            injection h with _ h
            injection h with h _
            exact k h
      | cons y ys =>
        rw [numP, numPs, Bool.and_eq_true] at hq
        cases xs with
        | nil =>
          exfalso
          obtain ⟨c, l, e, k, _⟩ := fst_any y
          cases ys with
          | nil =>
            dsimp only at h
            rw [e] at h
            injection h with _ h
            injection h with h _
            exact k h.symm
          | cons y2 ys =>
            dsimp only at h
            rw [e] at h
            injection h with _ h
            injection h with h _
            exact k h.symm
        | cons x xs =>
          cases ys with
          | nil =>
            cases xs with
            | nil =>
              dsimp only at h
              injection h with _ h
              replace h : (cs x.shown ++ [44, 41]) ++ s = (cs y.shown ++ [44, 41]) ++ t := h
              rw [List.append_assoc,  List.append_assoc] at h
              obtain ⟨e1, e2⟩ := shown_inj y hq.1 x _ _ (stop_44 _) (stop_44 _) h
              injection e2 with _ e2
              injection e2 with _ e2
              exact ⟨by rw [e1], e2⟩
            | cons x2 xs =>
              exfalso
              dsimp only at h
              injection h with _ h
              replace h : (cs x.shown ++ tailT (x2 :: xs)) ++ s = (cs y.shown ++ [44, 41]) ++ t := h
              rw [List.append_assoc,  List.append_assoc] at h
              obtain ⟨e1, e2⟩ := shown_inj y hq.1 x _ _ (tail_stop _ _) (stop_44 _) h
              injection e2 with _ e2
              injection e2 with e2 _
              omega
          | cons y2 ys =>
            cases xs with
            | nil =>
              exfalso
              dsimp only at h
              injection h with _ h
              replace h : (cs x.shown ++ [44, 41]) ++ s = (cs y.shown ++ tailT (y2 :: ys)) ++ t := h
              rw [List.append_assoc,  List.append_assoc] at h
              obtain ⟨e1, e2⟩ := shown_inj y hq.1 x _ _ (stop_44 _) (tail_stop _ _) h
              injection e2 with _ e2
              injection e2 with e2 _
              omega
            | cons x2 xs =>
              dsimp only at h
              injection h with _ h
              replace h : (cs x.shown ++ tailT (x2 :: xs)) ++ s = (cs y.shown ++ tailT (y2 :: ys)) ++ t := h
              rw [List.append_assoc,  List.append_assoc] at h
              obtain ⟨e1, e2⟩ := shown_inj y hq.1 x _ _ (tail_stop _ _) (tail_stop _ _) h
              obtain ⟨e3, e4⟩ := tail_inj (y2 :: ys) hq.2 (x2 :: xs) s t e2
              exact ⟨by rw [e1, e3], e4⟩
    | none => exact (odd trivial).elim
    | bool b => exact (odd trivial).elim
    | str x => exact (odd trivial).elim
    | list xs => exact (odd trivial).elim
    | dict kvs => exact (odd trivial).elim
  | .none, hq, _, _, _, _, _, _ => by cases hq
  | .bool _, hq, _, _, _, _, _, _ => by cases hq
  | .str _, hq, _, _, _, _, _, _ => by cases hq
  | .list _, hq, _, _, _, _, _, _ => by cases hq
  | .dict _, hq, _, _, _, _, _, _ => by cases hq
theorem tail_inj : ∀ (ys : List PyData), numPs ys = true → ∀ (xs : List PyData) (s t : List Nat), tailT xs ++ s = tailT ys ++ t → xs = ys ∧ s = t
  | [], _, xs, s, t, h => by
    cases xs with
    | nil =>
      injection h with _ h
      exact ⟨rfl, h⟩
    | cons x xs =>
      injection h with h _
      omega
  | y :: ys, hq, xs, s, t, h => by
    rw [numPs, Bool.and_eq_true] at hq
    cases xs with
    | nil =>
      injection h with h _
      omega
    | cons x xs =>
      injection h with _ h
      injection h with _ h
      change cs x.shown ++ tailT xs ++ s = cs y.shown ++ tailT ys ++ t at h
      rw [List.append_assoc, List.append_assoc] at h
      obtain ⟨e1, e2⟩ := shown_inj y hq.1 x _ _ (tail_stop _ _) (tail_stop _ _) h
      obtain ⟨e3, e4⟩ := tail_inj ys hq.2 xs s t e2
      exact ⟨by rw [e1, e3], e4⟩
end
theorem shown_num {p q : PyData} (hq : numP q = true) (h : p.shown = q.shown) : p = q := by
  refine (shown_inj q hq p [] [] trivial trivial ?_).1
  rw [h]
theorem shown_none {p : PyData} (h : p.shown = "None") : p = .none := by
  have hc : cs p.shown = [78, 111, 110, 101] := by rw [h]; decide +kernel
  have odd : oddP p → p = .none := fun z => by
    obtain ⟨c, l, e, k⟩ := fst_odd p z
    rw [hc] at e
    injection e with e _
    rcases k with k | k | k | k | k | k | k
    · exact k.2
    all_goals omega
  cases p with
  | int i =>
    obtain ⟨c, l, e, k⟩ := int_fst i
    rw [hc] at e
    injection e with e _
    omega
  | tuple xs =>
    obtain ⟨l, e⟩ := tup_fst xs
    rw [hc] at e
    injection e with e _
    omega
  | none => rfl
  | bool b => exact odd trivial
  | str x => exact odd trivial
  | list xs => exact odd trivial
  | dict kvs => exact odd trivial
end Mo
set_option maxRecDepth 100000
set_option maxHeartbeats 1000000
/-! Mo: texts of data with texts in it: they can be shown, and how long they are. -/
namespace Mo
open PySem L2
/-- can be shown, by so many signs at most, so deep at most -/
structure Tx (p : PyData) (n d : Nat) : Prop where
  sh : p.showable = true
  ok : PyData.strOk p.shown = true
  de : p.depth ≤ d
  le : (cs p.shown).length ≤ n
theorem Tx.mono {p : PyData} {n d m e : Nat} (h : Tx p n d) (hn : n ≤ m) (hd : d ≤ e) : Tx p m e := ⟨h.sh, h.ok, Nat.le_trans h.de hd, Nat.le_trans h.le hn⟩
theorem Tx.shownOk {p : PyData} {n d : Nat} (h : Tx p n d) (hn : n ≤ 60000) (hd : d ≤ 60) : shownOk p := ⟨h.sh, Nat.le_trans h.de hd, Nat.le_trans (show p.shown.length ≤ n from h.le) (small_le (by omega))⟩
theorem dg_len {m : Nat} (h : m < 10 ^ 20) : (dg m).length ≤ 20 := by
  unfold dg
  rw [List.length_map]
  exact (Nat.length_toDigits_le_iff (by decide) (by decide)).mpr h
theorem Tx.int {i : Int} (h : i.natAbs < 2 ^ 64) : Tx (.int i) 25 0 := by
  refine ⟨?_, ?_, ?_, ?_⟩
  · rw [PyData.showable]; exact decide_eq_true (Nat.lt_trans (log_lt h) (by decide))
  · rw [PyData.shown]; exact ok_of _
  · simp [PyData.depth]
  · rw [PyData.shown, cs_int]
    split
    · have := dg_len (m := i.toNat) (by omega); omega
    · have := dg_len (m := i.natAbs) (by omega)
      rw [List.length_cons]; omega
theorem Tx.none : Tx .none 25 0 := ⟨rfl, by rw [PyData.shown]; exact ok_of _, by simp [PyData.depth], by rw [PyData.shown]; decide +kernel⟩
theorem Tx.bool (b : Bool) : Tx (.bool b) 25 0 := ⟨rfl, by rw [PyData.shown]; cases b <;> exact ok_of _, by simp [PyData.depth], by rw [PyData.shown]; cases b <;> decide +kernel⟩
theorem Tx.str {x : Str} (h : PyData.strOk (reprText x) = true) (hl : (cs (reprText x)).length ≤ 25) : Tx (.str x) 25 0 := ⟨rfl, by rw [PyData.shown]; exact h, by simp [PyData.depth], by rw [PyData.shown]; exact hl⟩
theorem sh_all {ps : List PyData} (h : ∀ p ∈ ps, p.showable = true) : PyData.showableAll ps = true := by
  induction ps with
  | nil => rfl
  | cons p ps ih => rw [PyData.showableAll, h p List.mem_cons_self, ih fun q hq => h q (List.mem_cons_of_mem _ hq)]; rfl
theorem ok_all {ps : List PyData} (h : ∀ p ∈ ps, PyData.strOk p.shown = true) : ∀ t ∈ PyData.shownAll ps, PyData.strOk t = true := by
  induction ps with
  | nil => intro t ht; cases ht
  | cons p ps ih =>
    intro t ht
    rcases List.mem_cons.mp ht with z | z
    · rw [z]; exact h p List.mem_cons_self
    · exact ih (fun q hq => h q (List.mem_cons_of_mem _ hq)) t z
theorem de_all {d : Nat} {ps : List PyData} (h : ∀ p ∈ ps, p.depth ≤ d) : PyData.depthAll ps ≤ d := by
  induction ps with
  | nil => simp [PyData.depthAll]
  | cons p ps ih =>
    have h1 := h p List.mem_cons_self
    have h2 := ih fun q hq => h q (List.mem_cons_of_mem _ hq)
    simp only [PyData.depthAll]; omega
theorem tail_len {n : Nat} : ∀ {ps : List PyData}, (∀ p ∈ ps, (cs p.shown).length ≤ n) → (tailT ps).length ≤ (n + 2) * ps.length + 1
  | [], _ => by simp [tailT]
  | p :: ps, h => by
    have h1 := h p List.mem_cons_self
    have h2 := tail_len (ps := ps) fun q hq => h q (List.mem_cons_of_mem _ hq)
    rw [tailT, List.length_cons, List.length_cons, List.length_append, List.length_cons, Nat.mul_succ]; omega
theorem Tx.tuple {n d : Nat} {ps : List PyData} (h : ∀ p ∈ ps, Tx p n d) : Tx (.tuple ps) ((n + 2) * ps.length + 4) (d + 4) := by
  refine ⟨?_, ?_, ?_, ?_⟩
  · rw [PyData.showable]; exact sh_all fun p hp => (h p hp).sh
  · rw [PyData.shown]
    unfold tupleText
    rw [ok_app, ok_app, ok_join _ (ok_all fun p hp => (h p hp).ok), ok_of, ok_of]; rfl
  · have := de_all fun p hp => (h p hp).de
    simp only [PyData.depth]; omega
  · have hl := tail_len fun p hp => (h p hp).le
    rw [tup_cs]
    cases ps with
    | nil => simp
    | cons x xs =>
      have hx := (h x List.mem_cons_self).le
      cases xs with
      | nil =>
        dsimp only
        rw [List.length_cons, List.length_append]
        simp only [List.length_cons, List.length_nil]; omega
      | cons y ys =>
        dsimp only
        rw [tailT, List.length_cons, List.length_cons, List.length_append] at hl
        rw [List.length_cons, List.length_append]; omega
theorem from_len {n : Nat} : ∀ (ps : List PyData) (k : Nat) (acc : Str), (∀ p ∈ ps, (cs p.shown).length ≤ n) → (cs (textFrom k acc (PyData.shownAll ps))).length ≤ (cs acc).length + (n + 2) * ps.length
  | [], _, acc, _ => by simp [PyData.shownAll, textFrom]
  | p :: ps, k, acc, h => by
    have h1 := h p List.mem_cons_self
    have h2 := from_len ps (k + 1) (acc ++ (if k > 0 then ", " else "" : String) ++ p.shown) fun q hq => h q (List.mem_cons_of_mem _ hq)
    have h3 : (cs ((if k > 0 then ", " else "" : String) : Str)).length ≤ 2 := by split <;> decide +kernel
    rw [cs_app, cs_app, List.length_append, List.length_append] at h2
    rw [PyData.shownAll, List.length_cons, Nat.mul_succ]
    show (cs (textFrom (k + 1) (acc ++ (if k > 0 then ", " else "" : String) ++ p.shown) (PyData.shownAll ps))).length ≤ _
    omega
theorem Tx.list {n d : Nat} {ps : List PyData} (h : ∀ p ∈ ps, Tx p n d) : Tx (.list ps) ((n + 2) * ps.length + 4) (d + 4) := by
  refine ⟨?_, ?_, ?_, ?_⟩
  · rw [PyData.showable]; exact sh_all fun p hp => (h p hp).sh
  · rw [PyData.shown]
    unfold listText
    rw [ok_app, ok_from _ _ _ (ok_of _) (ok_all fun p hp => (h p hp).ok), ok_of]; rfl
  · have := de_all fun p hp => (h p hp).de
    simp only [PyData.depth]; omega
  · have := from_len ps 0 "[" fun p hp => (h p hp).le
    rw [PyData.shown]
    unfold listText
    rw [cs_app, List.length_append]
    have h1 : (cs ("[" : Str)).length = 1 := by decide +kernel
    have h2 : (cs ("]" : Str)).length = 1 := by decide +kernel
    omega
end Mo
set_option maxRecDepth 100000
set_option maxHeartbeats 4000000
namespace Pm
open PySem PySem.Spec PyProof.Rows L2 Mo
def b_p_is_from : MS :=
    (mRet (mAnd (mA hIsi (aCons (mVar 0) (aCons (mC (.raw (.ty "int"))) aNil))) (mAnd (mNot (mA hIsi (aCons (mVar 0) (aCons (mC (.raw (.ty "bool"))) aNil)))) (m2 gGe (mVar 0) (mVar 1)))))
def m_p_is_from : MF := mDef 2 b_p_is_from

def b_p_has_parts : MS :=
    (mRet (mAnd (mA hIsi (aCons (mVar 0) (aCons (mC (.raw (.ty "tuple"))) aNil))) (m2 gEqA (mB1 gLen (mVar 0)) (mVar 1))))
def m_p_has_parts : MF := mDef 2 b_p_has_parts

def b_p_most_to_fall : MS :=
    (mRet (m2 gDivI (m2 gSubI (mV hSum (mVar 0)) (mC (.int 1))) (mC (.int 2))))
def m_p_most_to_fall : MF := mDef 1 b_p_most_to_fall

def b_p_best_bound : MS :=
    (mSeq (mSet 2 (mCall m_p_most_to_fall 1 [] (aCons (mVar 0) aNil)))
    (mSeq (mSet 3 (m2 gDivI (mVar 2) (mVar 1)))
    (mSeq (mSet 4 (mB1 gNeg (m2 gDivI (m2 gSubI (mVar 2) (mV hSum (mVar 0))) (m2 gSubI (mB1 gLen (mVar 0)) (mVar 1)))))
    (mSeq (mIf (mB (m2 gGt (mVar 4) (mVar 3))) (mRet (mC .non)) mNil)
    (mSeq (mSet 5 (m2 gIx (mLst (mVL (hSortedB true) (mVar 0))) (m2 gSubI (mVar 1) (mC (.int 1)))))
    (mRet (mA hMax2 (aCons (mVar 4) (aCons (mA hMin2 (aCons (mVar 3) (aCons (mVar 5) aNil))) aNil)))))))))
def m_p_best_bound : MF := mDef 6 b_p_best_bound

def b_p_passed_1 : MS :=
    (mSeq (mSet 7 (mA hMin2 (aCons (mVar 4) (aCons (mA hMax2 (aCons (mC (.int 0)) (aCons (m2 gSubI (mVar 6) (mVar 1)) aNil))) aNil))))
    (mSeq (mSet 8 (mA hMin2 (aCons (mVar 5) (aCons (mA hMax2 (aCons (mC (.int 0)) (aCons (m2 gSubI (mVar 1) (mVar 6)) aNil))) aNil))))
    (mSeq (mAug 4 (fun i j => i - j) (mVar 7))
    (mSeq (mAug 5 (fun i j => i - j) (mVar 8))
    (mApp 3 (m2 gAddI (m2 gSubI (mVar 6) (mVar 7)) (mVar 8)))))))
def b_p_passed : MS :=
    (mSeq (mOwnL 3 (mDisp aNil))
    (mSeq (mAsg2 4 5 (mVar 2))
    (mSeq (mFor (.nm 6) (iSeq (mVar 0))
    b_p_passed_1)
    (mRet (mQ hTup (qOwn 3))))))
def m_p_passed : MF := mDef 9 b_p_passed

def e_p_over_1 : ME :=
    (mA hMax2 (aCons (mC (.int 0)) (aCons (m2 gSubI (mVar 2) (mVar 1)) aNil)))
def b_p_over : MS :=
    (mRet (mQ hSum (mLc (iSeq (mVar 0)) (.nm 2) [2] mYes e_p_over_1)))
def m_p_over : MF := mDef 3 b_p_over

def b_p_room_over : MS :=
    (mRet (m2 gSubI (mCall m_p_most_to_fall 1 [] (aCons (mVar 0) aNil)) (m2 gMulI (mVar 1) (mVar 2))))
def m_p_room_over : MF := mDef 3 b_p_room_over

def b_p_spread : MS :=
    (mSeq (mIf (mB (m2 gEqA (mVar 1) (mC (.int 0)))) (mRet (mTup (aCons (mC (.int 0)) (aCons (mVar 0) aNil)))) mNil)
    (mSeq (mSet 2 (mCall m_p_best_bound 2 [] (aCons (mVar 0) (aCons (mVar 1) aNil))))
    (mSeq (mIf (mB (m2 gIsN (mVar 2) (mC .non))) (mRet (mC .non)) mNil)
    (mSeq (mSet 3 (mA hMax2 (aCons (mC (.int 0)) (aCons (m2 gSubI (mCall m_p_over 2 [] (aCons (mVar 0) (aCons (mVar 2) aNil))) (mCall m_p_room_over 3 [] (aCons (mVar 0) (aCons (mVar 1) (aCons (mVar 2) aNil))))) aNil))))
    (mRet (mTup (aCons (mVar 3) (aCons (mCall m_p_passed 3 [] (aCons (mVar 0) (aCons (mVar 2) (aCons (mVar 3) aNil)))) aNil))))))))
def m_p_spread : MF := mDef 4 b_p_spread

def b_p_bears : MS :=
    (mRet (m2 gLe (mQ hSum (mSlQ (iLst (mLst (mVL (hSortedB true) (mVar 0)))) oNone (oSome (mVar 1)))) (mCall m_p_most_to_fall 1 [] (aCons (mVar 0) aNil))))
def m_p_bears : MF := mDef 2 b_p_bears

def e_p_shows_spread_1 : ME :=
    (mCall m_p_is_from 2 [] (aCons (mVar 6) (aCons (mC (.int 0)) aNil)))
def e_p_shows_spread_2 : ME :=
    (mA hMax2 (aCons (mC (.int 0)) (aCons (m2 gSubI (mVar 7) (mVar 6)) aNil)))
def b_p_shows_spread : MS :=
    (mSeq (mSet 3 (mCall m_p_spread 2 [] (aCons (mVar 0) (aCons (mVar 1) aNil))))
    (mSeq (mIf (mB (m2 gIsN (mVar 3) (mC .non))) (mRet (m2 gIsN (mVar 2) (mC .non))) mNil)
    (mSeq (mIf (mOrT (mNotT (mB (mCall m_p_has_parts 2 [] (aCons (mVar 2) (aCons (mC (.int 2)) aNil))))) (mOrT (mNotT (mB (mCall m_p_is_from 2 [] (aCons (m2 gIx (mVar 2) (mC (.int 0))) (aCons (mC (.int 0)) aNil))))) (mB (m2 gNeA (m2 gIx (mVar 2) (mC (.int 0))) (m2 gIx (mVar 3) (mC (.int 0))))))) (mRet (mC (.bl false))) mNil)
    (mSeq (mAsg (.tp [(.nm 4), (.nm 5)]) (mVar 2))
    (mSeq (mIf (mOrT (mNotT (mB (mCall m_p_has_parts 2 [] (aCons (mVar 5) (aCons (mB1 gLen (mVar 0)) aNil))))) (mNotT (mB (mQ hAll (mLc (iSeq (mVar 5)) (.nm 6) [6] mYes e_p_shows_spread_1))))) (mRet (mC (.bl false))) mNil)
    (mSeq (mIf (mOrT (mB (m2 gNeA (mV hSum (mVar 5)) (mV hSum (mVar 0)))) (mNotT (mB (mCall m_p_bears 2 [] (aCons (mVar 5) (aCons (mVar 1) aNil)))))) (mRet (mC (.bl false))) mNil)
    (mRet (m2 gEqA (mVar 4) (mQ hSum (mLc (iZip (aCons (mVar 0) (aCons (mVar 5) aNil))) (.tp [(.nm 7), (.nm 6)]) [7, 6] mYes e_p_shows_spread_2))))))))))
def m_p_shows_spread : MF := mDef 8 b_p_shows_spread

end Pm
set_option maxRecDepth 100000
set_option maxHeartbeats 2000000
namespace Pm
open Mo L2 PySem
/-! ### spreading, of numbers from 0 -/
def mostN (s : List Nat) : Nat := (s.sum - 1) / 2
def overN (s : List Nat) (b : Nat) : Nat := (s.map fun x => x - b).sum
def highN (s : List Nat) (f : Nat) : Nat := mostN s / f
def lowN (s : List Nat) (f : Nat) : Nat := (s.sum - mostN s + (s.length - f - 1)) / (s.length - f)
def bestN (s : List Nat) (f : Nat) : Nat := max (lowN s f) (min (highN s f) ((isN true s).getD (f - 1) 0))
def movesN (s : List Nat) (f b : Nat) : Nat := overN s b + f * b - mostN s
def passedN (b : Nat) : List Nat → Nat → Nat → List Nat
  | [], _, _ => []
  | x :: xs, lv, cm => (x - min lv (x - b) + min cm (b - x)) :: passedN b xs (lv - min lv (x - b)) (cm - min cm (b - x))
def spreadN (s : List Nat) (f : Nat) : Option (Nat × List Nat) :=
  if f = 0 then some (0, s) else if highN s f < lowN s f then none else some (movesN s f (bestN s f), passedN (bestN s f) s (movesN s f (bestN s f)) (movesN s f (bestN s f)))
def dL (s : List Nat) : List D := s.map fun n : Nat => D.int (n : Int)
def dT (s : List Nat) : D := .tup (dL s)
theorem dL_len (s : List Nat) : (dL s).length = s.length := List.length_map _
theorem any_dT (s : List Nat) (S : Store) : anyD (dT s) S = .ok (dL s) S := rfl
theorem seq_dT (s : List Nat) (S : Store) : iSeqD (dT s) S = .ok (dL s) S := rfl
theorem len_dT (s : List Nat) (S : Store) : gLen (dT s) S = .ok (.int (s.length : Int)) S := by unfold dT; rw [gLen_tup, dL_len]
theorem tup_dL (s : List Nat) (S : Store) : hTup (dL s) S = .ok (dT s) S := rfl
theorem sum_dL (s : List Nat) (S : Store) : hSum (dL s) S = .ok (.int ((s.sum : Nat) : Int)) S := hSum_nat s S
theorem sort_dL (b : Bool) (s : List Nat) (S : Store) : hSortedB b (dL s) S = .ok (dL (isN b s)) S := sorted_nat b s S
def dO : Option (Nat × List Nat) → D
  | none => .non
  | some (m, b) => .tup [.int (m : Int), dT b]
theorem max0 (x b : Nat) (S : Store) : hMax2 [.int 0, .int ((x : Int) - (b : Int))] S = .ok (.int ((x - b : Nat) : Int)) S := by
  rw [hMax2_eq]
  congr 2
  split <;> omega
theorem min2 (x b : Nat) (S : Store) : hMin2 [.int (x : Int), .int (b : Int)] S = .ok (.int ((min x b : Nat) : Int)) S := by
  rw [hMin2_eq]
  congr 2
  split <;> omega
theorem max2 (x b : Nat) (S : Store) : hMax2 [.int (x : Int), .int (b : Int)] S = .ok (.int ((max x b : Nat) : Int)) S := by
  rw [hMax2_eq]
  congr 2
  split <;> omega
theorem most_ok (s : List Nat) (h : 0 < s.sum) (S : Store) : m_p_most_to_fall [dT s] S = .ok (.int ((mostN s : Nat) : Int)) S := by
  have c : cDiv ((s.sum : Nat) - 1 : Int) 2 := cDiv_nn (by omega) (by omega)
  have e : ((s.sum : Nat) - 1 : Int) / 2 = ((mostN s : Nat) : Int) := by unfold mostN; omega
  unfold m_p_most_to_fall b_p_most_to_fall
  simp [mDef_eq, any_dT, sum_dL, c, e]
theorem over_ok (s : List Nat) (b : Nat) (hl : s.length ≤ 100) (S : Store) : m_p_over [dT s, .int (b : Int)] S = .ok (.int ((overN s b : Nat) : Int)) S := by
  have hz : 100 ≤ sizeLine := by decide
  have e := lcL_map (p := .nm 2) (me := e_p_over_1) (enc := fun n : Nat => D.int (n : Int)) (f := fun n : Nat => D.int ((n - b : Nat) : Int)) (ρ := [some (.val (dT s)), some (.val (.int (b : Int))), none]) (S := S) s (fun x _ => ⟨_, rfl, by
    unfold e_p_over_1
    simp [-hMax2_eq, max0]⟩)
  have e2 : dL (s.map fun n => n - b) = s.map (fun n : Nat => D.int ((n - b : Nat) : Int)) := by unfold dL; rw [List.map_map]; rfl
  unfold m_p_over b_p_over
  simp only [mDef_eq, List.map_cons, List.map_nil, List.length_cons, List.length_nil, List.replicate, List.cons_append, List.nil_append, mRet_eq, mQ_eq, mLc_eq, iSeq_eq, mVar_eq, List.getElem?_cons_zero, bind_ok_eq, seq_dT]
  show (R.bind (R.bind (R.bind (R.bind (mLcL (.nm 2) mYes e_p_over_1 (dL s) [some (.val (dT s)), some (.val (.int (b : Int))), none] S) _) _) _) _) = _
  unfold dL
  rw [e, bind_ok_eq, if_pos (by simp; omega), bind_ok_eq, ← e2, sum_dL]
  rfl
theorem passed_turn (S : Store) (sh x6 x7 x8 : Option Slot) (b mv lv cm x : Nat) (out : List Nat) (ho : out.length < 100) :
    b_p_passed_1 [sh, some (.val (.int (b : Int))), some (.val (.int (mv : Int))), some (.own (.lst (dL out))), some (.val (.int (lv : Int))), some (.val (.int (cm : Int))), some (.val (.int (x : Int))), x7, x8] S =
      .ok (.nx [sh, some (.val (.int (b : Int))), some (.val (.int (mv : Int))), some (.own (.lst (dL (out ++ [x - min lv (x - b) + min cm (b - x)])))), some (.val (.int ((lv - min lv (x - b) : Nat) : Int))), some (.val (.int ((cm - min cm (b - x) : Nat) : Int))), some (.val (.int (x : Int))), some (.val (.int ((min lv (x - b) : Nat) : Int))), some (.val (.int ((min cm (b - x) : Nat) : Int)))]) S := by
  have e1 : ((lv : Nat) : Int) - ((min lv (x - b) : Nat) : Int) = ((lv - min lv (x - b) : Nat) : Int) := by omega
  have e2 : ((cm : Nat) : Int) - ((min cm (b - x) : Nat) : Int) = ((cm - min cm (b - x) : Nat) : Int) := by omega
  have e3 : (x : Int) - ((min lv (x - b) : Nat) : Int) + ((min cm (b - x) : Nat) : Int) = ((x - min lv (x - b) + min cm (b - x) : Nat) : Int) := by omega
  have hz : out.length < sizeLine := Nat.lt_of_lt_of_le ho (by decide)
  have e4 : dL (out ++ [x - min lv (x - b) + min cm (b - x)]) = dL out ++ [.int ((x - min lv (x - b) + min cm (b - x) : Nat) : Int)] := by unfold dL; rw [List.map_append]; rfl
  unfold b_p_passed_1
  rw [e4]
  simp only [bind_ok_eq, bind_bad_eq, mVar_eq, mC_eq, m2_eq, mNil_eq, mPass_eq, mSeq_eq, mSet_eq, mRet_eq, mDrop_eq, mIf_eq, mB_eq, isB_eq, mAndT_eq, mOrT_eq, mNotT_eq, mAnd_eq, mOr_eq, mNot_eq, mIfE_eq, mChain_eq, aNil_eq, aCons_eq, mTup_eq, mDisp_eq, mLst_eq, mLoc_eq, mOwnL_eq, mCall_eq, mCallK_eq, mAsg_eq, mFor_eq, iSeq_eq, iSeqD_lst, iSeqD_tup, iLst_eq, seqD_lst, iLoc_eq, locD_eq, iScr_eq, scrD_eq, iRange1_eq, iRange2_eq, iEnumM_eq, mLc_eq, mYes_eq, mQ_eq, mQL_eq, mA_eq, mB1_eq, hLen_eq, hTup_eq, hList_eq, hAbs_eq, hInt_eq, hIntB_eq, gNeg_eq, gI_eq, gI0_eq, gIx_tup, gIx_lst, gIx_scr, gIx_loc, mSetC_eq, putC_eq, mApp_eq, mAppC_eq, qOwn_eq, gLen_tup, gLen_lst, gLen_scr, mDNewK_eq, mDGet2_eq, mDPut_eq, mDSet_eq, dictAt_eq, dictR_eq, keyD_int, keyD_str, mPar_eq, sNil_eq, sVal_eq, sOwnL_eq, setSl_nil, setSl_cons, setD_nil, setD_cons, pat_nm, pat_tp, pats_nil, pats_cons, wipeM_nil, wipeM_cons, forL_nil, lcL_nil, n2_eq, atI0, atI1, atI2, gNe_strs, gEq_strs, gNe_ints, gEq_ints, sz_1, sz_2, sz_3, sz_4, sz_5, sz_6, sz_7, sz_8, sz_9, sz_10, sz_11, sz_12, sz_13, sz_14, sz_15, sz_16, sz_17, sz_18, sz_19, sz_20, mLock_eq, nLock_eq, dictVar_eq, iKeysF_eq, keyV_inl, mRest_eq, restAt_eq, mExt_eq, iTup_eq, tupD_tup, mRetO_eq, gIsB_eq, gNotB_eq, gIsN_non, gIsN_int, gIsN_bl, gIsN_str, gIsN_tup, gIsN_lst, gIsN_loc, gNotN_non, gNotN_int, gNotN_bl, gNotN_str, gNotN_tup, gNotN_lst, gNotN_loc, iZip_eq, mAsg2_eq, mAug_eq, hSortedR_eq, mV_eq, mVL_eq, anyD_lst, anyD_tup, anyD_scr, anyD_loc, mIxO_eq, mSetO_eq, oNone_eq, oSome_eq, mSlT_eq, mSlQ_eq, mTruQ_eq, iRg1_eq, iRg2_eq, mNNew_eq, dictT_eq, mNGet1_eq, mNGet2_eq, gNGet_eq, gNIn_eq, putT_eq, setT_eq, mNPut_eq, mNSet_eq, mDGet1_eq, aStar_eq, mDCopy_eq, gDIn_eq, mIns_eq, mRevQ_eq, mKeysL_eq, mItemsL_eq, mDPop_eq, mBad_eq, mAsgS_eq, mAsgSS_eq, hStrI_eq, gReprA_loc, gReprA_tup, gReprA_lst, gReprA_non, gReprA_bl, gReprA_int, gReprA_str, mRevT_eq, Nat.zero_le, Nat.zero_add, Nat.reduceAdd, and_self, mDef_eq, List.getElem?_cons_zero, List.getElem?_cons_succ, List.set, List.length_cons, List.length_nil, List.map_cons, List.map_nil, List.replicate, List.cons_append, List.nil_append, List.append_nil, if_true, if_false, ite_true, ite_false, Bool.false_eq_true, Bool.true_eq_false, Bool.not_true, Bool.not_false, List.zip_cons_cons, List.zip_nil_left, max0, min2, e1, e2, e3]
  rw [if_pos (by unfold dL; rw [List.length_map]; exact hz)]
theorem passed_loop (S : Store) (sh : Option Slot) (b mv : Nat) : ∀ (s : List Nat) (out : List Nat) (lv cm : Nat) (x6 x7 x8 : Option Slot), out.length + s.length ≤ 100 →
    ∃ a1 a2 y6 y7 y8, mForL (.nm 6) b_p_passed_1 (dL s) [sh, some (.val (.int (b : Int))), some (.val (.int (mv : Int))), some (.own (.lst (dL out))), some (.val (.int (lv : Int))), some (.val (.int (cm : Int))), x6, x7, x8] S =
      .ok (.nx [sh, some (.val (.int (b : Int))), some (.val (.int (mv : Int))), some (.own (.lst (dL (out ++ passedN b s lv cm)))), a1, a2, y6, y7, y8]) S
  | [], out, lv, cm, x6, x7, x8, _ => ⟨some (.val (.int (lv : Int))), some (.val (.int (cm : Int))), x6, x7, x8, by simp [passedN, dL]⟩
  | x :: s, out, lv, cm, x6, x7, x8, h => by
    rw [List.length_cons] at h
    obtain ⟨a1, a2, y6, y7, y8, e⟩ := passed_loop S sh b mv s (out ++ [x - min lv (x - b) + min cm (b - x)]) (lv - min lv (x - b)) (cm - min cm (b - x)) (some (.val (.int (x : Int)))) (some (.val (.int ((min lv (x - b) : Nat) : Int)))) (some (.val (.int ((min cm (b - x) : Nat) : Int)))) (by rw [List.length_append, List.length_singleton]; omega)
    refine ⟨a1, a2, y6, y7, y8, ?_⟩
    rw [show dL (x :: s) = .int (x : Int) :: dL s from rfl, forL_cons]
    simp only [pat_nm, setD_cons, setD_nil, List.set]
    rw [passed_turn S sh x6 x7 x8 b mv lv cm x out (by omega), bind_ok_eq]
    dsimp only
    rw [e, passedN, List.append_assoc, List.singleton_append]
theorem passed_ok (s : List Nat) (b mv : Nat) (hl : s.length ≤ 100) (S : Store) : m_p_passed [dT s, .int (b : Int), .int (mv : Int)] S = .ok (dT (passedN b s mv mv)) S := by
  obtain ⟨a1, a2, y6, y7, y8, e⟩ := passed_loop S (some (.val (dT s))) b mv s [] mv mv none none none (by simpa using hl)
  have e' : mForL (.nm 6) b_p_passed_1 (dL s) [some (.val (dT s)), some (.val (.int (b : Int))), some (.val (.int (mv : Int))), some (.own (.lst [])), some (.val (.int (mv : Int))), some (.val (.int (mv : Int))), none, none, none] S = _ := e
  have z0 : 0 ≤ sizeLine := Nat.zero_le _
  unfold m_p_passed b_p_passed
  simp only [bind_ok_eq, bind_bad_eq, mVar_eq, mC_eq, m2_eq, mNil_eq, mPass_eq, mSeq_eq, mSet_eq, mRet_eq, mDrop_eq, mIf_eq, mB_eq, isB_eq, mAndT_eq, mOrT_eq, mNotT_eq, mAnd_eq, mOr_eq, mNot_eq, mIfE_eq, mChain_eq, aNil_eq, aCons_eq, mTup_eq, mDisp_eq, mLst_eq, mLoc_eq, mOwnL_eq, mCall_eq, mCallK_eq, mAsg_eq, mFor_eq, iSeq_eq, iSeqD_lst, iSeqD_tup, iLst_eq, seqD_lst, iLoc_eq, locD_eq, iScr_eq, scrD_eq, iRange1_eq, iRange2_eq, iEnumM_eq, mLc_eq, mYes_eq, mQ_eq, mQL_eq, mA_eq, mB1_eq, hLen_eq, hTup_eq, hList_eq, hAbs_eq, hInt_eq, hIntB_eq, hMax2_eq, hMin2_eq, gNeg_eq, gI_eq, gI0_eq, gIx_tup, gIx_lst, gIx_scr, gIx_loc, mSetC_eq, putC_eq, mApp_eq, mAppC_eq, qOwn_eq, gLen_tup, gLen_lst, gLen_scr, mDNewK_eq, mDGet2_eq, mDPut_eq, mDSet_eq, dictAt_eq, dictR_eq, keyD_int, keyD_str, mPar_eq, sNil_eq, sVal_eq, sOwnL_eq, setSl_nil, setSl_cons, setD_nil, setD_cons, pat_nm, pat_tp, pats_nil, pats_cons, wipeM_nil, wipeM_cons, forL_nil, lcL_nil, n2_eq, atI0, atI1, atI2, gNe_strs, gEq_strs, gNe_ints, gEq_ints, sz_1, sz_2, sz_3, sz_4, sz_5, sz_6, sz_7, sz_8, sz_9, sz_10, sz_11, sz_12, sz_13, sz_14, sz_15, sz_16, sz_17, sz_18, sz_19, sz_20, mLock_eq, nLock_eq, dictVar_eq, iKeysF_eq, keyV_inl, mRest_eq, restAt_eq, mExt_eq, iTup_eq, tupD_tup, mRetO_eq, gIsB_eq, gNotB_eq, gIsN_non, gIsN_int, gIsN_bl, gIsN_str, gIsN_tup, gIsN_lst, gIsN_loc, gNotN_non, gNotN_int, gNotN_bl, gNotN_str, gNotN_tup, gNotN_lst, gNotN_loc, iZip_eq, mAsg2_eq, mAug_eq, hSortedR_eq, mV_eq, mVL_eq, anyD_lst, anyD_tup, anyD_scr, anyD_loc, mIxO_eq, mSetO_eq, oNone_eq, oSome_eq, mSlT_eq, mSlQ_eq, mTruQ_eq, iRg1_eq, iRg2_eq, mNNew_eq, dictT_eq, mNGet1_eq, mNGet2_eq, gNGet_eq, gNIn_eq, putT_eq, setT_eq, mNPut_eq, mNSet_eq, mDGet1_eq, aStar_eq, mDCopy_eq, gDIn_eq, mIns_eq, mRevQ_eq, mKeysL_eq, mItemsL_eq, mDPop_eq, mBad_eq, mAsgS_eq, mAsgSS_eq, hStrI_eq, gReprA_loc, gReprA_tup, gReprA_lst, gReprA_non, gReprA_bl, gReprA_int, gReprA_str, mRevT_eq, Nat.zero_le, Nat.zero_add, Nat.reduceAdd, and_self, mDef_eq, List.getElem?_cons_zero, List.getElem?_cons_succ, List.set, List.length_cons, List.length_nil, List.map_cons, List.map_nil, List.replicate, List.cons_append, List.nil_append, List.append_nil, if_true, if_false, ite_true, ite_false, Bool.false_eq_true, Bool.true_eq_false, Bool.not_true, Bool.not_false, List.zip_cons_cons, List.zip_nil_left, seq_dT, z0, e']
  rfl
theorem room_ok (s : List Nat) (f b : Nat) (h : 0 < s.sum) (hf : f < 100) (hb : b < 2 ^ 60) (S : Store) : m_p_room_over [dT s, .int (f : Int), .int (b : Int)] S = .ok (.int ((mostN s : Nat) - (f * b : Nat) : Int)) S := by
  have c : cMul (f : Int) (b : Int) := cMul_nn (by omega) (by omega) (by omega) (by omega)
  unfold m_p_room_over b_p_room_over
  simp [mDef_eq, most_ok s h, c]
theorem best_ok (s : List Nat) (f : Nat) (h : 0 < s.sum) (h2 : s.sum < 2 ^ 60) (hl : s.length ≤ 100) (hf : 0 < f) (hf2 : f < s.length) (S : Store) :
    m_p_best_bound [dT s, .int (f : Int)] S = .ok (if highN s f < lowN s f then .non else .int ((bestN s f : Nat) : Int)) S := by
  have c1 : cDiv ((mostN s : Nat) : Int) (f : Int) := cDiv_nn (by omega) (by omega)
  have c2 : cDiv (((mostN s : Nat) : Int) - ((s.sum : Nat) : Int)) (((s.length : Nat) : Int) - (f : Int)) := cDiv_nn (by omega) (by omega)
  have e1 : ((mostN s : Nat) : Int) / (f : Int) = ((highN s f : Nat) : Int) := by unfold highN; rw [Int.natCast_ediv]
  have hm : mostN s ≤ s.sum := by unfold mostN; omega
  have e2 : -((((mostN s : Nat) : Int) - ((s.sum : Nat) : Int)) / (((s.length : Nat) : Int) - (f : Int))) = ((lowN s f : Nat) : Int) := by
    unfold lowN
    have d1 : ((s.length : Nat) : Int) - (f : Int) = ((s.length - f : Nat) : Int) := by omega
    have d2 : ((mostN s : Nat) : Int) - ((s.sum : Nat) : Int) = -((s.sum - mostN s : Nat) : Int) := by omega
    have d3 : 0 < s.length - f := by omega
    rw [d1, d2]
    generalize s.sum - mostN s = a
    generalize s.length - f = k at d3
    rw [Int.natCast_ediv]
    have e3 : ((a + (k - 1) : Nat) : Int) = (a : Int) + ((k : Int) - 1) := by omega
    rw [e3]
    have hk : (0 : Int) < (k : Int) := by omega
    have q1 := Int.emod_add_mul_ediv (-(a : Int)) k
    have q2 := Int.emod_nonneg (-(a : Int)) (show (k : Int) ≠ 0 by omega)
    have q3 := Int.emod_lt_of_pos (-(a : Int)) hk
    generalize (-(a : Int)) / (k : Int) = q at *
    generalize (-(a : Int)) % (k : Int) = r at *
    have e4 : (a : Int) + ((k : Int) - 1) = ((k : Int) - 1 - r) + (k : Int) * (-q) := by rw [Int.mul_neg]; omega
    rw [e4, Int.add_mul_ediv_left _ _ (by omega), Int.ediv_eq_zero_of_lt (by omega) (by omega), Int.zero_add]
  have ei : atI (dL (isN true s)) ((f : Int) - 1) = some (.int (((isN true s).getD (f - 1) 0 : Nat) : Int)) := by
    have e3 : (f : Int) - 1 = ((f - 1 : Nat) : Int) := by omega
    rw [e3]
    refine atI_nat ?_
    have hlt : f - 1 < (isN true s).length := by rw [isN_len]; omega
    unfold dL
    rw [List.getElem?_map, List.getElem?_eq_getElem hlt, List.getD_eq_getElem?_getD, List.getElem?_eq_getElem hlt]
    rfl
  have em := most_ok s h S
  have eb : bestN s f = max (lowN s f) (min (highN s f) ((isN true s).getD (f - 1) 0)) := rfl
  generalize (isN true s).getD (f - 1) 0 = z at *
  by_cases hh : highN s f < lowN s f
  · have hd : decide (((highN s f : Nat) : Int) < ((lowN s f : Nat) : Int)) = true := decide_eq_true (by omega)
    rw [if_pos hh]
    unfold m_p_best_bound b_p_best_bound
    simp only [bind_ok_eq, bind_bad_eq, mVar_eq, mC_eq, m2_eq, mNil_eq, mPass_eq, mSeq_eq, mSet_eq, mRet_eq, mDrop_eq, mIf_eq, mB_eq, isB_eq, mAndT_eq, mOrT_eq, mNotT_eq, mAnd_eq, mOr_eq, mNot_eq, mIfE_eq, mChain_eq, aNil_eq, aCons_eq, mTup_eq, mDisp_eq, mLst_eq, mLoc_eq, mOwnL_eq, mCall_eq, mCallK_eq, mAsg_eq, mFor_eq, iSeq_eq, iSeqD_lst, iSeqD_tup, iLst_eq, seqD_lst, iLoc_eq, locD_eq, iScr_eq, scrD_eq, iRange1_eq, iRange2_eq, iEnumM_eq, mLc_eq, mYes_eq, mQ_eq, mQL_eq, mA_eq, mB1_eq, hLen_eq, hTup_eq, hList_eq, hAbs_eq, hInt_eq, hIntB_eq, gNeg_eq, gI_eq, gI0_eq, gIx_tup, gIx_lst, gIx_scr, gIx_loc, mSetC_eq, putC_eq, mApp_eq, mAppC_eq, qOwn_eq, gLen_tup, gLen_lst, gLen_scr, mDNewK_eq, mDGet2_eq, mDPut_eq, mDSet_eq, dictAt_eq, dictR_eq, keyD_int, keyD_str, mPar_eq, sNil_eq, sVal_eq, sOwnL_eq, setSl_nil, setSl_cons, setD_nil, setD_cons, pat_nm, pat_tp, pats_nil, pats_cons, wipeM_nil, wipeM_cons, forL_nil, lcL_nil, n2_eq, atI0, atI1, atI2, gNe_strs, gEq_strs, gNe_ints, gEq_ints, sz_1, sz_2, sz_3, sz_4, sz_5, sz_6, sz_7, sz_8, sz_9, sz_10, sz_11, sz_12, sz_13, sz_14, sz_15, sz_16, sz_17, sz_18, sz_19, sz_20, mLock_eq, nLock_eq, dictVar_eq, iKeysF_eq, keyV_inl, mRest_eq, restAt_eq, mExt_eq, iTup_eq, tupD_tup, mRetO_eq, gIsB_eq, gNotB_eq, gIsN_non, gIsN_int, gIsN_bl, gIsN_str, gIsN_tup, gIsN_lst, gIsN_loc, gNotN_non, gNotN_int, gNotN_bl, gNotN_str, gNotN_tup, gNotN_lst, gNotN_loc, iZip_eq, mAsg2_eq, mAug_eq, hSortedR_eq, mV_eq, mVL_eq, anyD_lst, anyD_tup, anyD_scr, anyD_loc, mIxO_eq, mSetO_eq, oNone_eq, oSome_eq, mSlT_eq, mSlQ_eq, mTruQ_eq, iRg1_eq, iRg2_eq, mNNew_eq, dictT_eq, mNGet1_eq, mNGet2_eq, gNGet_eq, gNIn_eq, putT_eq, setT_eq, mNPut_eq, mNSet_eq, mDGet1_eq, aStar_eq, mDCopy_eq, gDIn_eq, mIns_eq, mRevQ_eq, mKeysL_eq, mItemsL_eq, mDPop_eq, mBad_eq, mAsgS_eq, mAsgSS_eq, hStrI_eq, gReprA_loc, gReprA_tup, gReprA_lst, gReprA_non, gReprA_bl, gReprA_int, gReprA_str, mRevT_eq, Nat.zero_le, Nat.zero_add, Nat.reduceAdd, and_self, mDef_eq, List.getElem?_cons_zero, List.getElem?_cons_succ, List.set, List.length_cons, List.length_nil, List.map_cons, List.map_nil, List.replicate, List.cons_append, List.nil_append, List.append_nil, if_true, if_false, ite_true, ite_false, Bool.false_eq_true, Bool.true_eq_false, Bool.not_true, Bool.not_false, List.zip_cons_cons, List.zip_nil_left, em, any_dT, len_dT, sum_dL, c1, c2, e1, e2, hd, isB_eq]
  · have hd : decide (((highN s f : Nat) : Int) < ((lowN s f : Nat) : Int)) = false := decide_eq_false (by omega)
    rw [if_neg hh, eb]
    unfold m_p_best_bound b_p_best_bound
    simp only [bind_ok_eq, bind_bad_eq, mVar_eq, mC_eq, m2_eq, mNil_eq, mPass_eq, mSeq_eq, mSet_eq, mRet_eq, mDrop_eq, mIf_eq, mB_eq, isB_eq, mAndT_eq, mOrT_eq, mNotT_eq, mAnd_eq, mOr_eq, mNot_eq, mIfE_eq, mChain_eq, aNil_eq, aCons_eq, mTup_eq, mDisp_eq, mLst_eq, mLoc_eq, mOwnL_eq, mCall_eq, mCallK_eq, mAsg_eq, mFor_eq, iSeq_eq, iSeqD_lst, iSeqD_tup, iLst_eq, seqD_lst, iLoc_eq, locD_eq, iScr_eq, scrD_eq, iRange1_eq, iRange2_eq, iEnumM_eq, mLc_eq, mYes_eq, mQ_eq, mQL_eq, mA_eq, mB1_eq, hLen_eq, hTup_eq, hList_eq, hAbs_eq, hInt_eq, hIntB_eq, gNeg_eq, gI_eq, gI0_eq, gIx_tup, gIx_lst, gIx_scr, gIx_loc, mSetC_eq, putC_eq, mApp_eq, mAppC_eq, qOwn_eq, gLen_tup, gLen_lst, gLen_scr, mDNewK_eq, mDGet2_eq, mDPut_eq, mDSet_eq, dictAt_eq, dictR_eq, keyD_int, keyD_str, mPar_eq, sNil_eq, sVal_eq, sOwnL_eq, setSl_nil, setSl_cons, setD_nil, setD_cons, pat_nm, pat_tp, pats_nil, pats_cons, wipeM_nil, wipeM_cons, forL_nil, lcL_nil, n2_eq, atI0, atI1, atI2, gNe_strs, gEq_strs, gNe_ints, gEq_ints, sz_1, sz_2, sz_3, sz_4, sz_5, sz_6, sz_7, sz_8, sz_9, sz_10, sz_11, sz_12, sz_13, sz_14, sz_15, sz_16, sz_17, sz_18, sz_19, sz_20, mLock_eq, nLock_eq, dictVar_eq, iKeysF_eq, keyV_inl, mRest_eq, restAt_eq, mExt_eq, iTup_eq, tupD_tup, mRetO_eq, gIsB_eq, gNotB_eq, gIsN_non, gIsN_int, gIsN_bl, gIsN_str, gIsN_tup, gIsN_lst, gIsN_loc, gNotN_non, gNotN_int, gNotN_bl, gNotN_str, gNotN_tup, gNotN_lst, gNotN_loc, iZip_eq, mAsg2_eq, mAug_eq, hSortedR_eq, mV_eq, mVL_eq, anyD_lst, anyD_tup, anyD_scr, anyD_loc, mIxO_eq, mSetO_eq, oNone_eq, oSome_eq, mSlT_eq, mSlQ_eq, mTruQ_eq, iRg1_eq, iRg2_eq, mNNew_eq, dictT_eq, mNGet1_eq, mNGet2_eq, gNGet_eq, gNIn_eq, putT_eq, setT_eq, mNPut_eq, mNSet_eq, mDGet1_eq, aStar_eq, mDCopy_eq, gDIn_eq, mIns_eq, mRevQ_eq, mKeysL_eq, mItemsL_eq, mDPop_eq, mBad_eq, mAsgS_eq, mAsgSS_eq, hStrI_eq, gReprA_loc, gReprA_tup, gReprA_lst, gReprA_non, gReprA_bl, gReprA_int, gReprA_str, mRevT_eq, Nat.zero_le, Nat.zero_add, Nat.reduceAdd, and_self, mDef_eq, List.getElem?_cons_zero, List.getElem?_cons_succ, List.set, List.length_cons, List.length_nil, List.map_cons, List.map_nil, List.replicate, List.cons_append, List.nil_append, List.append_nil, if_true, if_false, ite_true, ite_false, Bool.false_eq_true, Bool.true_eq_false, Bool.not_true, Bool.not_false, List.zip_cons_cons, List.zip_nil_left, em, any_dT, len_dT, sum_dL, sort_dL, c1, c2, e1, e2, hd, isB_eq, ei, max2, min2]
theorem spread_ok (s : List Nat) (f : Nat) (h : 0 < s.sum) (h2 : s.sum < 2 ^ 60) (hl : s.length ≤ 100) (hf2 : f < s.length) (S : Store) :
    m_p_spread [dT s, .int (f : Int)] S = .ok (dO (spreadN s f)) S := by
  have z2 : 2 ≤ sizeLine := by decide
  unfold m_p_spread b_p_spread
  by_cases hf : f = 0
  · subst hf
    simp [mDef_eq, spreadN, dO, z2]
  · have hf1 : 0 < f := by omega
    have eb := best_ok s f h h2 hl hf1 hf2 S
    have d0 : ((f : Int) = 0) = False := eq_false (by omega)
    by_cases hh : highN s f < lowN s f
    · rw [if_pos hh] at eb
      simp [mDef_eq, spreadN, dO, z2, eb, d0, hf, hh]
    · rw [if_neg hh] at eb
      have hhi : highN s f ≤ s.sum := by unfold highN mostN; exact Nat.le_trans (Nat.div_le_self _ _) (by omega)
      have hb : bestN s f < 2 ^ 60 := by unfold bestN; omega
      have eo := over_ok s (bestN s f) hl S
      have er := room_ok s f (bestN s f) h (by omega) hb S
      have ep := fun m => passed_ok s (bestN s f) m hl S
      have emv : hMax2 [.int 0, .int (((overN s (bestN s f) : Nat) : Int) - (((mostN s : Nat) : Int) - ((f * bestN s f : Nat) : Int)))] S = .ok (.int ((movesN s f (bestN s f) : Nat) : Int)) S := by
        rw [hMax2_eq]
        congr 2
        unfold movesN
        split <;> omega
      have hd : (decide ((f : Int) = 0)) = false := decide_eq_false (by omega)
      have eq : gEqA (.int (f : Int)) (.int 0) S = .ok (.bl false) S := by simp [hf]
      simp only [spreadN, if_neg hf, if_neg hh, dO]
      simp only [bind_ok_eq, bind_bad_eq, mVar_eq, mC_eq, m2_eq, mNil_eq, mPass_eq, mSeq_eq, mSet_eq, mRet_eq, mDrop_eq, mIf_eq, mB_eq, isB_eq, mAndT_eq, mOrT_eq, mNotT_eq, mAnd_eq, mOr_eq, mNot_eq, mIfE_eq, mChain_eq, aNil_eq, aCons_eq, mTup_eq, mDisp_eq, mLst_eq, mLoc_eq, mOwnL_eq, mCall_eq, mCallK_eq, mAsg_eq, mFor_eq, iSeq_eq, iSeqD_lst, iSeqD_tup, iLst_eq, seqD_lst, iLoc_eq, locD_eq, iScr_eq, scrD_eq, iRange1_eq, iRange2_eq, iEnumM_eq, mLc_eq, mYes_eq, mQ_eq, mQL_eq, mA_eq, mB1_eq, hLen_eq, hTup_eq, hList_eq, hAbs_eq, hInt_eq, hIntB_eq, gNeg_eq, gI_eq, gI0_eq, gIx_tup, gIx_lst, gIx_scr, gIx_loc, mSetC_eq, putC_eq, mApp_eq, mAppC_eq, qOwn_eq, gLen_tup, gLen_lst, gLen_scr, mDNewK_eq, mDGet2_eq, mDPut_eq, mDSet_eq, dictAt_eq, dictR_eq, keyD_int, keyD_str, mPar_eq, sNil_eq, sVal_eq, sOwnL_eq, setSl_nil, setSl_cons, setD_nil, setD_cons, pat_nm, pat_tp, pats_nil, pats_cons, wipeM_nil, wipeM_cons, forL_nil, lcL_nil, n2_eq, atI0, atI1, atI2, gNe_strs, gEq_strs, gNe_ints, gEq_ints, sz_1, sz_2, sz_3, sz_4, sz_5, sz_6, sz_7, sz_8, sz_9, sz_10, sz_11, sz_12, sz_13, sz_14, sz_15, sz_16, sz_17, sz_18, sz_19, sz_20, mLock_eq, nLock_eq, dictVar_eq, iKeysF_eq, keyV_inl, mRest_eq, restAt_eq, mExt_eq, iTup_eq, tupD_tup, mRetO_eq, gIsB_eq, gNotB_eq, gIsN_non, gIsN_int, gIsN_bl, gIsN_str, gIsN_tup, gIsN_lst, gIsN_loc, gNotN_non, gNotN_int, gNotN_bl, gNotN_str, gNotN_tup, gNotN_lst, gNotN_loc, iZip_eq, mAsg2_eq, mAug_eq, hSortedR_eq, mV_eq, mVL_eq, anyD_lst, anyD_tup, anyD_scr, anyD_loc, mIxO_eq, mSetO_eq, oNone_eq, oSome_eq, mSlT_eq, mSlQ_eq, mTruQ_eq, iRg1_eq, iRg2_eq, mNNew_eq, dictT_eq, mNGet1_eq, mNGet2_eq, gNGet_eq, gNIn_eq, putT_eq, setT_eq, mNPut_eq, mNSet_eq, mDGet1_eq, aStar_eq, mDCopy_eq, gDIn_eq, mIns_eq, mRevQ_eq, mKeysL_eq, mItemsL_eq, mDPop_eq, mBad_eq, mAsgS_eq, mAsgSS_eq, hStrI_eq, gReprA_loc, gReprA_tup, gReprA_lst, gReprA_non, gReprA_bl, gReprA_int, gReprA_str, mRevT_eq, Nat.zero_le, Nat.zero_add, Nat.reduceAdd, and_self, mDef_eq, List.getElem?_cons_zero, List.getElem?_cons_succ, List.set, List.length_cons, List.length_nil, List.map_cons, List.map_nil, List.replicate, List.cons_append, List.nil_append, List.append_nil, if_true, if_false, ite_true, ite_false, Bool.false_eq_true, Bool.true_eq_false, Bool.not_true, Bool.not_false, List.zip_cons_cons, List.zip_nil_left, eq, isB_eq, eb, eo, er, emv, ep, z2]
end Pm
set_option maxRecDepth 100000
set_option maxHeartbeats 1000000
namespace Pm
open Mo
/-! ### the bound by which the fewest points pass -/
theorem over_nil (b : Nat) : overN [] b = 0 := rfl
theorem over_cons (x : Nat) (s : List Nat) (b : Nat) : overN (x :: s) b = (x - b) + overN s b := by unfold overN; rw [List.map_cons, List.sum_cons]
theorem over_app (s t : List Nat) (b : Nat) : overN (s ++ t) b = overN s b + overN t b := by unfold overN; rw [List.map_append, List.sum_append]
theorem over_ins (bb : Bool) (x b : Nat) : ∀ ys, overN (insN bb x ys) b = (x - b) + overN ys b
  | [] => by rw [insN, over_cons]
  | y :: ys => by
    rw [insN]
    split
    · rw [over_cons]
    · rw [over_cons, over_ins bb x b ys, over_cons]; omega
theorem over_sort (bb : Bool) (b : Nat) : ∀ s, overN (isN bb s) b = overN s b
  | [] => rfl
  | x :: s => by rw [isN, over_ins, over_sort bb b s, over_cons]
theorem over_mono {b c : Nat} (h : b ≤ c) : ∀ s, overN s c ≤ overN s b
  | [] => Nat.le_refl _
  | x :: s => by have := over_mono h s; rw [over_cons, over_cons]; omega
theorem over_zero {b : Nat} : ∀ s : List Nat, (∀ x ∈ s, x ≤ b) → overN s b = 0
  | [], _ => rfl
  | x :: s, h => by
    have h1 := h x List.mem_cons_self
    rw [over_cons, over_zero s fun y hy => h y (List.mem_cons_of_mem _ hy)]; omega
theorem over_all {b c : Nat} (h : b ≤ c) : ∀ s : List Nat, (∀ x ∈ s, c ≤ x) → overN s b = overN s c + s.length * (c - b)
  | [], _ => by simp [overN]
  | x :: s, hx => by
    have h1 := hx x List.mem_cons_self
    have h2 := over_all h s fun y hy => hx y (List.mem_cons_of_mem _ hy)
    rw [over_cons, over_cons, h2, List.length_cons, Nat.succ_mul]; omega
theorem over_le {b c : Nat} (h : b ≤ c) : ∀ s : List Nat, overN s b ≤ overN s c + s.length * (c - b)
  | [] => by simp [overN]
  | x :: s => by
    have h2 := over_le h s
    rw [over_cons, over_cons, List.length_cons, Nat.succ_mul]; omega
theorem sum_le_over (b : Nat) : ∀ s : List Nat, s.sum ≤ s.length * b + overN s b
  | [] => by simp
  | x :: s => by
    have h2 := sum_le_over b s
    rw [over_cons, List.sum_cons, List.length_cons, Nat.succ_mul]; omega
/-- the greatest first -/
theorem sort_ge (s : List Nat) : (isN true s).Pairwise (· ≥ ·) := by
  have h := isI_ord true (s.map fun n : Nat => (n : Int))
  rw [← isN_eq, List.pairwise_map] at h
  exact h.imp fun h => by simp [ordI] at h; omega
theorem sort_le (s : List Nat) : (isN false s).Pairwise (· ≤ ·) := by
  have h := isI_ord false (s.map fun n : Nat => (n : Int))
  rw [← isN_eq, List.pairwise_map] at h
  exact h.imp fun h => by simp [ordI] at h; omega
theorem split_at (d : List Nat) (f : Nat) (h1 : 0 < f) (h2 : f ≤ d.length) (hd : d.Pairwise (· ≥ ·)) : (∀ x ∈ d.take f, d.getD (f - 1) 0 ≤ x) ∧ (∀ x ∈ d.drop f, x ≤ d.getD (f - 1) 0) := by
  have hg : d.getD (f - 1) 0 = d[f - 1]'(by omega) := by rw [List.getD_eq_getElem?_getD, List.getElem?_eq_getElem (by omega)]; rfl
  rw [hg]
  constructor
  · intro x hx
    obtain ⟨i, hi, rfl⟩ := List.mem_iff_getElem.mp hx
    rw [List.length_take] at hi
    rw [List.getElem_take]
    by_cases e : i = f - 1
    · subst e; exact Nat.le_refl _
    · exact List.pairwise_iff_getElem.mp hd i (f - 1) (by omega) (by omega) (by omega)
  · intro x hx
    obtain ⟨i, hi, rfl⟩ := List.mem_iff_getElem.mp hx
    rw [List.length_drop] at hi
    rw [List.getElem_drop]
    exact List.pairwise_iff_getElem.mp hd (f - 1) (f + i) (by omega) (by omega) (by omega)
theorem best_low {s : List Nat} {f b c : Nat} (h1 : 0 < f) (h2 : f ≤ s.length) (hbc : b ≤ c) (hc : c ≤ (isN true s).getD (f - 1) 0) : overN s c + f * c ≤ overN s b + f * b := by
  have hl : f ≤ (isN true s).length := by rw [isN_len]; exact h2
  obtain ⟨p1, _⟩ := split_at (isN true s) f h1 hl (sort_ge s)
  have e := List.take_append_drop f (isN true s)
  rw [← over_sort true b s, ← over_sort true c s, ← e, over_app, over_app]
  have q1 := over_all hbc ((isN true s).take f) fun x hx => Nat.le_trans hc (p1 x hx)
  have q2 := over_mono hbc ((isN true s).drop f)
  rw [List.length_take, Nat.min_eq_left hl] at q1
  have q3 : f * c = f * (c - b) + f * b := by rw [← Nat.mul_add]; congr 1; omega
  omega
theorem best_high {s : List Nat} {f b c : Nat} (h1 : 0 < f) (h2 : f ≤ s.length) (hbc : b ≤ c) (hc : (isN true s).getD (f - 1) 0 ≤ b) : overN s b + f * b ≤ overN s c + f * c := by
  have hl : f ≤ (isN true s).length := by rw [isN_len]; exact h2
  obtain ⟨_, p2⟩ := split_at (isN true s) f h1 hl (sort_ge s)
  have e := List.take_append_drop f (isN true s)
  rw [← over_sort true b s, ← over_sort true c s, ← e, over_app, over_app]
  have q1 := over_le hbc ((isN true s).take f)
  have q2 := over_zero ((isN true s).drop f) fun x hx => Nat.le_trans (p2 x hx) hc
  rw [List.length_take, Nat.min_eq_left hl] at q1
  have q3 : f * c = f * (c - b) + f * b := by rw [← Nat.mul_add]; congr 1; omega
  omega
theorem best_in {s : List Nat} {f : Nat} (hlh : lowN s f ≤ highN s f) : lowN s f ≤ bestN s f ∧ bestN s f ≤ highN s f := by unfold bestN; omega
theorem best_least {s : List Nat} {f v : Nat} (h1 : 0 < f) (h2 : f ≤ s.length) (hv : lowN s f ≤ v ∧ v ≤ highN s f) : movesN s f (bestN s f) ≤ movesN s f v := by
  have key : overN s (bestN s f) + f * bestN s f ≤ overN s v + f * v := by
    unfold bestN
    generalize hx : (isN true s).getD (f - 1) 0 = x
    by_cases c1 : x < lowN s f
    · rw [show max (lowN s f) (min (highN s f) x) = lowN s f by omega]
      exact best_high h1 h2 hv.1 (by omega)
    · by_cases c2 : highN s f < x
      · rw [show max (lowN s f) (min (highN s f) x) = highN s f by omega]
        exact best_low h1 h2 hv.2 (by omega)
      · rw [show max (lowN s f) (min (highN s f) x) = x by omega]
        by_cases c3 : v ≤ x
        · exact best_low h1 h2 c3 (by omega)
        · exact best_high h1 h2 (by omega) (by omega)
  unfold movesN
  omega
theorem best_is (s : List Nat) (f : Nat) : bestN s f = lowN s f ∨ bestN s f = highN s f ∨ (bestN s f = (isN true s).getD (f - 1) 0) := by unfold bestN; omega
theorem insN_mem (b : Bool) (x : Nat) : ∀ ys z, z ∈ insN b x ys ↔ z = x ∨ z ∈ ys
  | [], z => by simp [insN]
  | y :: ys, z => by
    rw [insN]
    split
    · simp
    · rw [List.mem_cons, insN_mem b x ys z, List.mem_cons]
      constructor
      · rintro (h | h | h) <;> simp [h]
      · rintro (h | h | h) <;> simp [h]
theorem isN_mem (b : Bool) : ∀ ys z, z ∈ isN b ys ↔ z ∈ ys
  | [], z => Iff.rfl
  | y :: ys, z => by rw [isN, insN_mem, isN_mem b ys z, List.mem_cons]
theorem getD_mem' {d : List Nat} {i : Nat} (h : i < d.length) : d.getD i 0 ∈ d := by
  rw [List.getD_eq_getElem?_getD, List.getElem?_eq_getElem h]; exact List.getElem_mem h
/-! ### what passes -/
def underN (s : List Nat) (b : Nat) : Nat := (s.map fun x => b - x).sum
theorem under_cons (x : Nat) (s : List Nat) (b : Nat) : underN (x :: s) b = (b - x) + underN s b := by unfold underN; rw [List.map_cons, List.sum_cons]
theorem under_over (b : Nat) : ∀ s : List Nat, underN s b + s.sum = overN s b + s.length * b
  | [] => by simp [underN, overN]
  | x :: s => by
    have := under_over b s
    rw [under_cons, over_cons, List.sum_cons, List.length_cons, Nat.succ_mul]; omega
theorem passed_len (b : Nat) : ∀ s lv cm, (passedN b s lv cm).length = s.length
  | [], _, _ => rfl
  | x :: s, lv, cm => by rw [passedN, List.length_cons, passed_len b s, List.length_cons]
/-- how many left, how many came -/
theorem passed_sum (b : Nat) : ∀ s lv cm, (passedN b s lv cm).sum + min lv (overN s b) = s.sum + min cm (underN s b)
  | [], lv, cm => by simp [passedN, overN, underN]
  | x :: s, lv, cm => by
    have := passed_sum b s (lv - min lv (x - b)) (cm - min cm (b - x))
    rw [passedN, List.sum_cons, List.sum_cons, over_cons, under_cons]
    omega
theorem passed_moved (b : Nat) : ∀ s lv cm, ((s.zip (passedN b s lv cm)).map fun p => p.1 - p.2).sum = min lv (overN s b)
  | [], lv, cm => by simp [passedN, overN]
  | x :: s, lv, cm => by
    have := passed_moved b s (lv - min lv (x - b)) (cm - min cm (b - x))
    rw [passedN, List.zip_cons_cons, List.map_cons, List.sum_cons, this, over_cons]
    dsimp only
    omega
theorem passed_over (b : Nat) : ∀ s lv cm, overN (passedN b s lv cm) b + min lv (overN s b) = overN s b
  | [], lv, cm => by simp [passedN, overN]
  | x :: s, lv, cm => by
    have := passed_over b s (lv - min lv (x - b)) (cm - min cm (b - x))
    rw [passedN, over_cons, over_cons]
    omega
/-- all that is asked of what spread tells -/
theorem spread_right {s : List Nat} {f : Nat} (h0 : 0 < s.sum) (h1 : 0 < f) (h2 : f < s.length) (hlh : lowN s f ≤ highN s f) :
    let b := bestN s f; let m := movesN s f b; let r := passedN b s m m
    r.length = s.length ∧ r.sum = s.sum ∧ ((s.zip r).map fun p => p.1 - p.2).sum = m ∧ f * b + overN r b ≤ mostN s := by
  intro b m r
  obtain ⟨hb1, hb2⟩ := best_in hlh
  have q1 : f * b ≤ mostN s := by
    have : b * f ≤ mostN s := by
      have := Nat.mul_le_mul_right f hb2
      unfold highN at this
      exact Nat.le_trans this (Nat.div_mul_le_self _ _)
    rw [Nat.mul_comm]; exact this
  have q2 : s.sum - mostN s ≤ (s.length - f) * b := by
    have hk : 0 < s.length - f := by omega
    have h3 := Nat.lt_mul_div_succ (s.sum - mostN s + (s.length - f - 1)) hk
    have h4 : (s.length - f) * lowN s f ≤ (s.length - f) * b := Nat.mul_le_mul_left _ hb1
    unfold lowN at h4
    rw [Nat.mul_add, Nat.mul_one] at h3
    omega
  have hm : mostN s ≤ s.sum := by unfold mostN; omega
  have q3 := under_over b s
  have q4 : s.length * b = (s.length - f) * b + f * b := by rw [← Nat.add_mul]; congr 1; omega
  have e1 : min m (overN s b) = m := by
    have : m = overN s b + f * b - mostN s := rfl
    omega
  have e2 : min m (underN s b) = m := by
    have : m = overN s b + f * b - mostN s := rfl
    omega
  have p1 := passed_sum b s m m
  have p2 := passed_moved b s m m
  have p3 := passed_over b s m m
  rw [e1] at p1 p2 p3
  rw [e2] at p1
  refine ⟨passed_len b s m m, by show (passedN b s m m).sum = s.sum; omega, p2, ?_⟩
  have : m = overN s b + f * b - mostN s := rfl
  show f * b + overN (passedN b s m m) b ≤ mostN s
  omega
theorem top_le (r : List Nat) (f b : Nat) (h : f ≤ r.length) : ((isN false r).drop (r.length - f)).sum ≤ f * b + overN r b := by
  have h1 := sum_le_over b ((isN false r).drop (r.length - f))
  rw [List.length_drop, isN_len] at h1
  have h2 : overN ((isN false r).drop (r.length - f)) b ≤ overN r b := by
    rw [← over_sort false b r]
    have e := List.take_append_drop (r.length - f) (isN false r)
    have := congrArg (fun l => overN l b) e
    rw [over_app] at this
    omega
  rw [show r.length - (r.length - f) = f by omega] at h1
  omega
end Pm
set_option maxRecDepth 100000
set_option maxHeartbeats 4000000
namespace K60
open PySem PySem.Spec PyProof.Rows L2 Mo Pm

def topS (i : Nat) : Stmt := PySem.Challenge.pw_ridingvotes_k60_spread_looked_at.main.body.getD i (.Pass ⟨0, 0, 0, 0⟩)
/-! is_from -/
abbrev s_p_is_from : Stmt := topS 1
abbrev n_p_is_from : List Str := ["thing", "least"]
theorem sc_p_is_from : FnScope n_p_is_from ["thing", "least"] (defScope s_p_is_from) := ⟨rfl, rfl, rfl, by decide +kernel, rfl, by decide +kernel, by decide +kernel⟩
theorem ok_p_is_from {P : Program} {w : World} {K : PySem.W.Frag} {mg : Str → Option Value} {base : Heap} {a : Addr} {fd : FuncData} (F : Fun K "is_from" "is_from" s_p_is_from a fd) (z_bool : mg "bool" = none) (z_int : mg "int" = none) (z_isinstance : mg "isinstance" = none) :
    FnG P w K mg base CX0 1 a fd ["thing", "least"] (spM K 2 m_p_is_from) := by
  refine def_ok F sc_p_is_from ?_
  intro cdv A out s H E hgd hr
  exact ((ssm_one (sm_ret (em_and (em_isi (am_cons (em_var (pv 0)) (am_cons (em_ty (by rfl) z_int (by decide +kernel)) am_nil)) (by rfl) z_isinstance) (em_and (em_not (em_isi (am_cons (em_var (pv 0)) (am_cons (em_ty (by rfl) z_bool (by decide +kernel)) am_nil)) (by rfl) z_isinstance)) (em_one (em_cmp op_ge od_ge (em_var (pv 0)) (em_var (pv 1)) (nomark _))))))))

/-! has_parts -/
abbrev s_p_has_parts : Stmt := topS 2
abbrev n_p_has_parts : List Str := ["thing", "many"]
theorem sc_p_has_parts : FnScope n_p_has_parts ["thing", "many"] (defScope s_p_has_parts) := ⟨rfl, rfl, rfl, by decide +kernel, rfl, by decide +kernel, by decide +kernel⟩
theorem ok_p_has_parts {P : Program} {w : World} {K : PySem.W.Frag} {mg : Str → Option Value} {base : Heap} {a : Addr} {fd : FuncData} (F : Fun K "has_parts" "has_parts" s_p_has_parts a fd) (z_isinstance : mg "isinstance" = none) (z_len : mg "len" = none) (z_tuple : mg "tuple" = none) :
    FnG P w K mg base CX0 1 a fd ["thing", "many"] (spM K 2 m_p_has_parts) := by
  refine def_ok F sc_p_has_parts ?_
  intro cdv A out s H E hgd hr
  exact ((ssm_one (sm_ret (em_and (em_isi (am_cons (em_var (pv 0)) (am_cons (em_ty (by rfl) z_tuple (by decide +kernel)) am_nil)) (by rfl) z_isinstance) (em_one (em_cmp (op_eqA hr.units) od_eqA (em_lenV (em_var (pv 0)) (by rfl) z_len) (em_var (pv 1)) (nomark _)))))))

/-! most_to_fall -/
abbrev s_p_most_to_fall : Stmt := topS 5
abbrev n_p_most_to_fall : List Str := ["shares"]
theorem sc_p_most_to_fall : FnScope n_p_most_to_fall ["shares"] (defScope s_p_most_to_fall) := ⟨rfl, rfl, rfl, by decide +kernel, rfl, by decide +kernel, by decide +kernel⟩
theorem ok_p_most_to_fall {P : Program} {w : World} {K : PySem.W.Frag} {mg : Str → Option Value} {base : Heap} {a : Addr} {fd : FuncData} (F : Fun K "most_to_fall" "most_to_fall" s_p_most_to_fall a fd) (z_sum : mg "sum" = none) :
    FnG P w K mg base CX0 1 a fd ["shares"] (spM K 1 m_p_most_to_fall) := by
  refine def_ok F sc_p_most_to_fall ?_
  intro cdv A out s H E hgd hr
  exact ((ssm_one (sm_ret (em_op op_fdivW od_div (em_op op_sub od_sub (em_sumV rfl (em_var (pv 0)) (by rfl) z_sum) em_int) em_int))))

/-! best_bound -/
abbrev s_p_best_bound : Stmt := topS 8
abbrev n_p_best_bound : List Str := ["shares", "falls", "most", "high", "low", "best"]
theorem sc_p_best_bound : FnScope n_p_best_bound ["shares", "falls"] (defScope s_p_best_bound) := ⟨rfl, rfl, rfl, by decide +kernel, rfl, by decide +kernel, by decide +kernel⟩
theorem ok_p_best_bound {P : Program} {w : World} {K : PySem.W.Frag} {mg : Str → Option Value} {base : Heap} {a : Addr} {fd : FuncData} (F : Fun K "best_bound" "best_bound" s_p_best_bound a fd) {a_p_most_to_fall : Addr} {fd_p_most_to_fall : FuncData} (C_p_most_to_fall : Own P w K mg base 1 1 "most_to_fall" ["shares"] a_p_most_to_fall fd_p_most_to_fall m_p_most_to_fall) (B_p_most_to_fall : Binds K fd_p_most_to_fall ["shares"] []) (z_len : mg "len" = none) (z_max : mg "max" = none) (z_min : mg "min" = none) (z_sorted : mg "sorted" = none) (z_sum : mg "sum" = none) :
    FnG P w K mg base CX0 2 a fd ["shares", "falls"] (spM K 2 m_p_best_bound) := by
  refine def_ok F sc_p_best_bound ?_
  intro cdv A out s H E hgd hr
  exact ((ssm_cons (sm_set (ps_set (i := 2) sc_p_best_bound.nd rfl (Or.inl rfl) (em_own C_p_most_to_fall B_p_most_to_fall hgd (hr.mono (by decide)) (by rfl) (am_cons (em_var (pv 0)) am_nil))))
    (ssm_cons (sm_set (ps_set (i := 3) sc_p_best_bound.nd rfl (Or.inl rfl) (em_op op_fdivW od_div (em_var (pv 2)) (em_var (pv 1)))))
    (ssm_cons (sm_set (ps_set (i := 4) sc_p_best_bound.nd rfl (Or.inl rfl) (em_neg (em_op op_fdivW od_div (em_op op_sub od_sub (em_var (pv 2)) (em_sumV rfl (em_var (pv 0)) (by rfl) z_sum)) (em_op op_sub od_sub (em_lenV (em_var (pv 0)) (by rfl) z_len) (em_var (pv 1)))))))
    (ssm_cons (sm_if (tm_cmp op_gt od_gt (em_var (pv 4)) (em_var (pv 3)) (nomark _)) (ssm_one (sm_ret em_non)) ssm_nil)
    (ssm_cons (sm_set (ps_set (i := 5) sc_p_best_bound.nd rfl (Or.inl rfl) (em_ix ix_seq od_ix (em_new (nm_sortVR hr.units (em_var (pv 0)) (by rfl) z_sorted)) (em_op op_sub od_sub (em_var (pv 1)) em_int) (fun _ _ => rfl))))
    (ssm_one (sm_ret (em_max2 rfl (am_cons (em_var (pv 4)) (am_cons (em_min2 rfl (am_cons (em_var (pv 3)) (am_cons (em_var (pv 5)) am_nil)) (by rfl) z_min) am_nil)) (by rfl) z_max)))))))))

/-! passed -/
abbrev s_p_passed : Stmt := topS 9
abbrev n_p_passed : List Str := ["shares", "bound", "moves", "behind", "leaving", "coming", "share", "leaves", "comes"]
theorem sc_p_passed : FnScope n_p_passed ["shares", "bound", "moves"] (defScope s_p_passed) := ⟨rfl, rfl, rfl, by decide +kernel, rfl, by decide +kernel, by decide +kernel⟩
theorem ok_p_passed {P : Program} {w : World} {K : PySem.W.Frag} {mg : Str → Option Value} {base : Heap} {a : Addr} {fd : FuncData} (F : Fun K "passed" "passed" s_p_passed a fd) (z_max : mg "max" = none) (z_min : mg "min" = none) (z_tuple : mg "tuple" = none) :
    FnG P w K mg base CX0 1 a fd ["shares", "bound", "moves"] (spM K 3 m_p_passed) := by
  refine def_ok F sc_p_passed ?_
  intro cdv A out s H E hgd hr
  exact ((ssm_cons (sm_own (ps_set (i := 3) sc_p_passed.nd rfl (Or.inl rfl) (nm_lst am_nil)))
    (ssm_cons (sm_asg2 (ps_asg2 (em_var (pv 2)) (pg_name (i := 4) sc_p_passed.nd rfl (Or.inl rfl)) (pg_name (i := 5) sc_p_passed.nd rfl (Or.inl rfl))))
    (ssm_cons (sm_for PassesOwn.never rfl (im_seq (em_var (pv 0))) (gm_name (pg_name (i := 6) sc_p_passed.nd rfl (Or.inl rfl)))
    (ssm_cons (sm_set (ps_set (i := 7) sc_p_passed.nd rfl (Or.inl rfl) (em_min2 rfl (am_cons (em_var (pv 4)) (am_cons (em_max2 rfl (am_cons em_int (am_cons (em_op op_sub od_sub (em_var (pv 6)) (em_var (pv 1))) am_nil)) (by rfl) z_max) am_nil)) (by rfl) z_min)))
    (ssm_cons (sm_set (ps_set (i := 8) sc_p_passed.nd rfl (Or.inl rfl) (em_min2 rfl (am_cons (em_var (pv 5)) (am_cons (em_max2 rfl (am_cons em_int (am_cons (em_op op_sub od_sub (em_var (pv 1)) (em_var (pv 6))) am_nil)) (by rfl) z_max) am_nil)) (by rfl) z_min)))
    (ssm_cons (sm_aug (h := (fun i j => i - j)) (ps_aug (i := 4) sc_p_passed.nd rfl (Or.inl rfl) (em_var (pv 7)) ip_sub))
    (ssm_cons (sm_aug (h := (fun i j => i - j)) (ps_aug (i := 5) sc_p_passed.nd rfl (Or.inl rfl) (em_var (pv 8)) ip_sub))
    (ssm_one (sm_append (pv 3) (em_op op_add od_add (em_op op_sub od_sub (em_var (pv 6)) (em_var (pv 7))) (em_var (pv 8))))))))))
    (ssm_one (sm_ret (em_tupleQ (qm_own (pv 3)) (by rfl) z_tuple)))))))

/-! over -/
abbrev s_p_over : Stmt := topS 6
abbrev n_p_over : List Str := ["shares", "bound", "share"]
theorem sc_p_over : FnScope n_p_over ["shares", "bound"] (defScope s_p_over) := ⟨rfl, rfl, rfl, by decide +kernel, rfl, by decide +kernel, by decide +kernel⟩
theorem ok_p_over {P : Program} {w : World} {K : PySem.W.Frag} {mg : Str → Option Value} {base : Heap} {a : Addr} {fd : FuncData} (F : Fun K "over" "over" s_p_over a fd) (z_max : mg "max" = none) (z_sum : mg "sum" = none) :
    FnG P w K mg base CX0 1 a fd ["shares", "bound"] (spM K 2 m_p_over) := by
  refine def_ok F sc_p_over ?_
  intro cdv A out s H E hgd hr
  exact ((ssm_one (sm_ret (em_sum rfl (qm_new (nm_lc (own := [("share", 2)]) rfl sc_p_over.nd (im_seq (em_var (pv 0))) (blkOk_by (N := n_p_over) (sc := defScope s_p_over) (by decide +kernel)) (by decide) (fun _ _ _ _ _ => (gm_name (pg_name (i := 2) sc_p_over.nd rfl (Or.inl rfl)))) (fun _ _ _ _ _ => tsm_nil) (fun _ _ _ _ _ => (em_max2 rfl (am_cons em_int (am_cons (em_op op_sub od_sub (em_var (pv 2)) (em_var (pv 1))) am_nil)) (by rfl) z_max)))) (by rfl) z_sum))))

/-! room_over -/
abbrev s_p_room_over : Stmt := topS 7
abbrev n_p_room_over : List Str := ["shares", "falls", "bound"]
theorem sc_p_room_over : FnScope n_p_room_over ["shares", "falls", "bound"] (defScope s_p_room_over) := ⟨rfl, rfl, rfl, by decide +kernel, rfl, by decide +kernel, by decide +kernel⟩
theorem ok_p_room_over {P : Program} {w : World} {K : PySem.W.Frag} {mg : Str → Option Value} {base : Heap} {a : Addr} {fd : FuncData} (F : Fun K "room_over" "room_over" s_p_room_over a fd) {a_p_most_to_fall : Addr} {fd_p_most_to_fall : FuncData} (C_p_most_to_fall : Own P w K mg base 1 1 "most_to_fall" ["shares"] a_p_most_to_fall fd_p_most_to_fall m_p_most_to_fall) (B_p_most_to_fall : Binds K fd_p_most_to_fall ["shares"] []) :
    FnG P w K mg base CX0 2 a fd ["shares", "falls", "bound"] (spM K 3 m_p_room_over) := by
  refine def_ok F sc_p_room_over ?_
  intro cdv A out s H E hgd hr
  exact ((ssm_one (sm_ret (em_op op_sub od_sub (em_own C_p_most_to_fall B_p_most_to_fall hgd (hr.mono (by decide)) (by rfl) (am_cons (em_var (pv 0)) am_nil)) (em_op op_mulW od_mul (em_var (pv 1)) (em_var (pv 2)))))))

/-! spread -/
abbrev s_p_spread : Stmt := topS 4
abbrev n_p_spread : List Str := ["shares", "falls", "bound", "moves"]
theorem sc_p_spread : FnScope n_p_spread ["shares", "falls"] (defScope s_p_spread) := ⟨rfl, rfl, rfl, by decide +kernel, rfl, by decide +kernel, by decide +kernel⟩
theorem ok_p_spread {P : Program} {w : World} {K : PySem.W.Frag} {mg : Str → Option Value} {base : Heap} {a : Addr} {fd : FuncData} (F : Fun K "spread" "spread" s_p_spread a fd) {a_p_best_bound : Addr} {fd_p_best_bound : FuncData} (C_p_best_bound : Own P w K mg base 2 2 "best_bound" ["shares", "falls"] a_p_best_bound fd_p_best_bound m_p_best_bound) (B_p_best_bound : Binds K fd_p_best_bound ["shares", "falls"] []) {a_p_over : Addr} {fd_p_over : FuncData} (C_p_over : Own P w K mg base 1 2 "over" ["shares", "bound"] a_p_over fd_p_over m_p_over) (B_p_over : Binds K fd_p_over ["shares", "bound"] []) {a_p_passed : Addr} {fd_p_passed : FuncData} (C_p_passed : Own P w K mg base 1 3 "passed" ["shares", "bound", "moves"] a_p_passed fd_p_passed m_p_passed) (B_p_passed : Binds K fd_p_passed ["shares", "bound", "moves"] []) {a_p_room_over : Addr} {fd_p_room_over : FuncData} (C_p_room_over : Own P w K mg base 2 3 "room_over" ["shares", "falls", "bound"] a_p_room_over fd_p_room_over m_p_room_over) (B_p_room_over : Binds K fd_p_room_over ["shares", "falls", "bound"] []) (z_max : mg "max" = none) :
    FnG P w K mg base CX0 3 a fd ["shares", "falls"] (spM K 2 m_p_spread) := by
  refine def_ok F sc_p_spread ?_
  intro cdv A out s H E hgd hr
  exact ((ssm_cons (sm_if (tm_cmp (op_eqA hr.units) od_eqA (em_var (pv 1)) em_int (nomark _)) (ssm_one (sm_ret (em_tup (am_cons em_int (am_cons (em_var (pv 0)) am_nil))))) ssm_nil)
    (ssm_cons (sm_set (ps_set (i := 2) sc_p_spread.nd rfl (Or.inl rfl) (em_own C_p_best_bound B_p_best_bound hgd (hr.mono (by decide)) (by rfl) (am_cons (em_var (pv 0)) (am_cons (em_var (pv 1)) am_nil)))))
    (ssm_cons (sm_if (tm_cmp op_isN od_isN (em_var (pv 2)) em_non (nomark _)) (ssm_one (sm_ret em_non)) ssm_nil)
    (ssm_cons (sm_set (ps_set (i := 3) sc_p_spread.nd rfl (Or.inl rfl) (em_max2 rfl (am_cons em_int (am_cons (em_op op_sub od_sub (em_own C_p_over B_p_over hgd (hr.mono (by decide)) (by rfl) (am_cons (em_var (pv 0)) (am_cons (em_var (pv 2)) am_nil))) (em_own C_p_room_over B_p_room_over hgd (hr.mono (by decide)) (by rfl) (am_cons (em_var (pv 0)) (am_cons (em_var (pv 1)) (am_cons (em_var (pv 2)) am_nil))))) am_nil)) (by rfl) z_max)))
    (ssm_one (sm_ret (em_tup (am_cons (em_var (pv 3)) (am_cons (em_own C_p_passed B_p_passed hgd (hr.mono (by decide)) (by rfl) (am_cons (em_var (pv 0)) (am_cons (em_var (pv 2)) (am_cons (em_var (pv 3)) am_nil)))) am_nil))))))))))

/-! bears -/
abbrev s_p_bears : Stmt := topS 11
abbrev n_p_bears : List Str := ["shares", "falls"]
theorem sc_p_bears : FnScope n_p_bears ["shares", "falls"] (defScope s_p_bears) := ⟨rfl, rfl, rfl, by decide +kernel, rfl, by decide +kernel, by decide +kernel⟩
theorem ok_p_bears {P : Program} {w : World} {K : PySem.W.Frag} {mg : Str → Option Value} {base : Heap} {a : Addr} {fd : FuncData} (F : Fun K "bears" "bears" s_p_bears a fd) {a_p_most_to_fall : Addr} {fd_p_most_to_fall : FuncData} (C_p_most_to_fall : Own P w K mg base 1 1 "most_to_fall" ["shares"] a_p_most_to_fall fd_p_most_to_fall m_p_most_to_fall) (B_p_most_to_fall : Binds K fd_p_most_to_fall ["shares"] []) (z_sorted : mg "sorted" = none) (z_sum : mg "sum" = none) :
    FnG P w K mg base CX0 2 a fd ["shares", "falls"] (spM K 2 m_p_bears) := by
  refine def_ok F sc_p_bears ?_
  intro cdv A out s H E hgd hr
  exact ((ssm_one (sm_ret (em_cmp op_le od_le (em_sum rfl (qm_new (nm_slL (em_new (nm_sortVR hr.units (em_var (pv 0)) (by rfl) z_sorted)) om_none (om_some (em_var (pv 1))))) (by rfl) z_sum) (em_own C_p_most_to_fall B_p_most_to_fall hgd (hr.mono (by decide)) (by rfl) (am_cons (em_var (pv 0)) am_nil)) (nomark _)))))

/-! shows_spread -/
abbrev s_p_shows_spread : Stmt := topS 10
abbrev n_p_shows_spread : List Str := ["shares", "falls", "thing", "least", "moves", "behind", "share", "ahead"]
theorem sc_p_shows_spread : FnScope n_p_shows_spread ["shares", "falls", "thing"] (defScope s_p_shows_spread) := ⟨rfl, rfl, rfl, by decide +kernel, rfl, by decide +kernel, by decide +kernel⟩
theorem ok_p_shows_spread {P : Program} {w : World} {K : PySem.W.Frag} {mg : Str → Option Value} {base : Heap} {a : Addr} {fd : FuncData} (F : Fun K "shows_spread" "shows_spread" s_p_shows_spread a fd) {a_p_bears : Addr} {fd_p_bears : FuncData} (C_p_bears : Own P w K mg base 2 2 "bears" ["shares", "falls"] a_p_bears fd_p_bears m_p_bears) (B_p_bears : Binds K fd_p_bears ["shares", "falls"] []) {a_p_has_parts : Addr} {fd_p_has_parts : FuncData} (C_p_has_parts : Own P w K mg base 1 2 "has_parts" ["thing", "many"] a_p_has_parts fd_p_has_parts m_p_has_parts) (B_p_has_parts : Binds K fd_p_has_parts ["thing", "many"] []) {a_p_is_from : Addr} {fd_p_is_from : FuncData} (C_p_is_from : Own P w K mg base 1 2 "is_from" ["thing", "least"] a_p_is_from fd_p_is_from m_p_is_from) (B_p_is_from : Binds K fd_p_is_from ["thing", "least"] []) {a_p_spread : Addr} {fd_p_spread : FuncData} (C_p_spread : Own P w K mg base 3 2 "spread" ["shares", "falls"] a_p_spread fd_p_spread m_p_spread) (B_p_spread : Binds K fd_p_spread ["shares", "falls"] []) (z_all : mg "all" = none) (z_len : mg "len" = none) (z_max : mg "max" = none) (z_sum : mg "sum" = none) (z_zip : mg "zip" = none) :
    FnG P w K mg base CX0 4 a fd ["shares", "falls", "thing"] (spM K 3 m_p_shows_spread) := by
  refine def_ok F sc_p_shows_spread ?_
  intro cdv A out s H E hgd hr
  exact ((ssm_cons (sm_set (ps_set (i := 3) sc_p_shows_spread.nd rfl (Or.inl rfl) (em_own C_p_spread B_p_spread hgd (hr.mono (by decide)) (by rfl) (am_cons (em_var (pv 0)) (am_cons (em_var (pv 1)) am_nil)))))
    (ssm_cons (sm_if (tm_cmp op_isN od_isN (em_var (pv 3)) em_non (nomark _)) (ssm_one (sm_ret (em_cmp op_isN od_isN (em_var (pv 2)) em_non (nomark _)))) ssm_nil)
    (ssm_cons (sm_if (WM.tm (wm_or (tm_not (tm_val (em_own C_p_has_parts B_p_has_parts hgd (hr.mono (by decide)) (by rfl) (am_cons (em_var (pv 2)) (am_cons em_int am_nil))))) (wm_or (tm_not (tm_val (em_own C_p_is_from B_p_is_from hgd (hr.mono (by decide)) (by rfl) (am_cons (em_ix ix_seq od_ix (em_var (pv 2)) em_int (fun _ _ => rfl)) (am_cons em_int am_nil))))) (wm_or1 (tm_cmp (op_neA hr.units) od_neA (em_ix ix_seq od_ix (em_var (pv 2)) em_int (fun _ _ => rfl)) (em_ix ix_seq od_ix (em_var (pv 3)) em_int (fun _ _ => rfl)) (nomark _)))))) (ssm_one (sm_ret em_bl)) ssm_nil)
    (ssm_cons (sm_asg (ps_asg (em_var (pv 2)) (gm_tup rfl (gsm_cons (gm_name (pg_name (i := 4) sc_p_shows_spread.nd rfl (Or.inl rfl))) (gsm_cons (gm_name (pg_name (i := 5) sc_p_shows_spread.nd rfl (Or.inl rfl))) gsm_nil)))))
    (ssm_cons (sm_if (WM.tm (wm_or (tm_not (tm_val (em_own C_p_has_parts B_p_has_parts hgd (hr.mono (by decide)) (by rfl) (am_cons (em_var (pv 5)) (am_cons (em_lenV (em_var (pv 0)) (by rfl) z_len) am_nil))))) (wm_or1 (tm_not (tm_val (em_all rfl (qm_new (nm_lc (own := [("share", 6)]) rfl sc_p_shows_spread.nd (im_seq (em_var (pv 5))) (blkOk_by (N := n_p_shows_spread) (sc := defScope s_p_shows_spread) (by decide +kernel)) (by decide) (fun _ _ _ _ _ => (gm_name (pg_name (i := 6) sc_p_shows_spread.nd rfl (Or.inl rfl)))) (fun _ _ _ _ _ => tsm_nil) (fun _ _ _ _ _ => (em_own C_p_is_from B_p_is_from hgd (hr.mono (by decide)) (by rfl) (am_cons (em_var (pv 6)) (am_cons em_int am_nil)))))) (by rfl) z_all)))))) (ssm_one (sm_ret em_bl)) ssm_nil)
    (ssm_cons (sm_if (WM.tm (wm_or (tm_cmp (op_neA hr.units) od_neA (em_sumV rfl (em_var (pv 5)) (by rfl) z_sum) (em_sumV rfl (em_var (pv 0)) (by rfl) z_sum) (nomark _)) (wm_or1 (tm_not (tm_val (em_own C_p_bears B_p_bears hgd (hr.mono (by decide)) (by rfl) (am_cons (em_var (pv 5)) (am_cons (em_var (pv 1)) am_nil)))))))) (ssm_one (sm_ret em_bl)) ssm_nil)
    (ssm_one (sm_ret (em_cmp (op_eqA hr.units) od_eqA (em_var (pv 4)) (em_sum rfl (qm_new (nm_lc (own := [("ahead", 7), ("share", 6)]) rfl sc_p_shows_spread.nd (im_zip (am_cons (em_var (pv 0)) (am_cons (em_var (pv 5)) am_nil)) (by rfl) z_zip) (blkOk_by (N := n_p_shows_spread) (sc := defScope s_p_shows_spread) (by decide +kernel)) (by decide) (fun _ _ _ _ _ => (gm_tup rfl (gsm_cons (gm_name (pg_name (i := 7) sc_p_shows_spread.nd rfl (Or.inl rfl))) (gsm_cons (gm_name (pg_name (i := 6) sc_p_shows_spread.nd rfl (Or.inl rfl))) gsm_nil)))) (fun _ _ _ _ _ => tsm_nil) (fun _ _ _ _ _ => (em_max2 rfl (am_cons em_int (am_cons (em_op op_sub od_sub (em_var (pv 7)) (em_var (pv 6))) am_nil)) (by rfl) z_max)))) (by rfl) z_sum) (nomark _)))))))))))

/-! law_box -/
abbrev s_l_box : Stmt := topS 13
abbrev n_l_box : List Str := ["_law_script", "_law_k", "_law_cell", "_law_own"]
theorem sc_l_box : FnScope n_l_box ["_law_script", "_law_k"] (defScope s_l_box) := ⟨rfl, rfl, rfl, by decide +kernel, rfl, by decide +kernel, by decide +kernel⟩
def b_l_box : MS :=
    (mSeq (mSet 2 (mIfE (mB (m2 gLt (mVar 1) (mB1 gLen (mVar 0)))) (m2 gIx (mVar 0) (mVar 1)) (mC (.int 0))))
    (mSeq (mSet 3 (mIfE (mB (m2 gGe (mA hAbs (aCons (mVar 2) aNil)) (m2 gPowW (mC (.int 10)) (mC (.int 18))))) (m2 gModI (mA hAbs (aCons (mVar 2) aNil)) (m2 gPowW (m2 gPowW (mC (.int 10)) (mC (.int 60))) (mC (.int 4)))) (mC (.int 0))))
    (mRet (mLoc (mDisp (aCons (mVar 3) (aCons (m2 gModI (m2 gAddI (m2 gAddI (m2 gMulI (m2 gModI (mVar 2) (mC (.int 2305843009213693951))) (mC (.int 48271))) (m2 gMulI (m2 gMulI (mC (.int 7919)) (mVar 1)) (mVar 1))) (mC (.int 11))) (mC (.int 2305843009213693921))) (aCons (mC (.int 0)) aNil))))))))
def m_l_box : MF := mDef 4 b_l_box
theorem ok_l_box {P : Program} {w : World} {K : PySem.W.Frag} {mg : Str → Option Value} {base : Heap} {a : Addr} {fd : FuncData} (F : Fun K "_law_box" "_law_box" s_l_box a fd) (z_abs : mg "abs" = none) (z_len : mg "len" = none) :
    FnG P w K mg base CX0 1 a fd ["_law_script", "_law_k"] (spM K 2 m_l_box) := by
  refine def_ok F sc_l_box ?_
  intro cdv A out s H E hgd hr
  exact ((ssm_cons (sm_set (ps_set (i := 2) sc_l_box.nd rfl (Or.inl rfl) (em_ifE (tm_cmp op_lt od_lt (em_var (pv 1)) (em_lenV (em_var (pv 0)) (by rfl) z_len) (nomark _)) (em_ix ix_seq od_ix (em_var (pv 0)) (em_var (pv 1)) (fun _ _ => rfl)) em_int)))
    (ssm_cons (sm_set (ps_set (i := 3) sc_l_box.nd rfl (Or.inl rfl) (em_ifE (tm_cmp op_ge od_ge (em_abs (am_cons (em_var (pv 2)) am_nil) (by rfl) z_abs) (em_op op_powW od_powW em_int em_int) (nomark _)) (em_op op_mod od_mod (em_abs (am_cons (em_var (pv 2)) am_nil) (by rfl) z_abs) (em_op op_powW od_powW (em_op op_powW od_powW em_int em_int) em_int)) em_int)))
    (ssm_one (sm_ret (em_loc (nm_lst (am_cons (em_var (pv 3)) (am_cons (em_op op_mod od_mod (em_op op_add od_add (em_op op_add od_add (em_op op_mulW od_mul (em_op op_mod od_mod (em_var (pv 2)) em_int) em_int) (em_op op_mulW od_mul (em_op op_mulW od_mul em_int (em_var (pv 1))) (em_var (pv 1)))) em_int) em_int) (am_cons em_int am_nil))))))))))

/-! law_take -/
abbrev s_l_take : Stmt := topS 14
abbrev n_l_take : List Str := ["_law_box_here", "_law_many", "_law_digit", "_law_prime", "_law_mixed"]
theorem sc_l_take : FnScope n_l_take ["_law_box_here", "_law_many"] (defScope s_l_take) := ⟨rfl, rfl, rfl, by decide +kernel, rfl, by decide +kernel, by decide +kernel⟩
def b_l_take : MS :=
    (mSeq (mIf (mB (m2 gGt (m2 gIx (mVar 0) (mC (.int 0))) (mC (.int 0)))) (mSeq (mSet 2 (m2 gModI (m2 gIx (mVar 0) (mC (.int 0))) (mVar 1)))
    (mSeq (mSetC (mVar 0) (mC (.int 0)) (m2 gDivI (m2 gIx (mVar 0) (mC (.int 0))) (mVar 1)))
    (mRet (mVar 2)))) mNil)
    (mSeq (mSetC (mVar 0) (mC (.int 2)) (m2 gAddI (m2 gIx (mVar 0) (mC (.int 2))) (mC (.int 1))))
    (mSeq (mSet 3 (m2 gIx (mLst (mDisp (aCons (mC (.int 2147483647)) (aCons (mC (.int 2147483629)) (aCons (mC (.int 2147483587)) (aCons (mC (.int 2147483579)) (aCons (mC (.int 2147483563)) aNil))))))) (m2 gModI (m2 gIx (mVar 0) (mC (.int 2))) (mC (.int 5)))))
    (mSeq (mSet 4 (m2 gModI (m2 gPowW (m2 gAddI (m2 gAddI (m2 gIx (mVar 0) (mC (.int 1))) (m2 gMulI (m2 gMulI (mC (.int 65537)) (m2 gIx (mVar 0) (mC (.int 2)))) (m2 gIx (mVar 0) (mC (.int 2))))) (mC (.int 11))) (mC (.int 3))) (mVar 3)))
    (mRet (m2 gModI (m2 gDivI (m2 gModI (m2 gMulI (mVar 4) (m2 gAddI (m2 gModI (mVar 4) (mC (.int 10007))) (m2 gMulI (mC (.int 97)) (m2 gIx (mVar 0) (mC (.int 2)))))) (mC (.int 2305843009213693907))) (mC (.int 97))) (mVar 1)))))))
def m_l_take : MF := mDef 5 b_l_take
theorem ok_l_take {P : Program} {w : World} {K : PySem.W.Frag} {mg : Str → Option Value} {base : Heap} {a : Addr} {fd : FuncData} (F : Fun K "_law_take" "_law_take" s_l_take a fd) :
    FnG P w K mg base CX0 1 a fd ["_law_box_here", "_law_many"] (spM K 2 m_l_take) := by
  refine def_ok F sc_l_take ?_
  intro cdv A out s H E hgd hr
  exact ((ssm_cons (sm_if (tm_cmp op_gt od_gt (em_ix ix_seq od_ix (em_var (pv 0)) em_int (fun _ _ => rfl)) em_int (nomark _)) (ssm_cons (sm_set (ps_set (i := 2) sc_l_take.nd rfl (Or.inl rfl) (em_op op_mod od_mod (em_ix ix_seq od_ix (em_var (pv 0)) em_int (fun _ _ => rfl)) (em_var (pv 1)))))
    (ssm_cons (sm_setC (ps_asg (em_op op_fdivW od_div (em_ix ix_seq od_ix (em_var (pv 0)) em_int (fun _ _ => rfl)) (em_var (pv 1))) (pg_sub (em_var (pv 0)) em_int set_list)))
    (ssm_one (sm_ret (em_var (pv 2)))))) ssm_nil)
    (ssm_cons (sm_setC (ps_asg (em_op op_add od_add (em_ix ix_seq od_ix (em_var (pv 0)) em_int (fun _ _ => rfl)) em_int) (pg_sub (em_var (pv 0)) em_int set_list)))
    (ssm_cons (sm_set (ps_set (i := 3) sc_l_take.nd rfl (Or.inl rfl) (em_ix ix_seq od_ix (em_new (nm_lst (am_cons em_int (am_cons em_int (am_cons em_int (am_cons em_int (am_cons em_int am_nil))))))) (em_op op_mod od_mod (em_ix ix_seq od_ix (em_var (pv 0)) em_int (fun _ _ => rfl)) em_int) (fun _ _ => rfl))))
    (ssm_cons (sm_set (ps_set (i := 4) sc_l_take.nd rfl (Or.inl rfl) (em_op op_mod od_mod (em_op op_powW od_powW (em_op op_add od_add (em_op op_add od_add (em_ix ix_seq od_ix (em_var (pv 0)) em_int (fun _ _ => rfl)) (em_op op_mulW od_mul (em_op op_mulW od_mul em_int (em_ix ix_seq od_ix (em_var (pv 0)) em_int (fun _ _ => rfl))) (em_ix ix_seq od_ix (em_var (pv 0)) em_int (fun _ _ => rfl)))) em_int) em_int) (em_var (pv 3)))))
    (ssm_one (sm_ret (em_op op_mod od_mod (em_op op_fdivW od_div (em_op op_mod od_mod (em_op op_mulW od_mul (em_var (pv 4)) (em_op op_add od_add (em_op op_mod od_mod (em_var (pv 4)) em_int) (em_op op_mulW od_mul em_int (em_ix ix_seq od_ix (em_var (pv 0)) em_int (fun _ _ => rfl))))) em_int) em_int) (em_var (pv 1))))))))))

/-! law_of -/
abbrev s_l_of : Stmt := topS 15
abbrev n_l_of : List Str := ["_law_box_here", "_law_some"]
theorem sc_l_of : FnScope n_l_of ["_law_box_here", "_law_some"] (defScope s_l_of) := ⟨rfl, rfl, rfl, by decide +kernel, rfl, by decide +kernel, by decide +kernel⟩
def b_l_of : MS :=
    (mRet (m2 gIx (mVar 1) (mCall m_l_take 2 [] (aCons (mVar 0) (aCons (mB1 gLen (mVar 1)) aNil)))))
def m_l_of : MF := mDef 2 b_l_of
theorem ok_l_of {P : Program} {w : World} {K : PySem.W.Frag} {mg : Str → Option Value} {base : Heap} {a : Addr} {fd : FuncData} (F : Fun K "_law_of" "_law_of" s_l_of a fd) {a_l_take : Addr} {fd_l_take : FuncData} (C_l_take : Own P w K mg base 1 2 "_law_take" ["_law_box_here", "_law_many"] a_l_take fd_l_take m_l_take) (B_l_take : Binds K fd_l_take ["_law_box_here", "_law_many"] []) (z_len : mg "len" = none) :
    FnG P w K mg base CX0 2 a fd ["_law_box_here", "_law_some"] (spM K 2 m_l_of) := by
  refine def_ok F sc_l_of ?_
  intro cdv A out s H E hgd hr
  exact ((ssm_one (sm_ret (em_ix ix_seq od_ix (em_var (pv 1)) (em_own C_l_take B_l_take hgd (hr.mono (by decide)) (by rfl) (am_cons (em_var (pv 0)) (am_cons (em_lenV (em_var (pv 1)) (by rfl) z_len) am_nil))) (fun _ _ => rfl)))))

/-! law_all_shares -/
abbrev s_l_all_shares : Stmt := topS 16
abbrev n_l_all_shares : List Str := ["_law_points", "_law_hands", "_law_found", "_law_turn", "_law_longer", "_law_row", "_law_many"]
theorem sc_l_all_shares : FnScope n_l_all_shares ["_law_points", "_law_hands"] (defScope s_l_all_shares) := ⟨rfl, rfl, rfl, by decide +kernel, rfl, by decide +kernel, by decide +kernel⟩
def i_l_all_shares_1 : ML :=
    (iRg1 (aCons (m2 gSubI (mVar 1) (mC (.int 1))) aNil))
def i_l_all_shares_2 : ML :=
    (iRg1 (aCons (m2 gAddI (m2 gSubI (mVar 0) (mV hSum (mVar 5))) (mC (.int 1))) aNil))
def e_l_all_shares_3 : ME :=
    (m2 gCatT (mVar 5) (mTup (aCons (mVar 6) aNil)))
def b_l_all_shares_4 : MS :=
    (mExt 4 (mLc i_l_all_shares_2 (.nm 6) [6] mYes e_l_all_shares_3))
def b_l_all_shares_5 : MS :=
    (mSeq (mOwnL 4 (mDisp aNil))
    (mSeq (mFor (.nm 5) (iSeq (mVar 2))
    b_l_all_shares_4)
    (mRest 4 (mSet 2 (mVar 4)))))
def e_l_all_shares_6 : ME :=
    (m2 gCatT (mVar 5) (mTup (aCons (m2 gSubI (mVar 0) (mV hSum (mVar 5))) aNil)))
def b_l_all_shares : MS :=
    (mSeq (mSet 2 (mLst (mDisp (aCons (mTup aNil) aNil))))
    (mSeq (mFor (.nm 3) i_l_all_shares_1
    b_l_all_shares_5)
    (mRet (mLst (mLc (iSeq (mVar 2)) (.nm 5) [5] mYes e_l_all_shares_6)))))
def m_l_all_shares : MF := mDef 7 b_l_all_shares
theorem ok_l_all_shares {P : Program} {w : World} {K : PySem.W.Frag} {mg : Str → Option Value} {base : Heap} {a : Addr} {fd : FuncData} (F : Fun K "_law_all_shares" "_law_all_shares" s_l_all_shares a fd) (z_range : mg "range" = none) (z_sum : mg "sum" = none) :
    FnG P w K mg base CX0 1 a fd ["_law_points", "_law_hands"] (spM K 2 m_l_all_shares) := by
  refine def_ok F sc_l_all_shares ?_
  intro cdv A out s H E hgd hr
  exact ((ssm_cons (sm_set (ps_set (i := 2) sc_l_all_shares.nd rfl (Or.inl rfl) (em_new (nm_lst (am_cons (em_tup am_nil) am_nil)))))
    (ssm_cons (sm_for PassesOwn.never rfl (im_rg1 (by rfl) z_range (am_cons (em_op op_sub od_sub (em_var (pv 1)) em_int) am_nil)) (gm_name (pg_name (i := 3) sc_l_all_shares.nd rfl (Or.inl rfl)))
    (ssm_cons (sm_own (ps_set (i := 4) sc_l_all_shares.nd rfl (Or.inl rfl) (nm_lst am_nil)))
    (ssm_cons (sm_for PassesOwn.never rfl (im_seq (em_var (pv 2))) (gm_name (pg_name (i := 5) sc_l_all_shares.nd rfl (Or.inr rfl)))
    (ssm_one (sm_extend (pv 4) (nm_lc (own := [("_law_many", 6)]) rfl sc_l_all_shares.nd (im_rg1 (by rfl) z_range (am_cons (em_op op_add od_add (em_op op_sub od_sub (em_var (pv 0)) (em_sumV rfl (em_var (pv 5)) (by rfl) z_sum)) em_int) am_nil)) (blkOk_by (N := n_l_all_shares) (sc := defScope s_l_all_shares) (by decide +kernel)) (by decide) (fun _ _ _ _ _ => (gm_name (pg_name (i := 6) sc_l_all_shares.nd rfl (Or.inl rfl)))) (fun _ _ _ _ _ => tsm_nil) (fun _ _ _ _ _ => (em_op op_catA od_catT (em_var (pv 5)) (em_tup (am_cons (em_var (pv 6)) am_nil))))))))
    (ssm_rest 4 (ssm_one (sm_set (ps_set (i := 2) sc_l_all_shares.nd rfl (Or.inl rfl) (em_var (pv 4)))))))))
    (ssm_one (sm_ret (em_new (nm_lc (own := [("_law_row", 5)]) rfl sc_l_all_shares.nd (im_seq (em_var (pv 2))) (blkOk_by (N := n_l_all_shares) (sc := defScope s_l_all_shares) (by decide +kernel)) (by decide) (fun _ _ _ _ _ => (gm_name (pg_name (i := 5) sc_l_all_shares.nd rfl (Or.inl rfl)))) (fun _ _ _ _ _ => tsm_nil) (fun _ _ _ _ _ => (em_op op_catA od_catT (em_var (pv 5)) (em_tup (am_cons (em_op op_sub od_sub (em_var (pv 0)) (em_sumV rfl (em_var (pv 5)) (by rfl) z_sum)) am_nil)))))))))))

/-! law_best -/
abbrev s_l_best : Stmt := topS 17
abbrev n_l_best : List Str := ["_law_own_points", "_law_fallen", "_law_safe", "_law_row", "_law_least", "_law_ahead", "_law_own", "_law_moves", "_law_one"]
theorem sc_l_best : FnScope n_l_best ["_law_own_points", "_law_fallen"] (defScope s_l_best) := ⟨rfl, rfl, rfl, by decide +kernel, rfl, by decide +kernel, by decide +kernel⟩
def e_l_best_1 : ME :=
    (mA hMax2 (aCons (mC (.int 0)) (aCons (m2 gSubI (mVar 5) (mVar 6)) aNil)))
def b_l_best_2 : MS :=
    (mIf (mB (m2 gGt (m2 gMulI (mC (.int 2)) (mQ hSum (mSlQ (iLst (mLst (mVL (hSortedB false) (mVar 3)))) oNone (oSome (m2 gSubI (mB1 gLen (mVar 3)) (mVar 1)))))) (mV hSum (mVar 3)))) (mApp 2 (mTup (aCons (mQ hSum (mLc (iZip (aCons (mVar 0) (aCons (mVar 3) aNil))) (.tp [(.nm 5), (.nm 6)]) [5, 6] mYes e_l_best_1)) (aCons (mVar 3) aNil)))) mNil)
def e_l_best_3 : ME :=
    (mVar 7)
def e_l_best_4 : ME :=
    (mVar 8)
def t_l_best_5 : MT :=
    (mB (m2 gEqA (m2 gIx (mVar 8) (mC (.int 0))) (mVar 4)))
def b_l_best : MS :=
    (mSeq (mOwnL 2 (mDisp aNil))
    (mSeq (mFor (.nm 3) (iSeq (mCall m_l_all_shares 2 [] (aCons (mV hSum (mVar 0)) (aCons (mB1 gLen (mVar 0)) aNil))))
    b_l_best_2)
    (mRest 2 (mSeq (mSet 4 (mQ hMinD (n2 gCatL (mLst (mLc (iSeq (mVar 2)) (.tp [(.nm 7), (.nm 3)]) [7, 3] mYes e_l_best_3)) (mLst (mDisp (aCons (mV hSum (mVar 0)) aNil))))))
    (mRet (mLst (mLc (iSeq (mVar 2)) (.nm 8) [8] t_l_best_5 e_l_best_4)))))))
def m_l_best : MF := mDef 9 b_l_best
theorem ok_l_best {P : Program} {w : World} {K : PySem.W.Frag} {mg : Str → Option Value} {base : Heap} {a : Addr} {fd : FuncData} (F : Fun K "_law_best" "_law_best" s_l_best a fd) {a_l_all_shares : Addr} {fd_l_all_shares : FuncData} (C_l_all_shares : Own P w K mg base 1 2 "_law_all_shares" ["_law_points", "_law_hands"] a_l_all_shares fd_l_all_shares m_l_all_shares) (B_l_all_shares : Binds K fd_l_all_shares ["_law_points", "_law_hands"] []) (z_len : mg "len" = none) (z_max : mg "max" = none) (z_min : mg "min" = none) (z_sorted : mg "sorted" = none) (z_sum : mg "sum" = none) (z_zip : mg "zip" = none) :
    FnG P w K mg base CX0 2 a fd ["_law_own_points", "_law_fallen"] (spM K 2 m_l_best) := by
  refine def_ok F sc_l_best ?_
  intro cdv A out s H E hgd hr
  exact ((ssm_cons (sm_own (ps_set (i := 2) sc_l_best.nd rfl (Or.inl rfl) (nm_lst am_nil)))
    (ssm_cons (sm_for PassesOwn.never rfl (im_seq (em_own C_l_all_shares B_l_all_shares hgd (hr.mono (by decide)) (by rfl) (am_cons (em_sumV rfl (em_var (pv 0)) (by rfl) z_sum) (am_cons (em_lenV (em_var (pv 0)) (by rfl) z_len) am_nil)))) (gm_name (pg_name (i := 3) sc_l_best.nd rfl (Or.inl rfl)))
    (ssm_one (sm_if (tm_cmp op_gt od_gt (em_op op_mulW od_mul em_int (em_sum rfl (qm_new (nm_slL (em_new (nm_sortV hr.units (em_var (pv 3)) (by rfl) z_sorted)) om_none (om_some (em_op op_sub od_sub (em_lenV (em_var (pv 3)) (by rfl) z_len) (em_var (pv 1)))))) (by rfl) z_sum)) (em_sumV rfl (em_var (pv 3)) (by rfl) z_sum) (nomark _)) (ssm_one (sm_append (pv 2) (em_tup (am_cons (em_sum rfl (qm_new (nm_lc (own := [("_law_ahead", 5), ("_law_own", 6)]) rfl sc_l_best.nd (im_zip (am_cons (em_var (pv 0)) (am_cons (em_var (pv 3)) am_nil)) (by rfl) z_zip) (blkOk_by (N := n_l_best) (sc := defScope s_l_best) (by decide +kernel)) (by decide) (fun _ _ _ _ _ => (gm_tup rfl (gsm_cons (gm_name (pg_name (i := 5) sc_l_best.nd rfl (Or.inl rfl))) (gsm_cons (gm_name (pg_name (i := 6) sc_l_best.nd rfl (Or.inl rfl))) gsm_nil)))) (fun _ _ _ _ _ => tsm_nil) (fun _ _ _ _ _ => (em_max2 rfl (am_cons em_int (am_cons (em_op op_sub od_sub (em_var (pv 5)) (em_var (pv 6))) am_nil)) (by rfl) z_max)))) (by rfl) z_sum) (am_cons (em_var (pv 3)) am_nil))))) ssm_nil)))
    (ssm_rest 2 (ssm_cons (sm_set (ps_set (i := 4) sc_l_best.nd rfl (Or.inr rfl) (em_minQ rfl hr.units (qm_new (nm_cat (em_new (nm_lc (own := [("_law_moves", 7), ("_law_row", 3)]) rfl sc_l_best.nd (im_seq (em_var (pv 2))) (blkOk_by (N := n_l_best) (sc := defScope s_l_best) (by decide +kernel)) (by decide) (fun _ _ _ _ _ => (gm_tup rfl (gsm_cons (gm_name (pg_name (i := 7) sc_l_best.nd rfl (Or.inl rfl))) (gsm_cons (gm_name (pg_name (i := 3) sc_l_best.nd rfl (Or.inl rfl))) gsm_nil)))) (fun _ _ _ _ _ => tsm_nil) (fun _ _ _ _ _ => (em_var (pv 7))))) (em_new (nm_lst (am_cons (em_sumV rfl (em_var (pv 0)) (by rfl) z_sum) am_nil))))) (by rfl) z_min)))
    (ssm_one (sm_ret (em_new (nm_lc (own := [("_law_one", 8)]) rfl sc_l_best.nd (im_seq (em_var (pv 2))) (blkOk_by (N := n_l_best) (sc := defScope s_l_best) (by decide +kernel)) (by decide) (fun _ _ _ _ _ => (gm_name (pg_name (i := 8) sc_l_best.nd rfl (Or.inl rfl)))) (fun _ _ _ _ _ => (tsm_one (tm_cmp (op_eqA hr.units) od_eqA (em_ix ix_seq od_ix (em_var (pv 8)) em_int (fun _ _ => rfl)) (em_var (pv 4)) (nomark _)))) (fun _ _ _ _ _ => (em_var (pv 8))))))))))))

/-! law_odd -/
abbrev s_l_odd : Stmt := topS 18
abbrev n_l_odd : List Str := ["_law_box_here", "_law_one", "_law_moves", "_law_row", "_law_at", "_law_some"]
theorem sc_l_odd : FnScope n_l_odd ["_law_box_here", "_law_one"] (defScope s_l_odd) := ⟨rfl, rfl, rfl, by decide +kernel, rfl, by decide +kernel, by decide +kernel⟩
def b_l_odd : MS :=
    (mSeq (mAsg (.tp [(.nm 2), (.nm 3)]) (mVar 1))
    (mSeq (mSet 4 (mCall m_l_take 2 [] (aCons (mVar 0) (aCons (mB1 gLen (mVar 3)) aNil))))
    (mSeq (mSet 5 (mLst (mDisp (aCons (mC .non) (aCons (mC (.bl true)) (aCons (mC (.bl false)) (aCons (mC (.int 0)) (aCons (mC (.str "")) (aCons (mC (.str "none")) (aCons (mTup aNil) (aCons (mLst (mDisp aNil)) (aCons mDNewK (aCons (mTup (aCons (mVar 2) aNil)) (aCons (mVar 2) (aCons (mVar 3) (aCons (mLst (mVL hList (mVar 1))) (aCons (mTup (aCons (mVar 2) (aCons (mLst (mVL hList (mVar 3))) aNil))) aNil)))))))))))))))))
    (mSeq (mSet 5 (mLst (n2 gCatL (mVar 5) (mLst (mDisp (aCons (mTup (aCons (m2 gAddI (mVar 2) (mC (.int 1))) (aCons (mVar 3) aNil))) (aCons (mTup (aCons (m2 gSubI (mVar 2) (mC (.int 1))) (aCons (mVar 3) aNil))) (aCons (mTup (aCons (mA hStrI (aCons (mVar 2) aNil)) (aCons (mVar 3) aNil))) (aCons (mTup (aCons (m2 gEqA (mVar 2) (mC (.int 1))) (aCons (mVar 3) aNil))) (aCons (m2 gCatT (mVar 1) (mTup (aCons (mC (.int 0)) aNil))) (aCons (mTup (aCons (mVar 1) aNil)) aNil)))))))))))
    (mSeq (mSet 5 (mLst (n2 gCatL (mVar 5) (mLst (mDisp (aCons (mTup (aCons (mVar 2) (aCons (mRevT (mVar 3) (oSome (mB1 gNeg (mC (.int 1))))) aNil))) (aCons (mTup (aCons (mVar 2) (aCons (m2 gCatT (mVar 3) (mTup (aCons (mC (.int 0)) aNil))) aNil))) (aCons (mTup (aCons (mVar 2) (aCons (mSlT (mVar 3) (oSome (mC (.int 1))) oNone) aNil))) (aCons (mTup (aCons (mVar 2) (aCons (mC .non) aNil))) (aCons (mTup (aCons (mC .non) (aCons (mVar 3) aNil))) (aCons (mTup (aCons (mTup aNil) (aCons (mVar 3) aNil))) aNil)))))))))))
    (mSeq (mSet 5 (mLst (n2 gCatL (mVar 5) (mLst (mDisp (aCons (mTup (aCons (mVar 2) (aCons (m2 gCatT (m2 gCatT (mSlT (mVar 3) oNone (oSome (mVar 4))) (mTup (aCons (m2 gAddI (m2 gIx (mVar 3) (mVar 4)) (mC (.int 1))) aNil))) (mSlT (mVar 3) (oSome (m2 gAddI (mVar 4) (mC (.int 1)))) oNone)) aNil))) (aCons (mTup (aCons (mVar 2) (aCons (m2 gCatT (m2 gCatT (mSlT (mVar 3) oNone (oSome (mVar 4))) (mTup (aCons (mB1 gNeg (mC (.int 1))) aNil))) (mSlT (mVar 3) (oSome (m2 gAddI (mVar 4) (mC (.int 1)))) oNone)) aNil))) aNil)))))))
    (mSeq (mSet 5 (mLst (n2 gCatL (mVar 5) (mLst (mDisp (aCons (mTup (aCons (mVar 2) (aCons (m2 gCatT (m2 gCatT (mSlT (mVar 3) oNone (oSome (mVar 4))) (mTup (aCons (m2 gEqA (m2 gIx (mVar 3) (mVar 4)) (mC (.int 1))) aNil))) (mSlT (mVar 3) (oSome (m2 gAddI (mVar 4) (mC (.int 1)))) oNone)) aNil))) (aCons (mTup (aCons (mVar 2) (aCons (m2 gCatT (m2 gCatT (mSlT (mVar 3) oNone (oSome (mVar 4))) (mTup (aCons (mC .non) aNil))) (mSlT (mVar 3) (oSome (m2 gAddI (mVar 4) (mC (.int 1)))) oNone)) aNil))) aNil)))))))
    (mSeq (mSet 5 (mLst (n2 gCatL (mVar 5) (mLst (mDisp (aCons (mTup (aCons (mVar 2) (aCons (m2 gCatT (m2 gCatT (mSlT (mVar 3) oNone (oSome (mVar 4))) (mTup (aCons (mA hStrI (aCons (m2 gIx (mVar 3) (mVar 4)) aNil)) aNil))) (mSlT (mVar 3) (oSome (m2 gAddI (mVar 4) (mC (.int 1)))) oNone)) aNil))) (aCons (mTup (aCons (mVar 3) (aCons (mVar 2) aNil))) (aCons (mTup (aCons (mVar 2) (aCons (mTup (aCons (mVar 3) aNil)) aNil))) aNil))))))))
    (mRet (mLst (n2 gCatL (mVar 5) (mLst (mDisp (aCons (mTup (aCons (mVar 2) (aCons (m2 gCatT (mSlT (mVar 3) (oSome (mC (.int 1))) oNone) (mSlT (mVar 3) oNone (oSome (mC (.int 1))))) aNil))) (aCons (mTup (aCons (mVar 2) (aCons (mQ hTup (mVL (hSortedB false) (mVar 3))) aNil))) (aCons (mTup (aCons (mVar 2) (aCons (m2 gCatT (mTup (aCons (mV hSum (mVar 3)) aNil)) (mSlT (mVar 3) (oSome (mC (.int 1))) oNone)) aNil))) aNil))))))))))))))))
def m_l_odd : MF := mDef 6 b_l_odd
theorem ok_l_odd {P : Program} {w : World} {K : PySem.W.Frag} {mg : Str → Option Value} {base : Heap} {a : Addr} {fd : FuncData} (F : Fun K "_law_odd" "_law_odd" s_l_odd a fd) {a_l_take : Addr} {fd_l_take : FuncData} (C_l_take : Own P w K mg base 1 2 "_law_take" ["_law_box_here", "_law_many"] a_l_take fd_l_take m_l_take) (B_l_take : Binds K fd_l_take ["_law_box_here", "_law_many"] []) (z_len : mg "len" = none) (z_list : mg "list" = none) (z_sorted : mg "sorted" = none) (z_str : mg "str" = none) (z_sum : mg "sum" = none) (z_tuple : mg "tuple" = none) :
    FnG P w K mg base CX0 2 a fd ["_law_box_here", "_law_one"] (spM K 2 m_l_odd) := by
  refine def_ok F sc_l_odd ?_
  intro cdv A out s H E hgd hr
  exact ((ssm_cons (sm_asg (ps_asg (em_var (pv 1)) (gm_tup rfl (gsm_cons (gm_name (pg_name (i := 2) sc_l_odd.nd rfl (Or.inl rfl))) (gsm_cons (gm_name (pg_name (i := 3) sc_l_odd.nd rfl (Or.inl rfl))) gsm_nil)))))
    (ssm_cons (sm_set (ps_set (i := 4) sc_l_odd.nd rfl (Or.inl rfl) (em_own C_l_take B_l_take hgd (hr.mono (by decide)) (by rfl) (am_cons (em_var (pv 0)) (am_cons (em_lenV (em_var (pv 3)) (by rfl) z_len) am_nil)))))
    (ssm_cons (sm_set (ps_set (i := 5) sc_l_odd.nd rfl (Or.inl rfl) (em_new (nm_lst (am_cons em_non (am_cons em_bl (am_cons em_bl (am_cons em_int (am_cons em_str (am_cons em_str (am_cons (em_tup am_nil) (am_cons (em_new (nm_lst am_nil)) (am_cons em_dnewK (am_cons (em_tup (am_cons (em_var (pv 2)) am_nil)) (am_cons (em_var (pv 2)) (am_cons (em_var (pv 3)) (am_cons (em_new (nm_listV (em_var (pv 1)) (by rfl) z_list)) (am_cons (em_tup (am_cons (em_var (pv 2)) (am_cons (em_new (nm_listV (em_var (pv 3)) (by rfl) z_list)) am_nil))) am_nil))))))))))))))))))
    (ssm_cons (sm_set (ps_set (i := 5) sc_l_odd.nd rfl (Or.inl rfl) (em_new (nm_cat (em_var (pv 5)) (em_new (nm_lst (am_cons (em_tup (am_cons (em_op op_add od_add (em_var (pv 2)) em_int) (am_cons (em_var (pv 3)) am_nil))) (am_cons (em_tup (am_cons (em_op op_sub od_sub (em_var (pv 2)) em_int) (am_cons (em_var (pv 3)) am_nil))) (am_cons (em_tup (am_cons (em_strI (am_cons (em_var (pv 2)) am_nil) (by rfl) z_str) (am_cons (em_var (pv 3)) am_nil))) (am_cons (em_tup (am_cons (em_cmp (op_eqA hr.units) od_eqA (em_var (pv 2)) em_int (nomark _)) (am_cons (em_var (pv 3)) am_nil))) (am_cons (em_op op_catA od_catT (em_var (pv 1)) (em_tup (am_cons em_int am_nil))) (am_cons (em_tup (am_cons (em_var (pv 1)) am_nil)) am_nil))))))))))))
    (ssm_cons (sm_set (ps_set (i := 5) sc_l_odd.nd rfl (Or.inl rfl) (em_new (nm_cat (em_var (pv 5)) (em_new (nm_lst (am_cons (em_tup (am_cons (em_var (pv 2)) (am_cons (em_revT (em_var (pv 3)) (om_some (em_neg em_int))) am_nil))) (am_cons (em_tup (am_cons (em_var (pv 2)) (am_cons (em_op op_catA od_catT (em_var (pv 3)) (em_tup (am_cons em_int am_nil))) am_nil))) (am_cons (em_tup (am_cons (em_var (pv 2)) (am_cons (em_slT (em_var (pv 3)) (om_some em_int) om_none) am_nil))) (am_cons (em_tup (am_cons (em_var (pv 2)) (am_cons em_non am_nil))) (am_cons (em_tup (am_cons em_non (am_cons (em_var (pv 3)) am_nil))) (am_cons (em_tup (am_cons (em_tup am_nil) (am_cons (em_var (pv 3)) am_nil))) am_nil))))))))))))
    (ssm_cons (sm_set (ps_set (i := 5) sc_l_odd.nd rfl (Or.inl rfl) (em_new (nm_cat (em_var (pv 5)) (em_new (nm_lst (am_cons (em_tup (am_cons (em_var (pv 2)) (am_cons (em_op op_catA od_catT (em_op op_catA od_catT (em_slT (em_var (pv 3)) om_none (om_some (em_var (pv 4)))) (em_tup (am_cons (em_op op_add od_add (em_ix ix_seq od_ix (em_var (pv 3)) (em_var (pv 4)) (fun _ _ => rfl)) em_int) am_nil))) (em_slT (em_var (pv 3)) (om_some (em_op op_add od_add (em_var (pv 4)) em_int)) om_none)) am_nil))) (am_cons (em_tup (am_cons (em_var (pv 2)) (am_cons (em_op op_catA od_catT (em_op op_catA od_catT (em_slT (em_var (pv 3)) om_none (om_some (em_var (pv 4)))) (em_tup (am_cons (em_neg em_int) am_nil))) (em_slT (em_var (pv 3)) (om_some (em_op op_add od_add (em_var (pv 4)) em_int)) om_none)) am_nil))) am_nil))))))))
    (ssm_cons (sm_set (ps_set (i := 5) sc_l_odd.nd rfl (Or.inl rfl) (em_new (nm_cat (em_var (pv 5)) (em_new (nm_lst (am_cons (em_tup (am_cons (em_var (pv 2)) (am_cons (em_op op_catA od_catT (em_op op_catA od_catT (em_slT (em_var (pv 3)) om_none (om_some (em_var (pv 4)))) (em_tup (am_cons (em_cmp (op_eqA hr.units) od_eqA (em_ix ix_seq od_ix (em_var (pv 3)) (em_var (pv 4)) (fun _ _ => rfl)) em_int (nomark _)) am_nil))) (em_slT (em_var (pv 3)) (om_some (em_op op_add od_add (em_var (pv 4)) em_int)) om_none)) am_nil))) (am_cons (em_tup (am_cons (em_var (pv 2)) (am_cons (em_op op_catA od_catT (em_op op_catA od_catT (em_slT (em_var (pv 3)) om_none (om_some (em_var (pv 4)))) (em_tup (am_cons em_non am_nil))) (em_slT (em_var (pv 3)) (om_some (em_op op_add od_add (em_var (pv 4)) em_int)) om_none)) am_nil))) am_nil))))))))
    (ssm_cons (sm_set (ps_set (i := 5) sc_l_odd.nd rfl (Or.inl rfl) (em_new (nm_cat (em_var (pv 5)) (em_new (nm_lst (am_cons (em_tup (am_cons (em_var (pv 2)) (am_cons (em_op op_catA od_catT (em_op op_catA od_catT (em_slT (em_var (pv 3)) om_none (om_some (em_var (pv 4)))) (em_tup (am_cons (em_strI (am_cons (em_ix ix_seq od_ix (em_var (pv 3)) (em_var (pv 4)) (fun _ _ => rfl)) am_nil) (by rfl) z_str) am_nil))) (em_slT (em_var (pv 3)) (om_some (em_op op_add od_add (em_var (pv 4)) em_int)) om_none)) am_nil))) (am_cons (em_tup (am_cons (em_var (pv 3)) (am_cons (em_var (pv 2)) am_nil))) (am_cons (em_tup (am_cons (em_var (pv 2)) (am_cons (em_tup (am_cons (em_var (pv 3)) am_nil)) am_nil))) am_nil)))))))))
    (ssm_one (sm_ret (em_new (nm_cat (em_var (pv 5)) (em_new (nm_lst (am_cons (em_tup (am_cons (em_var (pv 2)) (am_cons (em_op op_catA od_catT (em_slT (em_var (pv 3)) (om_some em_int) om_none) (em_slT (em_var (pv 3)) om_none (om_some em_int))) am_nil))) (am_cons (em_tup (am_cons (em_var (pv 2)) (am_cons (em_tupleQ (qm_new (nm_sortV hr.units (em_var (pv 3)) (by rfl) z_sorted)) (by rfl) z_tuple) am_nil))) (am_cons (em_tup (am_cons (em_var (pv 2)) (am_cons (em_op op_catA od_catT (em_tup (am_cons (em_sumV rfl (em_var (pv 3)) (by rfl) z_sum) am_nil)) (em_slT (em_var (pv 3)) (om_some em_int) om_none)) am_nil))) am_nil))))))))))))))))))

/-! law_drawn -/
abbrev s_l_drawn : Stmt := topS 19
abbrev n_l_drawn : List Str := ["_law_box_here", "_law_hands", "_law_points", "_law_found", "_law_turn", "_law_at"]
theorem sc_l_drawn : FnScope n_l_drawn ["_law_box_here"] (defScope s_l_drawn) := ⟨rfl, rfl, rfl, by decide +kernel, rfl, by decide +kernel, by decide +kernel⟩
def i_l_drawn_1 : ML :=
    (iRg1 (aCons (mVar 2) aNil))
def b_l_drawn_2 : MS :=
    (mSeq (mSet 5 (mCall m_l_of 2 [] (aCons (mVar 0) (aCons (mLst (mDisp (aCons (mC (.int 0)) (aCons (mCall m_l_take 2 [] (aCons (mVar 0) (aCons (mVar 1) aNil))) (aCons (m2 gSubI (mVar 1) (mC (.int 1))) aNil))))) aNil))))
    (mSetO 3 (mVar 5) (m2 gAddI (mIxO 3 (mVar 5)) (mC (.int 1)))))
def b_l_drawn : MS :=
    (mSeq (mPar [1, 2] (sVal (m2 gAddI (mC (.int 1)) (mCall m_l_take 2 [] (aCons (mVar 0) (aCons (mC (.int 4)) aNil)))) (sVal (m2 gAddI (mC (.int 1)) (mCall m_l_take 2 [] (aCons (mVar 0) (aCons (mC (.int 7)) aNil)))) sNil)))
    (mSeq (mOwnL 3 (n2 gRp (mLst (mDisp (aCons (mC (.int 0)) aNil))) (mVar 1)))
    (mSeq (mFor (.nm 4) i_l_drawn_1
    b_l_drawn_2)
    (mRet (mQ hTup (qOwn 3))))))
def m_l_drawn : MF := mDef 6 b_l_drawn
theorem ok_l_drawn {P : Program} {w : World} {K : PySem.W.Frag} {mg : Str → Option Value} {base : Heap} {a : Addr} {fd : FuncData} (F : Fun K "_law_drawn" "_law_drawn" s_l_drawn a fd) {a_l_of : Addr} {fd_l_of : FuncData} (C_l_of : Own P w K mg base 2 2 "_law_of" ["_law_box_here", "_law_some"] a_l_of fd_l_of m_l_of) (B_l_of : Binds K fd_l_of ["_law_box_here", "_law_some"] []) {a_l_take : Addr} {fd_l_take : FuncData} (C_l_take : Own P w K mg base 1 2 "_law_take" ["_law_box_here", "_law_many"] a_l_take fd_l_take m_l_take) (B_l_take : Binds K fd_l_take ["_law_box_here", "_law_many"] []) (z_range : mg "range" = none) (z_tuple : mg "tuple" = none) :
    FnG P w K mg base CX0 3 a fd ["_law_box_here"] (spM K 1 m_l_drawn) := by
  refine def_ok F sc_l_drawn ?_
  intro cdv A out s H E hgd hr
  exact ((ssm_cons (sm_par2 (ps_par (i := 1) (j := 2) rfl sc_l_drawn.nd rfl rfl (by decide) rfl rfl (slm_val (em_op op_add od_add em_int (em_own C_l_take B_l_take hgd (hr.mono (by decide)) (by rfl) (am_cons (em_var (pv 0)) (am_cons em_int am_nil)))) (slm_val (em_op op_add od_add em_int (em_own C_l_take B_l_take hgd (hr.mono (by decide)) (by rfl) (am_cons (em_var (pv 0)) (am_cons em_int am_nil)))) slm_nil)) (by rfl)))
    (ssm_cons (sm_own (ps_set (i := 3) sc_l_drawn.nd rfl (Or.inl rfl) (nm_rp (em_new (nm_lst (am_cons em_int am_nil))) (em_var (pv 1)))))
    (ssm_cons (sm_for PassesOwn.never rfl (im_rg1 (by rfl) z_range (am_cons (em_var (pv 2)) am_nil)) (gm_name (pg_name (i := 4) sc_l_drawn.nd rfl (Or.inl rfl)))
    (ssm_cons (sm_set (ps_set (i := 5) sc_l_drawn.nd rfl (Or.inl rfl) (em_own C_l_of B_l_of hgd (hr.mono (by decide)) (by rfl) (am_cons (em_var (pv 0)) (am_cons (em_new (nm_lst (am_cons em_int (am_cons (em_own C_l_take B_l_take hgd (hr.mono (by decide)) (by rfl) (am_cons (em_var (pv 0)) (am_cons (em_var (pv 1)) am_nil))) (am_cons (em_op op_sub od_sub (em_var (pv 1)) em_int) am_nil))))) am_nil)))))
    (ssm_one (sm_setO (ps_asg (em_op op_add od_add (em_ixO (pv 3) (em_var (pv 5)) (fun _ _ => rfl)) em_int) (pg_sub (pv 3) (em_var (pv 5)) set_list))))))
    (ssm_one (sm_ret (em_tupleQ (qm_own (pv 3)) (by rfl) z_tuple)))))))

/-! law_right -/
abbrev s_l_right : Stmt := topS 20
abbrev n_l_right : List Str := ["_law_box_here", "_law_own_points", "_law_fallen", "_law_best_here", "_law_right_here", "_law_first", "_law_told", "_law_every", "_law_one_thing", "_law_kept", "_law_one", "_law_row"]
theorem sc_l_right : FnScope n_l_right ["_law_box_here", "_law_own_points", "_law_fallen"] (defScope s_l_right) := ⟨rfl, rfl, rfl, by decide +kernel, rfl, by decide +kernel, by decide +kernel⟩
def e_l_right_1 : ME :=
    (mB1 gReprV (mVar 10))
def e_l_right_2 : ME :=
    (mTup (aCons (m2 gIx (mVar 5) (mC (.int 0))) (aCons (mVar 11) aNil)))
def b_l_right_3 : MS :=
    (mSeq (mSet 9 (mB1 gReprA (mVar 8)))
    (mIf (mOrT (mB (m2 gNeA (mB1 gReprV (mCall m_p_shows_spread 3 [] (aCons (mVar 1) (aCons (mVar 2) (aCons (mVar 8) aNil))))) (mB1 gReprV (m2 (gInA false) (mVar 9) (mVar 4))))) (mB (m2 gNeA (mB1 gReprA (mVar 8)) (mVar 9)))) (mRet (mC (.bl false))) mNil))
def b_l_right : MS :=
    (mSeq (mSet 3 (mCall m_l_best 2 [] (aCons (mVar 1) (aCons (mVar 2) aNil))))
    (mSeq (mSet 4 (mIfE (mB (m2 gNeA (mVar 3) (mLst (mDisp aNil)))) (mLst (mLc (iSeq (mVar 3)) (.nm 10) [10] mYes e_l_right_1)) (mLst (mDisp (aCons (mC (.str "None")) aNil)))))
    (mSeq (mSet 5 (mIfE (mB (m2 gNeA (mVar 3) (mLst (mDisp aNil)))) (m2 gIx (mVar 3) (mCall m_l_take 2 [] (aCons (mVar 0) (aCons (mB1 gLen (mVar 3)) aNil)))) (mTup (aCons (mC (.int 0)) (aCons (mVar 1) aNil)))))
    (mSeq (mSet 6 (mCall m_p_spread 2 [] (aCons (mVar 1) (aCons (mVar 2) aNil))))
    (mSeq (mSet 7 (mLst (mLc (iSeq (mCall m_l_all_shares 2 [] (aCons (mV hSum (mVar 1)) (aCons (mB1 gLen (mVar 1)) aNil)))) (.nm 11) [11] mYes e_l_right_2)))
    (mSeq (mFor (.nm 8) (iSeq (mLst (n2 gCatL (mLst (n2 gCatL (mLst (n2 gCatL (mLst (n2 gCatL (mVar 3) (mCall m_l_odd 2 [] (aCons (mVar 0) (aCons (mVar 5) aNil))))) (mCall m_l_odd 2 [] (aCons (mVar 0) (aCons (mTup (aCons (mC (.int 1)) (aCons (mVar 1) aNil))) aNil))))) (mLst (mDisp (aCons (mVar 6) aNil))))) (mVar 7))))
    b_l_right_3)
    (mRet (m2 gEqA (mB1 gReprV (mCallK m_p_shows_spread 3 0 3 (pickIx [2, 1, 0]) aNil (aCons (mVar 6) (aCons (mVar 2) (aCons (mVar 1) aNil))))) (mC (.str "True"))))))))))
def m_l_right : MF := mDef 12 b_l_right
theorem ok_l_right {P : Program} {w : World} {K : PySem.W.Frag} {mg : Str → Option Value} {base : Heap} {a : Addr} {fd : FuncData} (F : Fun K "_law_right" "_law_right" s_l_right a fd) {a_l_all_shares : Addr} {fd_l_all_shares : FuncData} (C_l_all_shares : Own P w K mg base 1 2 "_law_all_shares" ["_law_points", "_law_hands"] a_l_all_shares fd_l_all_shares m_l_all_shares) (B_l_all_shares : Binds K fd_l_all_shares ["_law_points", "_law_hands"] []) {a_l_best : Addr} {fd_l_best : FuncData} (C_l_best : Own P w K mg base 2 2 "_law_best" ["_law_own_points", "_law_fallen"] a_l_best fd_l_best m_l_best) (B_l_best : Binds K fd_l_best ["_law_own_points", "_law_fallen"] []) {a_l_odd : Addr} {fd_l_odd : FuncData} (C_l_odd : Own P w K mg base 2 2 "_law_odd" ["_law_box_here", "_law_one"] a_l_odd fd_l_odd m_l_odd) (B_l_odd : Binds K fd_l_odd ["_law_box_here", "_law_one"] []) {a_l_take : Addr} {fd_l_take : FuncData} (C_l_take : Own P w K mg base 1 2 "_law_take" ["_law_box_here", "_law_many"] a_l_take fd_l_take m_l_take) (B_l_take : Binds K fd_l_take ["_law_box_here", "_law_many"] []) {a_p_shows_spread : Addr} {fd_p_shows_spread : FuncData} (C_p_shows_spread : Own P w K mg base 4 3 "shows_spread" ["shares", "falls", "thing"] a_p_shows_spread fd_p_shows_spread m_p_shows_spread) (B_p_shows_spread : Binds K fd_p_shows_spread ["shares", "falls", "thing"] []) {a_p_spread : Addr} {fd_p_spread : FuncData} (C_p_spread : Own P w K mg base 3 2 "spread" ["shares", "falls"] a_p_spread fd_p_spread m_p_spread) (B_p_spread : Binds K fd_p_spread ["shares", "falls"] []) (K_p_shows_spread_0_thing_falls_shares : Mix fd_p_shows_spread ["shares", "falls", "thing"] ["thing", "falls", "shares"] 0 (pickIx [2, 1, 0])) (z_len : mg "len" = none) (z_repr : mg "repr" = none) (z_sum : mg "sum" = none) :
    FnG P w K mg base CX0 5 a fd ["_law_box_here", "_law_own_points", "_law_fallen"] (spM K 3 m_l_right) := by
  refine def_ok F sc_l_right ?_
  intro cdv A out s H E hgd hr
  exact ((ssm_cons (sm_set (ps_set (i := 3) sc_l_right.nd rfl (Or.inl rfl) (em_own C_l_best B_l_best hgd (hr.mono (by decide)) (by rfl) (am_cons (em_var (pv 1)) (am_cons (em_var (pv 2)) am_nil)))))
    (ssm_cons (sm_set (ps_set (i := 4) sc_l_right.nd rfl (Or.inl rfl) (em_ifE (tm_cmp (op_neA hr.units) od_neA (em_var (pv 3)) (em_new (nm_lst am_nil)) (nomark _)) (em_new (nm_lc (own := [("_law_one", 10)]) rfl sc_l_right.nd (im_seq (em_var (pv 3))) (blkOk_by (N := n_l_right) (sc := defScope s_l_right) (by decide +kernel)) (by decide) (fun _ _ _ _ _ => (gm_name (pg_name (i := 10) sc_l_right.nd rfl (Or.inl rfl)))) (fun _ _ _ _ _ => tsm_nil) (fun _ _ _ _ _ => (em_reprV hgd hr.units (em_var (pv 10)) (by rfl) z_repr)))) (em_new (nm_lst (am_cons em_str am_nil))))))
    (ssm_cons (sm_set (ps_set (i := 5) sc_l_right.nd rfl (Or.inr rfl) (em_ifE (tm_cmp (op_neA hr.units) od_neA (em_var (pv 3)) (em_new (nm_lst am_nil)) (nomark _)) (em_ix ix_seq od_ix (em_var (pv 3)) (em_own C_l_take B_l_take hgd (hr.mono (by decide)) (by rfl) (am_cons (em_var (pv 0)) (am_cons (em_lenV (em_var (pv 3)) (by rfl) z_len) am_nil))) (fun _ _ => rfl)) (em_tup (am_cons em_int (am_cons (em_var (pv 1)) am_nil))))))
    (ssm_cons (sm_set (ps_set (i := 6) sc_l_right.nd rfl (Or.inl rfl) (em_own C_p_spread B_p_spread hgd (hr.mono (by decide)) (by rfl) (am_cons (em_var (pv 1)) (am_cons (em_var (pv 2)) am_nil)))))
    (ssm_cons (sm_valN (ps_lcN (i := 7) (own := [("_law_row", 11)]) rfl sc_l_right.nd rfl rfl (sw_true rfl rfl rfl (by decide +kernel)) (im_seq (em_own C_l_all_shares B_l_all_shares hgd (hr.mono (by decide)) (by rfl) (am_cons (em_sumV rfl (em_var (pv 1)) (by rfl) z_sum) (am_cons (em_lenV (em_var (pv 1)) (by rfl) z_len) am_nil)))) (blkOk_by (N := n_l_right) (sc := defScope s_l_right) (by decide +kernel)) (by decide) (fun _ _ _ _ _ => (gm_name (pg_name (i := 11) sc_l_right.nd rfl (Or.inl rfl)))) (fun _ _ _ _ _ => tsm_nil) (fun _ _ _ _ _ => (em_tup (am_cons (em_ix ix_seq od_ix (em_var (pv 5)) em_int (fun _ _ => rfl)) (am_cons (em_var (pv 11)) am_nil))))))
    (ssm_cons (sm_for PassesOwn.never rfl (im_seq (em_new (nm_cat (em_new (nm_cat (em_new (nm_cat (em_new (nm_cat (em_var (pv 3)) (em_own C_l_odd B_l_odd hgd (hr.mono (by decide)) (by rfl) (am_cons (em_var (pv 0)) (am_cons (em_var (pv 5)) am_nil))))) (em_own C_l_odd B_l_odd hgd (hr.mono (by decide)) (by rfl) (am_cons (em_var (pv 0)) (am_cons (em_tup (am_cons em_int (am_cons (em_var (pv 1)) am_nil))) am_nil))))) (em_new (nm_lst (am_cons (em_var (pv 6)) am_nil))))) (em_var (pv 7))))) (gm_name (pg_name (i := 8) sc_l_right.nd rfl (Or.inl rfl)))
    (ssm_cons (sm_set (ps_set (i := 9) sc_l_right.nd rfl (Or.inl rfl) (em_reprA hgd hr.units (em_var (pv 8)) (by rfl) z_repr)))
    (ssm_one (sm_if (WM.tm (wm_or (tm_cmp (op_neA hr.units) od_neA (em_reprV hgd hr.units (em_own C_p_shows_spread B_p_shows_spread hgd (hr.mono (by decide)) (by rfl) (am_cons (em_var (pv 1)) (am_cons (em_var (pv 2)) (am_cons (em_var (pv 8)) am_nil)))) (by rfl) z_repr) (em_reprV hgd hr.units (em_cmp (op_inA (hu65 hr)) od_inA (em_var (pv 9)) (em_var (pv 4)) (by rfl)) (by rfl) z_repr) (nomark _)) (wm_or1 (tm_cmp (op_neA hr.units) od_neA (em_reprA hgd hr.units (em_var (pv 8)) (by rfl) z_repr) (em_var (pv 9)) (nomark _))))) (ssm_one (sm_ret em_bl)) ssm_nil))))
    (ssm_one (sm_ret (em_cmp (op_eqA hr.units) od_eqA (em_reprV hgd hr.units (em_ownK0 C_p_shows_spread K_p_shows_spread_0_thing_falls_shares hgd (hr.mono (by decide)) (by rfl) (km_cons (em_var (pv 6)) (km_cons (em_var (pv 2)) (km_cons (em_var (pv 1)) km_nil)))) (by rfl) z_repr) em_str (nomark _)))))))))))

/-! law -/
abbrev s_p_law : Stmt := topS 21
abbrev n_p_law : List Str := ["_law_script", "_law_k", "_law_box_here", "_law_turn", "_law_own_points"]
theorem sc_p_law : FnScope n_p_law ["_law_script"] (defScope s_p_law) := ⟨rfl, rfl, rfl, by decide +kernel, rfl, by decide +kernel, by decide +kernel⟩
def i_p_law_1 : ML :=
    (iRg1 (aCons (mA hMax2 (aCons (mC (.int 1)) (aCons (mA hMin2 (aCons (mC (.int 3)) (aCons (mB1 gLen (mVar 0)) aNil))) aNil))) aNil))
def i_p_law_2 : ML :=
    (iRg1 (aCons (mC (.int 4)) aNil))
def b_p_law_3 : MS :=
    (mSeq (mSet 4 (mCall m_l_drawn 1 [] (aCons (mVar 2) aNil)))
    (mIf (mNotT (mB (mCall m_l_right 3 [] (aCons (mVar 2) (aCons (mVar 4) (aCons (mCall m_l_take 2 [] (aCons (mVar 2) (aCons (mB1 gLen (mVar 4)) aNil))) aNil)))))) (mRet (mC (.bl false))) mNil))
def b_p_law_4 : MS :=
    (mSeq (mSet 2 (mCall m_l_box 2 [] (aCons (mVar 0) (aCons (mVar 1) aNil))))
    (mFor (.nm 3) i_p_law_2
    b_p_law_3))
def b_p_law : MS :=
    (mSeq (mFor (.nm 1) i_p_law_1
    b_p_law_4)
    (mRet (mC (.bl true))))
def m_p_law : MF := mDef 5 b_p_law
theorem ok_p_law {P : Program} {w : World} {K : PySem.W.Frag} {mg : Str → Option Value} {base : Heap} {a : Addr} {fd : FuncData} (F : Fun K "law" "law" s_p_law a fd) {a_l_box : Addr} {fd_l_box : FuncData} (C_l_box : Own P w K mg base 1 2 "_law_box" ["_law_script", "_law_k"] a_l_box fd_l_box m_l_box) (B_l_box : Binds K fd_l_box ["_law_script", "_law_k"] []) {a_l_drawn : Addr} {fd_l_drawn : FuncData} (C_l_drawn : Own P w K mg base 3 1 "_law_drawn" ["_law_box_here"] a_l_drawn fd_l_drawn m_l_drawn) (B_l_drawn : Binds K fd_l_drawn ["_law_box_here"] []) {a_l_right : Addr} {fd_l_right : FuncData} (C_l_right : Own P w K mg base 5 3 "_law_right" ["_law_box_here", "_law_own_points", "_law_fallen"] a_l_right fd_l_right m_l_right) (B_l_right : Binds K fd_l_right ["_law_box_here", "_law_own_points", "_law_fallen"] []) {a_l_take : Addr} {fd_l_take : FuncData} (C_l_take : Own P w K mg base 1 2 "_law_take" ["_law_box_here", "_law_many"] a_l_take fd_l_take m_l_take) (B_l_take : Binds K fd_l_take ["_law_box_here", "_law_many"] []) (z_len : mg "len" = none) (z_max : mg "max" = none) (z_min : mg "min" = none) (z_range : mg "range" = none) :
    FnG P w K mg base CX0 6 a fd ["_law_script"] (spM K 1 m_p_law) := by
  refine def_ok F sc_p_law ?_
  intro cdv A out s H E hgd hr
  exact ((ssm_cons (sm_for PassesOwn.never rfl (im_rg1 (by rfl) z_range (am_cons (em_max2 rfl (am_cons em_int (am_cons (em_min2 rfl (am_cons em_int (am_cons (em_lenV (em_var (pv 0)) (by rfl) z_len) am_nil)) (by rfl) z_min) am_nil)) (by rfl) z_max) am_nil)) (gm_name (pg_name (i := 1) sc_p_law.nd rfl (Or.inl rfl)))
    (ssm_cons (sm_set (ps_set (i := 2) sc_p_law.nd rfl (Or.inl rfl) (em_own C_l_box B_l_box hgd (hr.mono (by decide)) (by rfl) (am_cons (em_var (pv 0)) (am_cons (em_var (pv 1)) am_nil)))))
    (ssm_one (sm_for PassesOwn.never rfl (im_rg1 (by rfl) z_range (am_cons em_int am_nil)) (gm_name (pg_name (i := 3) sc_p_law.nd rfl (Or.inl rfl)))
    (ssm_cons (sm_set (ps_set (i := 4) sc_p_law.nd rfl (Or.inl rfl) (em_own C_l_drawn B_l_drawn hgd (hr.mono (by decide)) (by rfl) (am_cons (em_var (pv 2)) am_nil))))
    (ssm_one (sm_if (tm_not (tm_val (em_own C_l_right B_l_right hgd (hr.mono (by decide)) (by rfl) (am_cons (em_var (pv 2)) (am_cons (em_var (pv 4)) (am_cons (em_own C_l_take B_l_take hgd (hr.mono (by decide)) (by rfl) (am_cons (em_var (pv 2)) (am_cons (em_lenV (em_var (pv 4)) (by rfl) z_len) am_nil))) am_nil)))))) (ssm_one (sm_ret em_bl)) ssm_nil)))))))
    (ssm_one (sm_ret em_bl))))

end K60
set_option maxRecDepth 100000
set_option maxHeartbeats 4000000
namespace K60
open Mo L2 PySem Pm
/-! ### the box -/
def Well (Z S : Store) (n : Nat) (b : Int) : Prop := (Z.length ≤ S.length ∧ ∀ i, i < Z.length → i ≠ n → S[i]? = Z[i]?) ∧ ∃ g m t, S[n]? = some (.lst [.int g, .int m, .int t]) ∧ 0 ≤ g ∧ 0 ≤ m ∧ m < 2 ^ 62 ∧ 0 ≤ t ∧ t ≤ b
theorem Well.lt {Z S : Store} {n : Nat} {b : Int} (h : Well Z S n b) : n < S.length := let ⟨_, _, _, _, e, _⟩ := h; lt_of_get e
theorem Well.mono {Z S : Store} {n : Nat} {b c : Int} (h : Well Z S n b) (hc : b ≤ c) : Well Z S n c := let ⟨z, g, m, t, e, h1, h2, h3, h4, h5⟩ := h; ⟨z, g, m, t, e, h1, h2, h3, h4, by omega⟩
theorem Well.now {Z S : Store} {n : Nat} {b : Int} (h : Well Z S n b) : Well S S n b := ⟨⟨Nat.le_refl _, fun _ _ _ => rfl⟩, h.2⟩
theorem take_run (S : Store) (n : Nat) (g m t k : Int) (hS : S[n]? = some (.lst [.int g, .int m, .int t])) (hg0 : 0 ≤ g) (hm0 : 0 ≤ m) (hm1 : m < 2 ^ 62) (ht0 : 0 ≤ t) (ht1 : t < 2 ^ 20) (hk0 : 0 < k) (hk1 : k < 2 ^ 50) :
    ∃ d g' t', m_l_take [.loc n, .int k] S = .ok (.int d) (S.set n (.lst [.int g', .int m, .int t'])) ∧ 0 ≤ d ∧ d < k ∧ 0 ≤ g' ∧ 0 ≤ t' ∧ t' ≤ t + 1 := by
  unfold m_l_take b_l_take
  by_cases hg : 0 < g
  · refine ⟨g % k, g / k, t, ?_, Int.emod_nonneg _ (by omega), Int.emod_lt_of_pos _ hk0, Int.ediv_nonneg hg0 (by omega), ht0, by omega⟩
    have c1 : cMod g k := hk0
    have c2 : cDiv g k := cDiv_nn hk0 (by omega)
    simp [mDef_eq, hS, hg, c1, c2, ixN]
  · have hu0 : 0 < t + 1 := by omega
    have hu1 : t + 1 ≤ 2 ^ 20 := by omega
    have hu2 : 65537 * (t + 1) * (t + 1) ≤ 65537 * (t + 1) * 2 ^ 20 := Int.mul_le_mul_of_nonneg_left hu1 (by omega)
    have hu3 : 0 ≤ 65537 * (t + 1) * (t + 1) := Int.mul_nonneg (by omega) (by omega)
    have c1 : cMul 65537 (t + 1) := cMul_nn (by omega) (by omega) (by omega) (by omega)
    have c2 : cMul (65537 * (t + 1)) (t + 1) := cMul_nn (by omega) (by omega) (by omega) (by omega)
    have c3 : cPowW (m + 65537 * (t + 1) * (t + 1) + 11) 3 := by
      generalize 65537 * (t + 1) * (t + 1) = q at *
      exact cPowW_nn (k := 64) (by omega) (by omega) (by omega) (by omega)
    have c4 : cMod (t + 1) 5 := by unfold cMod; omega
    obtain ⟨P, hP, hP0, hP1⟩ : ∃ P : Int, atI [D.int 2147483647, D.int 2147483629, D.int 2147483587, D.int 2147483579, D.int 2147483563] ((t + 1) % 5) = some (.int P) ∧ 0 < P ∧ P < 2 ^ 40 := by
      have h0 := Int.emod_nonneg (t + 1) (show (5 : Int) ≠ 0 by omega)
      have h1 := Int.emod_lt_of_pos (t + 1) (show (0 : Int) < 5 by omega)
      generalize (t + 1) % 5 = j at h0 h1
      have hj : j = 0 ∨ j = 1 ∨ j = 2 ∨ j = 3 ∨ j = 4 := by omega
      rcases hj with rfl | rfl | rfl | rfl | rfl
      · exact ⟨_, atI_nat (j := 0) rfl, by omega, by omega⟩
      · exact ⟨_, atI_nat (j := 1) rfl, by omega, by omega⟩
      · exact ⟨_, atI_nat (j := 2) rfl, by omega, by omega⟩
      · exact ⟨_, atI_nat (j := 3) rfl, by omega, by omega⟩
      · exact ⟨_, atI_nat (j := 4) rfl, by omega, by omega⟩
    have c5 : ∀ x : Int, cMod x P := fun x => hP0
    have c6 : ∀ x : Int, cMod x 10007 := fun x => by unfold cMod; omega
    have c7 : cMul 97 (t + 1) := cMul_nn (by omega) (by omega) (by omega) (by omega)
    have c8 : ∀ x : Int, cMul (x % P) (x % P % 10007 + 97 * (t + 1)) := fun x => by
      have q1 := Int.emod_nonneg x (show P ≠ 0 by omega)
      have q2 := Int.emod_lt_of_pos x hP0
      exact cMul_nn (by omega) (by omega) (by omega) (by omega)
    have c9 : ∀ x : Int, cMod x 2305843009213693907 := fun x => by unfold cMod; omega
    have c10 : ∀ x : Int, cDiv x 97 := fun x => cDiv_nn (by omega) (by omega)
    have c11 : ∀ x : Int, cMod x k := fun x => hk0
    have hg' : (0 < g) = False := eq_false hg
    have eix : ∀ S' : Store, gIx (.lst [D.int 2147483647, D.int 2147483629, D.int 2147483587, D.int 2147483579, D.int 2147483563]) (.int ((t + 1) % 5)) S' = .ok (.int P) S' := fun S' => by rw [gIx_lst, hP]
    simp [-gIx_lst, mDef_eq, hS, hg', ixN, c1, c2, c3, c4, c5, c6, c7, c8, c9, c10, c11, List.getElem?_set_self', eix]
    exact ⟨_, g, t + 1, ⟨rfl, rfl⟩, Int.emod_nonneg _ (by omega), Int.emod_lt_of_pos _ hk0, hg0, by omega, by omega⟩
theorem take_ok {Z S : Store} {n : Nat} {b k : Int} (h : Well Z S n b) (hb : b < 2 ^ 20) (hk0 : 0 < k) (hk1 : k < 2 ^ 50) : ∃ d S', m_l_take [.loc n, .int k] S = .ok (.int d) S' ∧ 0 ≤ d ∧ d < k ∧ Well Z S' n (b + 1) := by
  have hl := h.lt
  obtain ⟨⟨z1, z2⟩, g, m, t, hS, h1, h2, h3, h4, h5⟩ := h
  obtain ⟨d, g', t', e, d0, d1, g0, t0, t1⟩ := take_run S n g m t k hS h1 h2 h3 h4 (by omega) hk0 hk1
  exact ⟨d, _, e, d0, d1, ⟨by rw [List.length_set]; exact z1, fun i hi hn => by rw [List.getElem?_set_ne (Ne.symm hn)]; exact z2 i hi hn⟩, g', m, t', List.getElem?_set_self hl, g0, h2, h3, t0, by omega⟩
theorem of_ok {Z S : Store} {n : Nat} {b : Int} {l : List D} (h : Well Z S n b) (hb : b < 2 ^ 20) (hl : 0 < l.length) (hl2 : l.length < 1000000) : ∃ d S', m_l_of [.loc n, .lst l] S = .ok d S' ∧ d ∈ l ∧ Well Z S' n (b + 1) := by
  obtain ⟨d, S', e, d0, d1, hw⟩ := take_ok (k := (l.length : Int)) h hb (by omega) (by omega)
  have hd : d.toNat < l.length := by omega
  refine ⟨l[d.toNat], S', ?_, List.getElem_mem hd, hw⟩
  have ea : atI l ((d.toNat : Nat) : Int) = some l[d.toNat] := atI_nat (List.getElem?_eq_getElem hd)
  rw [Int.toNat_of_nonneg d0] at ea
  unfold m_l_of b_l_of
  simp [mDef_eq, e, ea]
theorem abs_if (x : Int) : (if x < 0 then -x else x) = ((x.natAbs : Nat) : Int) := by split <;> omega
theorem box_ok (ns : List Int) (k : Nat) (hk : k < 100) (S : Store) : ∃ S', m_l_box [.scr ns, .int k] S = .ok (.loc S.length) S' ∧ Well S S' S.length 0 := by
  have hp : ∀ x : Int, cMod x 2305843009213693951 := fun x => by unfold cMod; omega
  have hp2 : ∀ x : Int, cMod x 2305843009213693921 := fun x => by unfold cMod; omega
  have p1 : cPowW 10 60 := by decide +kernel
  have p2 : cPowW 10 18 := by decide +kernel
  have p3 : cPowW 1000000000000000000000000000000000000000000000000000000000000 4 := by decide +kernel
  have big : ∀ x : Int, cMod x (1000000000000000000000000000000000000000000000000000000000000 ^ 4) := fun x => by unfold cMod; decide +kernel
  have big0 : (1000000000000000000000000000000000000000000000000000000000000 : Int) ^ 4 ≠ 0 := by decide +kernel
  have m3 : ∀ x : Int, cMul (x % 2305843009213693951) 48271 := fun x => cMul_nn (by omega) (by omega) (by omega) (by omega)
  have m4 : cMul 7919 k := cMul_nn (by omega) (by omega) (by omega) (by omega)
  have m5 : cMul (7919 * (k : Int)) k := cMul_nn (by omega) (by omega) (by omega) (by omega)
  have fin : ∀ (g m : Int), 0 ≤ g → 0 ≤ m → m < 2 ^ 62 → Well S (S ++ [.lst [.int g, .int m, .int 0]]) S.length 0 := fun g m h1 h2 h3 => ⟨⟨by rw [List.length_append]; omega, fun i hi _ => List.getElem?_append_left hi⟩, g, m, 0, List.getElem?_concat_length, h1, h2, h3, by omega, by omega⟩
  have e18 : (10 : Int) ^ (18 : Int).toNat = 1000000000000000000 := by decide +kernel
  have e60 : (10 : Int) ^ (60 : Int).toNat = 1000000000000000000000000000000000000000000000000000000000000 := by decide +kernel
  have e4 : ∀ x : Int, x ^ (4 : Int).toNat = x ^ 4 := fun x => rfl
  have z3 : 3 ≤ sizeLine := by decide
  unfold m_l_box b_l_box
  by_cases hc : k < ns.length
  · have ea : atI ns ((k : Nat) : Int) = some ns[k] := atI_nat (List.getElem?_eq_getElem hc)
    have hcd : decide (((k : Nat) : Int) < ((ns.length : Nat) : Int)) = true := decide_eq_true (by omega)
    by_cases hg : (1000000000000000000 : Int) ≤ (ns[k].natAbs : Int)
    · have hgd : decide ((1000000000000000000 : Int) ≤ (ns[k].natAbs : Int)) = true := decide_eq_true hg
      simp only [bind_ok_eq, bind_bad_eq, mVar_eq, mC_eq, m2_eq, mNil_eq, mPass_eq, mSeq_eq, mSet_eq, mRet_eq, mDrop_eq, mIf_eq, mB_eq, isB_eq, mAndT_eq, mOrT_eq, mNotT_eq, mAnd_eq, mOr_eq, mNot_eq, mIfE_eq, mChain_eq, aNil_eq, aCons_eq, mTup_eq, mDisp_eq, mLst_eq, mLoc_eq, mOwnL_eq, mCall_eq, mCallK_eq, mAsg_eq, mFor_eq, iSeq_eq, iSeqD_lst, iSeqD_tup, iLst_eq, seqD_lst, iLoc_eq, locD_eq, iScr_eq, scrD_eq, iRange1_eq, iRange2_eq, iEnumM_eq, mLc_eq, mYes_eq, mQ_eq, mQL_eq, mA_eq, mB1_eq, hLen_eq, hTup_eq, hList_eq, hAbs_eq, hInt_eq, hIntB_eq, hMax2_eq, hMin2_eq, gNeg_eq, gI_eq, gI0_eq, gIx_tup, gIx_lst, gIx_scr, gIx_loc, mSetC_eq, putC_eq, mApp_eq, mAppC_eq, qOwn_eq, gLen_tup, gLen_lst, gLen_scr, mDNewK_eq, mDGet2_eq, mDPut_eq, mDSet_eq, dictAt_eq, dictR_eq, keyD_int, keyD_str, mPar_eq, sNil_eq, sVal_eq, sOwnL_eq, setSl_nil, setSl_cons, setD_nil, setD_cons, pat_nm, pat_tp, pats_nil, pats_cons, wipeM_nil, wipeM_cons, forL_nil, lcL_nil, n2_eq, atI0, atI1, atI2, gNe_strs, gEq_strs, gNe_ints, gEq_ints, sz_1, sz_2, sz_3, sz_4, sz_5, sz_6, sz_7, sz_8, sz_9, sz_10, sz_11, sz_12, sz_13, sz_14, sz_15, sz_16, sz_17, sz_18, sz_19, sz_20, mLock_eq, nLock_eq, dictVar_eq, iKeysF_eq, keyV_inl, mRest_eq, restAt_eq, mExt_eq, iTup_eq, tupD_tup, mRetO_eq, gIsB_eq, gNotB_eq, gIsN_non, gIsN_int, gIsN_bl, gIsN_str, gIsN_tup, gIsN_lst, gIsN_loc, gNotN_non, gNotN_int, gNotN_bl, gNotN_str, gNotN_tup, gNotN_lst, gNotN_loc, iZip_eq, mAsg2_eq, mAug_eq, hSortedR_eq, mV_eq, mVL_eq, anyD_lst, anyD_tup, anyD_scr, anyD_loc, mIxO_eq, mSetO_eq, oNone_eq, oSome_eq, mSlT_eq, mSlQ_eq, mTruQ_eq, iRg1_eq, iRg2_eq, mNNew_eq, dictT_eq, mNGet1_eq, mNGet2_eq, gNGet_eq, gNIn_eq, putT_eq, setT_eq, mNPut_eq, mNSet_eq, mDGet1_eq, aStar_eq, mDCopy_eq, gDIn_eq, mIns_eq, mRevQ_eq, mKeysL_eq, mItemsL_eq, mDPop_eq, mBad_eq, mAsgS_eq, mAsgSS_eq, hStrI_eq, gReprA_loc, gReprA_tup, gReprA_lst, gReprA_non, gReprA_bl, gReprA_int, gReprA_str, mRevT_eq, Nat.zero_le, Nat.zero_add, Nat.reduceAdd, and_self, mDef_eq, List.getElem?_cons_zero, List.getElem?_cons_succ, List.set, List.length_cons, List.length_nil, List.map_cons, List.map_nil, List.replicate, List.cons_append, List.nil_append, List.append_nil, if_true, if_false, ite_true, ite_false, Bool.false_eq_true, Bool.true_eq_false, Bool.not_true, Bool.not_false, List.zip_cons_cons, List.zip_nil_left, gLen_scr, hcd, isB_eq, ea, abs_if, p1, p2, p3, e18, e60, e4, big, hp, hp2, hgd, m3, m4, m5, z3]
      exact ⟨_, rfl, fin _ _ (Int.emod_nonneg _ big0) (Int.emod_nonneg _ (by decide)) (by omega)⟩
    · have hgd : decide ((1000000000000000000 : Int) ≤ (ns[k].natAbs : Int)) = false := decide_eq_false hg
      simp only [bind_ok_eq, bind_bad_eq, mVar_eq, mC_eq, m2_eq, mNil_eq, mPass_eq, mSeq_eq, mSet_eq, mRet_eq, mDrop_eq, mIf_eq, mB_eq, isB_eq, mAndT_eq, mOrT_eq, mNotT_eq, mAnd_eq, mOr_eq, mNot_eq, mIfE_eq, mChain_eq, aNil_eq, aCons_eq, mTup_eq, mDisp_eq, mLst_eq, mLoc_eq, mOwnL_eq, mCall_eq, mCallK_eq, mAsg_eq, mFor_eq, iSeq_eq, iSeqD_lst, iSeqD_tup, iLst_eq, seqD_lst, iLoc_eq, locD_eq, iScr_eq, scrD_eq, iRange1_eq, iRange2_eq, iEnumM_eq, mLc_eq, mYes_eq, mQ_eq, mQL_eq, mA_eq, mB1_eq, hLen_eq, hTup_eq, hList_eq, hAbs_eq, hInt_eq, hIntB_eq, hMax2_eq, hMin2_eq, gNeg_eq, gI_eq, gI0_eq, gIx_tup, gIx_lst, gIx_scr, gIx_loc, mSetC_eq, putC_eq, mApp_eq, mAppC_eq, qOwn_eq, gLen_tup, gLen_lst, gLen_scr, mDNewK_eq, mDGet2_eq, mDPut_eq, mDSet_eq, dictAt_eq, dictR_eq, keyD_int, keyD_str, mPar_eq, sNil_eq, sVal_eq, sOwnL_eq, setSl_nil, setSl_cons, setD_nil, setD_cons, pat_nm, pat_tp, pats_nil, pats_cons, wipeM_nil, wipeM_cons, forL_nil, lcL_nil, n2_eq, atI0, atI1, atI2, gNe_strs, gEq_strs, gNe_ints, gEq_ints, sz_1, sz_2, sz_3, sz_4, sz_5, sz_6, sz_7, sz_8, sz_9, sz_10, sz_11, sz_12, sz_13, sz_14, sz_15, sz_16, sz_17, sz_18, sz_19, sz_20, mLock_eq, nLock_eq, dictVar_eq, iKeysF_eq, keyV_inl, mRest_eq, restAt_eq, mExt_eq, iTup_eq, tupD_tup, mRetO_eq, gIsB_eq, gNotB_eq, gIsN_non, gIsN_int, gIsN_bl, gIsN_str, gIsN_tup, gIsN_lst, gIsN_loc, gNotN_non, gNotN_int, gNotN_bl, gNotN_str, gNotN_tup, gNotN_lst, gNotN_loc, iZip_eq, mAsg2_eq, mAug_eq, hSortedR_eq, mV_eq, mVL_eq, anyD_lst, anyD_tup, anyD_scr, anyD_loc, mIxO_eq, mSetO_eq, oNone_eq, oSome_eq, mSlT_eq, mSlQ_eq, mTruQ_eq, iRg1_eq, iRg2_eq, mNNew_eq, dictT_eq, mNGet1_eq, mNGet2_eq, gNGet_eq, gNIn_eq, putT_eq, setT_eq, mNPut_eq, mNSet_eq, mDGet1_eq, aStar_eq, mDCopy_eq, gDIn_eq, mIns_eq, mRevQ_eq, mKeysL_eq, mItemsL_eq, mDPop_eq, mBad_eq, mAsgS_eq, mAsgSS_eq, hStrI_eq, gReprA_loc, gReprA_tup, gReprA_lst, gReprA_non, gReprA_bl, gReprA_int, gReprA_str, mRevT_eq, Nat.zero_le, Nat.zero_add, Nat.reduceAdd, and_self, mDef_eq, List.getElem?_cons_zero, List.getElem?_cons_succ, List.set, List.length_cons, List.length_nil, List.map_cons, List.map_nil, List.replicate, List.cons_append, List.nil_append, List.append_nil, if_true, if_false, ite_true, ite_false, Bool.false_eq_true, Bool.true_eq_false, Bool.not_true, Bool.not_false, List.zip_cons_cons, List.zip_nil_left, gLen_scr, hcd, isB_eq, ea, abs_if, p1, p2, p3, e18, e60, e4, big, hp, hp2, hgd, m3, m4, m5, z3]
      exact ⟨_, rfl, fin _ _ (Int.le_refl _) (Int.emod_nonneg _ (by decide)) (by omega)⟩
  · have hcd : decide (((k : Nat) : Int) < ((ns.length : Nat) : Int)) = false := decide_eq_false (by omega)
    have hgd : decide ((1000000000000000000 : Int) ≤ (((0 : Int).natAbs : Nat) : Int)) = false := by decide
    simp only [bind_ok_eq, bind_bad_eq, mVar_eq, mC_eq, m2_eq, mNil_eq, mPass_eq, mSeq_eq, mSet_eq, mRet_eq, mDrop_eq, mIf_eq, mB_eq, isB_eq, mAndT_eq, mOrT_eq, mNotT_eq, mAnd_eq, mOr_eq, mNot_eq, mIfE_eq, mChain_eq, aNil_eq, aCons_eq, mTup_eq, mDisp_eq, mLst_eq, mLoc_eq, mOwnL_eq, mCall_eq, mCallK_eq, mAsg_eq, mFor_eq, iSeq_eq, iSeqD_lst, iSeqD_tup, iLst_eq, seqD_lst, iLoc_eq, locD_eq, iScr_eq, scrD_eq, iRange1_eq, iRange2_eq, iEnumM_eq, mLc_eq, mYes_eq, mQ_eq, mQL_eq, mA_eq, mB1_eq, hLen_eq, hTup_eq, hList_eq, hAbs_eq, hInt_eq, hIntB_eq, hMax2_eq, hMin2_eq, gNeg_eq, gI_eq, gI0_eq, gIx_tup, gIx_lst, gIx_scr, gIx_loc, mSetC_eq, putC_eq, mApp_eq, mAppC_eq, qOwn_eq, gLen_tup, gLen_lst, gLen_scr, mDNewK_eq, mDGet2_eq, mDPut_eq, mDSet_eq, dictAt_eq, dictR_eq, keyD_int, keyD_str, mPar_eq, sNil_eq, sVal_eq, sOwnL_eq, setSl_nil, setSl_cons, setD_nil, setD_cons, pat_nm, pat_tp, pats_nil, pats_cons, wipeM_nil, wipeM_cons, forL_nil, lcL_nil, n2_eq, atI0, atI1, atI2, gNe_strs, gEq_strs, gNe_ints, gEq_ints, sz_1, sz_2, sz_3, sz_4, sz_5, sz_6, sz_7, sz_8, sz_9, sz_10, sz_11, sz_12, sz_13, sz_14, sz_15, sz_16, sz_17, sz_18, sz_19, sz_20, mLock_eq, nLock_eq, dictVar_eq, iKeysF_eq, keyV_inl, mRest_eq, restAt_eq, mExt_eq, iTup_eq, tupD_tup, mRetO_eq, gIsB_eq, gNotB_eq, gIsN_non, gIsN_int, gIsN_bl, gIsN_str, gIsN_tup, gIsN_lst, gIsN_loc, gNotN_non, gNotN_int, gNotN_bl, gNotN_str, gNotN_tup, gNotN_lst, gNotN_loc, iZip_eq, mAsg2_eq, mAug_eq, hSortedR_eq, mV_eq, mVL_eq, anyD_lst, anyD_tup, anyD_scr, anyD_loc, mIxO_eq, mSetO_eq, oNone_eq, oSome_eq, mSlT_eq, mSlQ_eq, mTruQ_eq, iRg1_eq, iRg2_eq, mNNew_eq, dictT_eq, mNGet1_eq, mNGet2_eq, gNGet_eq, gNIn_eq, putT_eq, setT_eq, mNPut_eq, mNSet_eq, mDGet1_eq, aStar_eq, mDCopy_eq, gDIn_eq, mIns_eq, mRevQ_eq, mKeysL_eq, mItemsL_eq, mDPop_eq, mBad_eq, mAsgS_eq, mAsgSS_eq, hStrI_eq, gReprA_loc, gReprA_tup, gReprA_lst, gReprA_non, gReprA_bl, gReprA_int, gReprA_str, mRevT_eq, Nat.zero_le, Nat.zero_add, Nat.reduceAdd, and_self, mDef_eq, List.getElem?_cons_zero, List.getElem?_cons_succ, List.set, List.length_cons, List.length_nil, List.map_cons, List.map_nil, List.replicate, List.cons_append, List.nil_append, List.append_nil, if_true, if_false, ite_true, ite_false, Bool.false_eq_true, Bool.true_eq_false, Bool.not_true, Bool.not_false, List.zip_cons_cons, List.zip_nil_left, gLen_scr, hcd, isB_eq, abs_if, p1, p2, p3, e18, e60, e4, big, hp, hp2, hgd, m3, m4, m5, z3]
    exact ⟨_, rfl, fin _ _ (Int.le_refl _) (Int.emod_nonneg _ (by decide)) (by omega)⟩
end K60
set_option maxRecDepth 100000
set_option maxHeartbeats 4000000
namespace K60
open Mo L2 PySem Pm
/-! ### all shares -/
def stepN (p : Nat) (rows : List (List Nat)) : List (List Nat) := rows.flatMap fun row => (List.range (p - row.sum + 1)).map fun k => row ++ [k]
def rowsN (p : Nat) : Nat → List (List Nat)
  | 0 => [[]]
  | h + 1 => stepN p (rowsN p h)
def allN (p h : Nat) : List (List Nat) := (rowsN p (h - 1)).map fun row => row ++ [p - row.sum]
def dLs (rows : List (List Nat)) : List D := rows.map dT
theorem dLs_len (rows : List (List Nat)) : (dLs rows).length = rows.length := List.length_map _
theorem cat_dT (a b : List Nat) (S : Store) (h : a.length + b.length ≤ 1000) : gCatT (dT a) (dT b) S = .ok (dT (a ++ b)) S := by
  have hz : a.length + b.length ≤ sizeLine := small_le (by omega)
  unfold dT dL
  simp [gCatT, List.length_map]
  exact hz
theorem sum_snoc (row : List Nat) (k : Nat) : (row ++ [k]).sum = row.sum + k := by simp
theorem stepN_row {p : Nat} {rows : List (List Nat)} {n : Nat} (h : ∀ r ∈ rows, r.sum ≤ p ∧ r.length = n) : ∀ r ∈ stepN p rows, r.sum ≤ p ∧ r.length = n + 1 := by
  intro r hr
  obtain ⟨row, h1, h2⟩ := List.mem_flatMap.mp hr
  obtain ⟨k, h3, rfl⟩ := List.mem_map.mp h2
  have := List.mem_range.mp h3
  obtain ⟨q1, q2⟩ := h row h1
  rw [sum_snoc, List.length_append, List.length_singleton]
  omega
theorem rowsN_row (p : Nat) : ∀ h, ∀ r ∈ rowsN p h, r.sum ≤ p ∧ r.length = h
  | 0 => by intro r hr; rw [rowsN, List.mem_singleton] at hr; subst hr; simp
  | h + 1 => stepN_row (rowsN_row p h)
theorem stepN_len (p : Nat) : ∀ rows : List (List Nat), (stepN p rows).length ≤ rows.length * (p + 1)
  | [] => by simp [stepN]
  | r :: rows => by
    have := stepN_len p rows
    unfold stepN at this ⊢
    rw [List.flatMap_cons, List.length_append, List.length_map, List.length_range, List.length_cons, Nat.succ_mul]
    omega
theorem rowsN_len {p : Nat} (hp : p ≤ 9) : ∀ h, (rowsN p h).length ≤ 10 ^ h
  | 0 => by simp [rowsN]
  | h + 1 => by
    have h1 := stepN_len p (rowsN p h)
    have h2 := rowsN_len hp h
    rw [rowsN, Nat.pow_succ]
    exact Nat.le_trans h1 (Nat.mul_le_mul h2 (by omega))
theorem pow_le3 {k : Nat} (h : k ≤ 3) : 10 ^ k ≤ 1000 := by
  have hk : k = 0 ∨ k = 1 ∨ k = 2 ∨ k = 3 := by omega
  rcases hk with rfl | rfl | rfl | rfl <;> decide
theorem all_turn (S : Store) (p : Nat) (hp : p ≤ 9) (row : List Nat) (hr : row.sum ≤ p ∧ row.length ≤ 8) (out : List (List Nat)) (ho : out.length ≤ 100000) (x1 x2 x3 x5 x6 : Option Slot) :
    b_l_all_shares_4 [some (.val (.int (p : Int))), x1, x2, x3, some (.own (.lst (dLs out))), some (.val (dT row)), x6] S =
      .ok (.nx [some (.val (.int (p : Int))), x1, x2, x3, some (.own (.lst (dLs (out ++ (List.range (p - row.sum + 1)).map fun k => row ++ [k])))), some (.val (dT row)), x6]) S := by
  have f1 : gSubI (.int (p : Int)) (.int ((row.sum : Nat) : Int)) S = .ok (.int ((p - row.sum : Nat) : Int)) S := sub_nat S (by omega)
  have f2 : gAddI (.int ((p - row.sum : Nat) : Int)) (.int 1) S = .ok (.int ((p - row.sum + 1 : Nat) : Int)) S := add_nat S (by omega)
  have hr : i_l_all_shares_2 [some (.val (.int (p : Int))), x1, x2, x3, some (.own (.lst (dLs out))), some (.val (dT row)), x6] S = .ok ((List.range (p - row.sum + 1)).map fun k : Nat => D.int (0 + (k : Nat))) S := iRange1_nat (by simp only [bind_ok_eq, bind_bad_eq, mVar_eq, mC_eq, m2_eq, mNil_eq, mPass_eq, mSeq_eq, mSet_eq, mRet_eq, mDrop_eq, mIf_eq, mB_eq, isB_eq, mAndT_eq, mOrT_eq, mNotT_eq, mAnd_eq, mOr_eq, mNot_eq, mIfE_eq, mChain_eq, aNil_eq, aCons_eq, mTup_eq, mDisp_eq, mLst_eq, mLoc_eq, mOwnL_eq, mCall_eq, mCallK_eq, mAsg_eq, mFor_eq, iSeq_eq, iSeqD_lst, iSeqD_tup, iLst_eq, seqD_lst, iLoc_eq, locD_eq, iScr_eq, scrD_eq, iEnumM_eq, mLc_eq, mYes_eq, mQ_eq, mQL_eq, mA_eq, mB1_eq, hLen_eq, hTup_eq, hList_eq, hAbs_eq, hInt_eq, hIntB_eq, gNeg_eq, gIx_tup, gIx_lst, gIx_scr, gIx_loc, mSetC_eq, putC_eq, mApp_eq, mAppC_eq, qOwn_eq, gLen_tup, gLen_lst, gLen_scr, mDNewK_eq, mDGet2_eq, mDPut_eq, mDSet_eq, dictAt_eq, dictR_eq, keyD_int, keyD_str, mPar_eq, sNil_eq, sVal_eq, sOwnL_eq, setSl_nil, setSl_cons, setD_nil, setD_cons, pat_nm, pat_tp, pats_nil, pats_cons, wipeM_nil, wipeM_cons, forL_nil, lcL_nil, n2_eq, atI0, atI1, atI2, gNe_strs, gEq_strs, gNe_ints, gEq_ints, sz_1, sz_2, sz_3, sz_4, sz_5, sz_6, sz_7, sz_8, sz_9, sz_10, sz_11, sz_12, sz_13, sz_14, sz_15, sz_16, sz_17, sz_18, sz_19, sz_20, mLock_eq, nLock_eq, dictVar_eq, iKeysF_eq, keyV_inl, mRest_eq, restAt_eq, mExt_eq, iTup_eq, tupD_tup, mRetO_eq, gIsB_eq, gNotB_eq, gIsN_non, gIsN_int, gIsN_bl, gIsN_str, gIsN_tup, gIsN_lst, gIsN_loc, gNotN_non, gNotN_int, gNotN_bl, gNotN_str, gNotN_tup, gNotN_lst, gNotN_loc, mAsg2_eq, mAug_eq, hSortedR_eq, mV_eq, mVL_eq, anyD_lst, anyD_tup, anyD_scr, anyD_loc, mIxO_eq, mSetO_eq, oNone_eq, oSome_eq, mSlT_eq, mSlQ_eq, mTruQ_eq, mNNew_eq, dictT_eq, mNGet1_eq, mNGet2_eq, gNGet_eq, gNIn_eq, putT_eq, setT_eq, mNPut_eq, mNSet_eq, mDGet1_eq, aStar_eq, mDCopy_eq, gDIn_eq, mIns_eq, mRevQ_eq, mKeysL_eq, mItemsL_eq, mDPop_eq, mBad_eq, mAsgS_eq, mAsgSS_eq, hStrI_eq, gReprA_loc, gReprA_tup, gReprA_lst, gReprA_non, gReprA_bl, gReprA_int, gReprA_str, mRevT_eq, Nat.zero_le, Nat.zero_add, Nat.reduceAdd, and_self, mDef_eq, List.getElem?_cons_zero, List.getElem?_cons_succ, List.set, List.length_cons, List.length_nil, List.map_cons, List.map_nil, List.replicate, List.cons_append, List.nil_append, List.append_nil, if_true, if_false, ite_true, ite_false, Bool.false_eq_true, Bool.true_eq_false, Bool.not_true, Bool.not_false, List.zip_cons_cons, List.zip_nil_left, any_dT, sum_dL, f1, f2]) (by omega)
  have z1 : 1 ≤ sizeLine := by decide
  have em := lcL_map (p := .nm 6) (me := e_l_all_shares_3) (enc := fun k : Nat => D.int (0 + (k : Nat))) (f := fun k : Nat => dT (row ++ [k])) (ρ := [some (.val (.int (p : Int))), x1, x2, x3, some (.own (.lst (dLs out))), some (.val (dT row)), none]) (S := S) (List.range (p - row.sum + 1)) (fun k _ => ⟨_, rfl, by
    have ec := cat_dT row [k] S (by simp; omega)
    have e3 : D.tup [.int (0 + (k : Nat))] = dT [k] := by rw [Int.zero_add]; rfl
    unfold e_l_all_shares_3
    simp only [bind_ok_eq, bind_bad_eq, mVar_eq, mC_eq, m2_eq, mNil_eq, mPass_eq, mSeq_eq, mSet_eq, mRet_eq, mDrop_eq, mIf_eq, mB_eq, isB_eq, mAndT_eq, mOrT_eq, mNotT_eq, mAnd_eq, mOr_eq, mNot_eq, mIfE_eq, mChain_eq, aNil_eq, aCons_eq, mTup_eq, mDisp_eq, mLst_eq, mLoc_eq, mOwnL_eq, mCall_eq, mCallK_eq, mAsg_eq, mFor_eq, iSeq_eq, iSeqD_lst, iSeqD_tup, iLst_eq, seqD_lst, iLoc_eq, locD_eq, iScr_eq, scrD_eq, iRange1_eq, iRange2_eq, iEnumM_eq, mLc_eq, mYes_eq, mQ_eq, mQL_eq, mA_eq, mB1_eq, hLen_eq, hTup_eq, hList_eq, hAbs_eq, hInt_eq, hIntB_eq, hMax2_eq, hMin2_eq, gNeg_eq, gI_eq, gI0_eq, gIx_tup, gIx_lst, gIx_scr, gIx_loc, mSetC_eq, putC_eq, mApp_eq, mAppC_eq, qOwn_eq, gLen_tup, gLen_lst, gLen_scr, mDNewK_eq, mDGet2_eq, mDPut_eq, mDSet_eq, dictAt_eq, dictR_eq, keyD_int, keyD_str, mPar_eq, sNil_eq, sVal_eq, sOwnL_eq, setSl_nil, setSl_cons, setD_nil, setD_cons, pat_nm, pat_tp, pats_nil, pats_cons, wipeM_nil, wipeM_cons, forL_nil, lcL_nil, n2_eq, atI0, atI1, atI2, gNe_strs, gEq_strs, gNe_ints, gEq_ints, sz_1, sz_2, sz_3, sz_4, sz_5, sz_6, sz_7, sz_8, sz_9, sz_10, sz_11, sz_12, sz_13, sz_14, sz_15, sz_16, sz_17, sz_18, sz_19, sz_20, mLock_eq, nLock_eq, dictVar_eq, iKeysF_eq, keyV_inl, mRest_eq, restAt_eq, mExt_eq, iTup_eq, tupD_tup, mRetO_eq, gIsB_eq, gNotB_eq, gIsN_non, gIsN_int, gIsN_bl, gIsN_str, gIsN_tup, gIsN_lst, gIsN_loc, gNotN_non, gNotN_int, gNotN_bl, gNotN_str, gNotN_tup, gNotN_lst, gNotN_loc, iZip_eq, mAsg2_eq, mAug_eq, hSortedR_eq, mV_eq, mVL_eq, anyD_lst, anyD_tup, anyD_scr, anyD_loc, mIxO_eq, mSetO_eq, oNone_eq, oSome_eq, mSlT_eq, mSlQ_eq, mTruQ_eq, iRg1_eq, iRg2_eq, mNNew_eq, dictT_eq, mNGet1_eq, mNGet2_eq, gNGet_eq, gNIn_eq, putT_eq, setT_eq, mNPut_eq, mNSet_eq, mDGet1_eq, aStar_eq, mDCopy_eq, gDIn_eq, mIns_eq, mRevQ_eq, mKeysL_eq, mItemsL_eq, mDPop_eq, mBad_eq, mAsgS_eq, mAsgSS_eq, hStrI_eq, gReprA_loc, gReprA_tup, gReprA_lst, gReprA_non, gReprA_bl, gReprA_int, gReprA_str, mRevT_eq, Nat.zero_le, Nat.zero_add, Nat.reduceAdd, and_self, mDef_eq, List.getElem?_cons_zero, List.getElem?_cons_succ, List.set, List.length_cons, List.length_nil, List.map_cons, List.map_nil, List.replicate, List.cons_append, List.nil_append, List.append_nil, if_true, if_false, ite_true, ite_false, Bool.false_eq_true, Bool.true_eq_false, Bool.not_true, Bool.not_false, List.zip_cons_cons, List.zip_nil_left, z1, e3, ec]⟩)
  have e4 : (List.range (p - row.sum + 1)).map (fun k : Nat => dT (row ++ [k])) = dLs ((List.range (p - row.sum + 1)).map fun k => row ++ [k]) := by unfold dLs; rw [List.map_map]; rfl
  have hl : ((List.range (p - row.sum + 1)).map fun k => row ++ [k]).length ≤ 10 := by rw [List.length_map, List.length_range]; omega
  have z2 : (dLs ((List.range (p - row.sum + 1)).map fun k => row ++ [k])).length ≤ sizeLine := small_le (by rw [dLs_len]; omega)
  have z3 : (dLs out).length + (dLs ((List.range (p - row.sum + 1)).map fun k => row ++ [k])).length ≤ sizeLine := small_le (by rw [dLs_len, dLs_len]; omega)
  have e5 : dLs out ++ dLs ((List.range (p - row.sum + 1)).map fun k => row ++ [k]) = dLs (out ++ (List.range (p - row.sum + 1)).map fun k => row ++ [k]) := by unfold dLs; rw [List.map_append]
  rw [e4] at em
  unfold b_l_all_shares_4
  simp only [bind_ok_eq, bind_bad_eq, mVar_eq, mC_eq, m2_eq, mNil_eq, mPass_eq, mSeq_eq, mSet_eq, mRet_eq, mDrop_eq, mIf_eq, mB_eq, isB_eq, mAndT_eq, mOrT_eq, mNotT_eq, mAnd_eq, mOr_eq, mNot_eq, mIfE_eq, mChain_eq, aNil_eq, aCons_eq, mTup_eq, mDisp_eq, mLst_eq, mLoc_eq, mOwnL_eq, mCall_eq, mCallK_eq, mAsg_eq, mFor_eq, iSeq_eq, iSeqD_lst, iSeqD_tup, iLst_eq, seqD_lst, iLoc_eq, locD_eq, iScr_eq, scrD_eq, iEnumM_eq, mLc_eq, mYes_eq, mQ_eq, mQL_eq, mA_eq, mB1_eq, hLen_eq, hTup_eq, hList_eq, hAbs_eq, hInt_eq, hIntB_eq, gNeg_eq, gIx_tup, gIx_lst, gIx_scr, gIx_loc, mSetC_eq, putC_eq, mApp_eq, mAppC_eq, qOwn_eq, gLen_tup, gLen_lst, gLen_scr, mDNewK_eq, mDGet2_eq, mDPut_eq, mDSet_eq, dictAt_eq, dictR_eq, keyD_int, keyD_str, mPar_eq, sNil_eq, sVal_eq, sOwnL_eq, setSl_nil, setSl_cons, setD_nil, setD_cons, pat_nm, pat_tp, pats_nil, pats_cons, wipeM_nil, wipeM_cons, forL_nil, lcL_nil, n2_eq, atI0, atI1, atI2, gNe_strs, gEq_strs, gNe_ints, gEq_ints, sz_1, sz_2, sz_3, sz_4, sz_5, sz_6, sz_7, sz_8, sz_9, sz_10, sz_11, sz_12, sz_13, sz_14, sz_15, sz_16, sz_17, sz_18, sz_19, sz_20, mLock_eq, nLock_eq, dictVar_eq, iKeysF_eq, keyV_inl, mRest_eq, restAt_eq, mExt_eq, iTup_eq, tupD_tup, mRetO_eq, gIsB_eq, gNotB_eq, gIsN_non, gIsN_int, gIsN_bl, gIsN_str, gIsN_tup, gIsN_lst, gIsN_loc, gNotN_non, gNotN_int, gNotN_bl, gNotN_str, gNotN_tup, gNotN_lst, gNotN_loc, mAsg2_eq, mAug_eq, hSortedR_eq, mV_eq, mVL_eq, anyD_lst, anyD_tup, anyD_scr, anyD_loc, mIxO_eq, mSetO_eq, oNone_eq, oSome_eq, mSlT_eq, mSlQ_eq, mTruQ_eq, mNNew_eq, dictT_eq, mNGet1_eq, mNGet2_eq, gNGet_eq, gNIn_eq, putT_eq, setT_eq, mNPut_eq, mNSet_eq, mDGet1_eq, aStar_eq, mDCopy_eq, gDIn_eq, mIns_eq, mRevQ_eq, mKeysL_eq, mItemsL_eq, mDPop_eq, mBad_eq, mAsgS_eq, mAsgSS_eq, hStrI_eq, gReprA_loc, gReprA_tup, gReprA_lst, gReprA_non, gReprA_bl, gReprA_int, gReprA_str, mRevT_eq, Nat.zero_le, Nat.zero_add, Nat.reduceAdd, and_self, mDef_eq, List.getElem?_cons_zero, List.getElem?_cons_succ, List.set, List.length_cons, List.length_nil, List.map_cons, List.map_nil, List.replicate, List.cons_append, List.nil_append, List.append_nil, if_true, if_false, ite_true, ite_false, Bool.false_eq_true, Bool.true_eq_false, Bool.not_true, Bool.not_false, List.zip_cons_cons, List.zip_nil_left, hr, em, z2, z3, e5]
theorem all_loop (S : Store) (p : Nat) (hp : p ≤ 9) (x1 x2 x3 : Option Slot) : ∀ (rows out : List (List Nat)) (x5 x6 : Option Slot), (∀ r ∈ rows, r.sum ≤ p ∧ r.length ≤ 8) → out.length + 10 * rows.length ≤ 100000 →
    ∃ y5 y6, mForL (.nm 5) b_l_all_shares_4 (dLs rows) [some (.val (.int (p : Int))), x1, x2, x3, some (.own (.lst (dLs out))), x5, x6] S =
      .ok (.nx [some (.val (.int (p : Int))), x1, x2, x3, some (.own (.lst (dLs (out ++ stepN p rows)))), y5, y6]) S
  | [], out, x5, x6, _, _ => ⟨x5, x6, by simp [stepN, dLs]⟩
  | r :: rows, out, x5, x6, h, ho => by
    have hr := h r List.mem_cons_self
    rw [List.length_cons] at ho
    obtain ⟨y5, y6, e⟩ := all_loop S p hp x1 x2 x3 rows (out ++ (List.range (p - r.sum + 1)).map fun k => r ++ [k]) (some (.val (dT r))) x6 (fun q hq => h q (List.mem_cons_of_mem _ hq)) (by rw [List.length_append, List.length_map, List.length_range]; omega)
    refine ⟨y5, y6, ?_⟩
    rw [show dLs (r :: rows) = dT r :: dLs rows from rfl, forL_cons]
    simp only [pat_nm, setD_cons, setD_nil, List.set]
    rw [all_turn S p hp r hr out (by omega) x1 x2 x3 none x6, bind_ok_eq]
    dsimp only
    rw [e]
    have : stepN p (r :: rows) = ((List.range (p - r.sum + 1)).map fun k => r ++ [k]) ++ stepN p rows := by unfold stepN; rw [List.flatMap_cons]
    rw [this, List.append_assoc]
theorem all_ok (p h : Nat) (hp : p ≤ 9) (hh : 1 ≤ h ∧ h ≤ 4) (S : Store) : m_l_all_shares [.int (p : Int), .int (h : Int)] S = .ok (.lst (dLs (allN p h))) S := by
  obtain ⟨ρ', S', e, ⟨y3, y4, y5, y6, rfl⟩, rfl⟩ := forL_inv (p := .nm 3) (mb := b_l_all_shares_5) (enc := fun k : Nat => D.int (0 + (k : Nat))) (fun d ρ S' => (∃ y3 y4 y5 y6, ρ = [some (.val (.int (p : Int))), some (.val (.int (h : Int))), some (.val (.lst (dLs (rowsN p d.length)))), y3, y4, y5, y6]) ∧ S' = S) (List.range (h - 1)) (ρ := [some (.val (.int (p : Int))), some (.val (.int (h : Int))), some (.val (.lst (dLs (rowsN p 0)))), none, none, none, none]) (S := S) ⟨⟨_, _, _, _, rfl⟩, rfl⟩ (by
    rintro d j r ρ S' e ⟨⟨y3, y4, y5, y6, rfl⟩, rfl⟩
    have hd : d.length < h - 1 := by have := congrArg List.length e; simp at this; omega
    have hlen := rowsN_len hp d.length
    have hpow : 10 ^ d.length ≤ 1000 := pow_le3 (by omega)
    obtain ⟨z5, z6, e2⟩ := all_loop S' p hp (some (.val (.int (h : Int)))) (some (.val (.lst (dLs (rowsN p d.length))))) (some (.val (.int (0 + (j : Nat))))) (rowsN p d.length) [] y5 y6 (fun q hq => by have := rowsN_row p d.length q hq; omega) (by simp; omega)
    rw [List.nil_append] at e2
    refine ⟨[(3, .int (0 + (j : Nat)))], [some (.val (.int (p : Int))), some (.val (.int (h : Int))), some (.val (.lst (dLs (rowsN p (d.length + 1))))), some (.val (.int (0 + (j : Nat)))), some (.val (.lst (dLs (rowsN p (d.length + 1))))), z5, z6], S', by simp, .inl ?_, ⟨⟨_, _, _, _, by rw [List.length_append, List.length_singleton]⟩, rfl⟩⟩
    have z0 : 0 ≤ sizeLine := Nat.zero_le _
    have e2' : mForL (.nm 5) b_l_all_shares_4 (dLs (rowsN p d.length)) [some (.val (.int (p : Int))), some (.val (.int (h : Int))), some (.val (.lst (dLs (rowsN p d.length)))), some (.val (.int (0 + (j : Nat)))), some (.own (.lst [])), y5, y6] S' = _ := e2
    unfold b_l_all_shares_5
    simp only [bind_ok_eq, bind_bad_eq, mVar_eq, mC_eq, m2_eq, mNil_eq, mPass_eq, mSeq_eq, mSet_eq, mRet_eq, mDrop_eq, mIf_eq, mB_eq, isB_eq, mAndT_eq, mOrT_eq, mNotT_eq, mAnd_eq, mOr_eq, mNot_eq, mIfE_eq, mChain_eq, aNil_eq, aCons_eq, mTup_eq, mDisp_eq, mLst_eq, mLoc_eq, mOwnL_eq, mCall_eq, mCallK_eq, mAsg_eq, mFor_eq, iSeq_eq, iSeqD_lst, iSeqD_tup, iLst_eq, seqD_lst, iLoc_eq, locD_eq, iScr_eq, scrD_eq, iRange1_eq, iRange2_eq, iEnumM_eq, mLc_eq, mYes_eq, mQ_eq, mQL_eq, mA_eq, mB1_eq, hLen_eq, hTup_eq, hList_eq, hAbs_eq, hInt_eq, hIntB_eq, hMax2_eq, hMin2_eq, gNeg_eq, gI_eq, gI0_eq, gIx_tup, gIx_lst, gIx_scr, gIx_loc, mSetC_eq, putC_eq, mApp_eq, mAppC_eq, qOwn_eq, gLen_tup, gLen_lst, gLen_scr, mDNewK_eq, mDGet2_eq, mDPut_eq, mDSet_eq, dictAt_eq, dictR_eq, keyD_int, keyD_str, mPar_eq, sNil_eq, sVal_eq, sOwnL_eq, setSl_nil, setSl_cons, setD_nil, setD_cons, pat_nm, pat_tp, pats_nil, pats_cons, wipeM_nil, wipeM_cons, forL_nil, lcL_nil, n2_eq, atI0, atI1, atI2, gNe_strs, gEq_strs, gNe_ints, gEq_ints, sz_1, sz_2, sz_3, sz_4, sz_5, sz_6, sz_7, sz_8, sz_9, sz_10, sz_11, sz_12, sz_13, sz_14, sz_15, sz_16, sz_17, sz_18, sz_19, sz_20, mLock_eq, nLock_eq, dictVar_eq, iKeysF_eq, keyV_inl, mRest_eq, restAt_eq, mExt_eq, iTup_eq, tupD_tup, mRetO_eq, gIsB_eq, gNotB_eq, gIsN_non, gIsN_int, gIsN_bl, gIsN_str, gIsN_tup, gIsN_lst, gIsN_loc, gNotN_non, gNotN_int, gNotN_bl, gNotN_str, gNotN_tup, gNotN_lst, gNotN_loc, iZip_eq, mAsg2_eq, mAug_eq, hSortedR_eq, mV_eq, mVL_eq, anyD_lst, anyD_tup, anyD_scr, anyD_loc, mIxO_eq, mSetO_eq, oNone_eq, oSome_eq, mSlT_eq, mSlQ_eq, mTruQ_eq, iRg1_eq, iRg2_eq, mNNew_eq, dictT_eq, mNGet1_eq, mNGet2_eq, gNGet_eq, gNIn_eq, putT_eq, setT_eq, mNPut_eq, mNSet_eq, mDGet1_eq, aStar_eq, mDCopy_eq, gDIn_eq, mIns_eq, mRevQ_eq, mKeysL_eq, mItemsL_eq, mDPop_eq, mBad_eq, mAsgS_eq, mAsgSS_eq, hStrI_eq, gReprA_loc, gReprA_tup, gReprA_lst, gReprA_non, gReprA_bl, gReprA_int, gReprA_str, mRevT_eq, Nat.zero_le, Nat.zero_add, Nat.reduceAdd, and_self, mDef_eq, List.getElem?_cons_zero, List.getElem?_cons_succ, List.set, List.length_cons, List.length_nil, List.map_cons, List.map_nil, List.replicate, List.cons_append, List.nil_append, List.append_nil, if_true, if_false, ite_true, ite_false, Bool.false_eq_true, Bool.true_eq_false, Bool.not_true, Bool.not_false, List.zip_cons_cons, List.zip_nil_left, z0, e2']
    rfl)
  rw [List.length_range] at e
  have f1 : gSubI (.int (h : Int)) (.int 1) S' = .ok (.int ((h - 1 : Nat) : Int)) S' := sub_nat S' (by omega)
  have hr : i_l_all_shares_1 [some (.val (.int (p : Int))), some (.val (.int (h : Int))), some (.val (.lst [.tup []])), none, none, none, none] S' = .ok ((List.range (h - 1)).map fun k : Nat => D.int (0 + (k : Nat))) S' := iRange1_nat (by simp only [bind_ok_eq, bind_bad_eq, mVar_eq, mC_eq, m2_eq, mNil_eq, mPass_eq, mSeq_eq, mSet_eq, mRet_eq, mDrop_eq, mIf_eq, mB_eq, isB_eq, mAndT_eq, mOrT_eq, mNotT_eq, mAnd_eq, mOr_eq, mNot_eq, mIfE_eq, mChain_eq, aNil_eq, aCons_eq, mTup_eq, mDisp_eq, mLst_eq, mLoc_eq, mOwnL_eq, mCall_eq, mCallK_eq, mAsg_eq, mFor_eq, iSeq_eq, iSeqD_lst, iSeqD_tup, iLst_eq, seqD_lst, iLoc_eq, locD_eq, iScr_eq, scrD_eq, iEnumM_eq, mLc_eq, mYes_eq, mQ_eq, mQL_eq, mA_eq, mB1_eq, hLen_eq, hTup_eq, hList_eq, hAbs_eq, hInt_eq, hIntB_eq, gNeg_eq, gIx_tup, gIx_lst, gIx_scr, gIx_loc, mSetC_eq, putC_eq, mApp_eq, mAppC_eq, qOwn_eq, gLen_tup, gLen_lst, gLen_scr, mDNewK_eq, mDGet2_eq, mDPut_eq, mDSet_eq, dictAt_eq, dictR_eq, keyD_int, keyD_str, mPar_eq, sNil_eq, sVal_eq, sOwnL_eq, setSl_nil, setSl_cons, setD_nil, setD_cons, pat_nm, pat_tp, pats_nil, pats_cons, wipeM_nil, wipeM_cons, forL_nil, lcL_nil, n2_eq, atI0, atI1, atI2, gNe_strs, gEq_strs, gNe_ints, gEq_ints, sz_1, sz_2, sz_3, sz_4, sz_5, sz_6, sz_7, sz_8, sz_9, sz_10, sz_11, sz_12, sz_13, sz_14, sz_15, sz_16, sz_17, sz_18, sz_19, sz_20, mLock_eq, nLock_eq, dictVar_eq, iKeysF_eq, keyV_inl, mRest_eq, restAt_eq, mExt_eq, iTup_eq, tupD_tup, mRetO_eq, gIsB_eq, gNotB_eq, gIsN_non, gIsN_int, gIsN_bl, gIsN_str, gIsN_tup, gIsN_lst, gIsN_loc, gNotN_non, gNotN_int, gNotN_bl, gNotN_str, gNotN_tup, gNotN_lst, gNotN_loc, mAsg2_eq, mAug_eq, hSortedR_eq, mV_eq, mVL_eq, anyD_lst, anyD_tup, anyD_scr, anyD_loc, mIxO_eq, mSetO_eq, oNone_eq, oSome_eq, mSlT_eq, mSlQ_eq, mTruQ_eq, mNNew_eq, dictT_eq, mNGet1_eq, mNGet2_eq, gNGet_eq, gNIn_eq, putT_eq, setT_eq, mNPut_eq, mNSet_eq, mDGet1_eq, aStar_eq, mDCopy_eq, gDIn_eq, mIns_eq, mRevQ_eq, mKeysL_eq, mItemsL_eq, mDPop_eq, mBad_eq, mAsgS_eq, mAsgSS_eq, hStrI_eq, gReprA_loc, gReprA_tup, gReprA_lst, gReprA_non, gReprA_bl, gReprA_int, gReprA_str, mRevT_eq, Nat.zero_le, Nat.zero_add, Nat.reduceAdd, and_self, mDef_eq, List.getElem?_cons_zero, List.getElem?_cons_succ, List.set, List.length_cons, List.length_nil, List.map_cons, List.map_nil, List.replicate, List.cons_append, List.nil_append, List.append_nil, if_true, if_false, ite_true, ite_false, Bool.false_eq_true, Bool.true_eq_false, Bool.not_true, Bool.not_false, List.zip_cons_cons, List.zip_nil_left, f1]) (by omega)
  have z0 : 0 ≤ sizeLine := Nat.zero_le _
  have z1 : 1 ≤ sizeLine := by decide
  have e4 : mForL (.nm 3) b_l_all_shares_5 ((List.range (h - 1)).map fun k : Nat => D.int (0 + (k : Nat))) [some (.val (.int (p : Int))), some (.val (.int (h : Int))), some (.val (.lst [.tup []])), none, none, none, none] S' = _ := e
  have em := lcL_map (p := .nm 5) (me := e_l_all_shares_6) (enc := dT) (f := fun row => dT (row ++ [p - row.sum])) (ρ := [some (.val (.int (p : Int))), some (.val (.int (h : Int))), some (.val (.lst (dLs (rowsN p (h - 1))))), y3, y4, none, y6]) (S := S') (rowsN p (h - 1)) (fun row hrow => ⟨_, rfl, by
    have hr := rowsN_row p (h - 1) row hrow
    have ec := cat_dT row [p - row.sum] S' (by simp; omega)
    have e5 : (p : Int) - ((row.sum : Nat) : Int) = ((p - row.sum : Nat) : Int) := by omega
    have e6 : D.tup [.int ((p - row.sum : Nat) : Int)] = dT [p - row.sum] := rfl
    unfold e_l_all_shares_6
    simp only [bind_ok_eq, bind_bad_eq, mVar_eq, mC_eq, m2_eq, mNil_eq, mPass_eq, mSeq_eq, mSet_eq, mRet_eq, mDrop_eq, mIf_eq, mB_eq, isB_eq, mAndT_eq, mOrT_eq, mNotT_eq, mAnd_eq, mOr_eq, mNot_eq, mIfE_eq, mChain_eq, aNil_eq, aCons_eq, mTup_eq, mDisp_eq, mLst_eq, mLoc_eq, mOwnL_eq, mCall_eq, mCallK_eq, mAsg_eq, mFor_eq, iSeq_eq, iSeqD_lst, iSeqD_tup, iLst_eq, seqD_lst, iLoc_eq, locD_eq, iScr_eq, scrD_eq, iRange1_eq, iRange2_eq, iEnumM_eq, mLc_eq, mYes_eq, mQ_eq, mQL_eq, mA_eq, mB1_eq, hLen_eq, hTup_eq, hList_eq, hAbs_eq, hInt_eq, hIntB_eq, hMax2_eq, hMin2_eq, gNeg_eq, gI_eq, gI0_eq, gIx_tup, gIx_lst, gIx_scr, gIx_loc, mSetC_eq, putC_eq, mApp_eq, mAppC_eq, qOwn_eq, gLen_tup, gLen_lst, gLen_scr, mDNewK_eq, mDGet2_eq, mDPut_eq, mDSet_eq, dictAt_eq, dictR_eq, keyD_int, keyD_str, mPar_eq, sNil_eq, sVal_eq, sOwnL_eq, setSl_nil, setSl_cons, setD_nil, setD_cons, pat_nm, pat_tp, pats_nil, pats_cons, wipeM_nil, wipeM_cons, forL_nil, lcL_nil, n2_eq, atI0, atI1, atI2, gNe_strs, gEq_strs, gNe_ints, gEq_ints, sz_1, sz_2, sz_3, sz_4, sz_5, sz_6, sz_7, sz_8, sz_9, sz_10, sz_11, sz_12, sz_13, sz_14, sz_15, sz_16, sz_17, sz_18, sz_19, sz_20, mLock_eq, nLock_eq, dictVar_eq, iKeysF_eq, keyV_inl, mRest_eq, restAt_eq, mExt_eq, iTup_eq, tupD_tup, mRetO_eq, gIsB_eq, gNotB_eq, gIsN_non, gIsN_int, gIsN_bl, gIsN_str, gIsN_tup, gIsN_lst, gIsN_loc, gNotN_non, gNotN_int, gNotN_bl, gNotN_str, gNotN_tup, gNotN_lst, gNotN_loc, iZip_eq, mAsg2_eq, mAug_eq, hSortedR_eq, mV_eq, mVL_eq, anyD_lst, anyD_tup, anyD_scr, anyD_loc, mIxO_eq, mSetO_eq, oNone_eq, oSome_eq, mSlT_eq, mSlQ_eq, mTruQ_eq, iRg1_eq, iRg2_eq, mNNew_eq, dictT_eq, mNGet1_eq, mNGet2_eq, gNGet_eq, gNIn_eq, putT_eq, setT_eq, mNPut_eq, mNSet_eq, mDGet1_eq, aStar_eq, mDCopy_eq, gDIn_eq, mIns_eq, mRevQ_eq, mKeysL_eq, mItemsL_eq, mDPop_eq, mBad_eq, mAsgS_eq, mAsgSS_eq, hStrI_eq, gReprA_loc, gReprA_tup, gReprA_lst, gReprA_non, gReprA_bl, gReprA_int, gReprA_str, mRevT_eq, Nat.zero_le, Nat.zero_add, Nat.reduceAdd, and_self, mDef_eq, List.getElem?_cons_zero, List.getElem?_cons_succ, List.set, List.length_cons, List.length_nil, List.map_cons, List.map_nil, List.replicate, List.cons_append, List.nil_append, List.append_nil, if_true, if_false, ite_true, ite_false, Bool.false_eq_true, Bool.true_eq_false, Bool.not_true, Bool.not_false, List.zip_cons_cons, List.zip_nil_left, z1, any_dT, sum_dL, e5, e6, ec]⟩)
  have e7 : (rowsN p (h - 1)).map (fun row => dT (row ++ [p - row.sum])) = dLs (allN p h) := by unfold dLs allN; rw [List.map_map]; rfl
  have em' : mLcL (.nm 5) mYes e_l_all_shares_6 (dLs (rowsN p (h - 1))) [some (.val (.int (p : Int))), some (.val (.int (h : Int))), some (.val (.lst (dLs (rowsN p (h - 1))))), y3, y4, none, y6] S' = .ok (dLs (allN p h)) S' := by rw [← e7]; exact em
  have z2 : (dLs (allN p h)).length ≤ sizeLine := by
    have h1 := rowsN_len hp (h - 1)
    have h2 : 10 ^ (h - 1) ≤ 1000 := pow_le3 (by omega)
    unfold allN
    rw [dLs_len, List.length_map]
    exact small_le (by omega)
  unfold m_l_all_shares b_l_all_shares
  simp only [bind_ok_eq, bind_bad_eq, mVar_eq, mC_eq, m2_eq, mNil_eq, mPass_eq, mSeq_eq, mSet_eq, mRet_eq, mDrop_eq, mIf_eq, mB_eq, isB_eq, mAndT_eq, mOrT_eq, mNotT_eq, mAnd_eq, mOr_eq, mNot_eq, mIfE_eq, mChain_eq, aNil_eq, aCons_eq, mTup_eq, mDisp_eq, mLst_eq, mLoc_eq, mOwnL_eq, mCall_eq, mCallK_eq, mAsg_eq, mFor_eq, iSeq_eq, iSeqD_lst, iSeqD_tup, iLst_eq, seqD_lst, iLoc_eq, locD_eq, iScr_eq, scrD_eq, iEnumM_eq, mLc_eq, mYes_eq, mQ_eq, mQL_eq, mA_eq, mB1_eq, hLen_eq, hTup_eq, hList_eq, hAbs_eq, hInt_eq, hIntB_eq, gNeg_eq, gIx_tup, gIx_lst, gIx_scr, gIx_loc, mSetC_eq, putC_eq, mApp_eq, mAppC_eq, qOwn_eq, gLen_tup, gLen_lst, gLen_scr, mDNewK_eq, mDGet2_eq, mDPut_eq, mDSet_eq, dictAt_eq, dictR_eq, keyD_int, keyD_str, mPar_eq, sNil_eq, sVal_eq, sOwnL_eq, setSl_nil, setSl_cons, setD_nil, setD_cons, pat_nm, pat_tp, pats_nil, pats_cons, wipeM_nil, wipeM_cons, forL_nil, lcL_nil, n2_eq, atI0, atI1, atI2, gNe_strs, gEq_strs, gNe_ints, gEq_ints, sz_1, sz_2, sz_3, sz_4, sz_5, sz_6, sz_7, sz_8, sz_9, sz_10, sz_11, sz_12, sz_13, sz_14, sz_15, sz_16, sz_17, sz_18, sz_19, sz_20, mLock_eq, nLock_eq, dictVar_eq, iKeysF_eq, keyV_inl, mRest_eq, restAt_eq, mExt_eq, iTup_eq, tupD_tup, mRetO_eq, gIsB_eq, gNotB_eq, gIsN_non, gIsN_int, gIsN_bl, gIsN_str, gIsN_tup, gIsN_lst, gIsN_loc, gNotN_non, gNotN_int, gNotN_bl, gNotN_str, gNotN_tup, gNotN_lst, gNotN_loc, mAsg2_eq, mAug_eq, hSortedR_eq, mV_eq, mVL_eq, anyD_lst, anyD_tup, anyD_scr, anyD_loc, mIxO_eq, mSetO_eq, oNone_eq, oSome_eq, mSlT_eq, mSlQ_eq, mTruQ_eq, mNNew_eq, dictT_eq, mNGet1_eq, mNGet2_eq, gNGet_eq, gNIn_eq, putT_eq, setT_eq, mNPut_eq, mNSet_eq, mDGet1_eq, aStar_eq, mDCopy_eq, gDIn_eq, mIns_eq, mRevQ_eq, mKeysL_eq, mItemsL_eq, mDPop_eq, mBad_eq, mAsgS_eq, mAsgSS_eq, hStrI_eq, gReprA_loc, gReprA_tup, gReprA_lst, gReprA_non, gReprA_bl, gReprA_int, gReprA_str, mRevT_eq, Nat.zero_le, Nat.zero_add, Nat.reduceAdd, and_self, mDef_eq, List.getElem?_cons_zero, List.getElem?_cons_succ, List.set, List.length_cons, List.length_nil, List.map_cons, List.map_nil, List.replicate, List.cons_append, List.nil_append, List.append_nil, if_true, if_false, ite_true, ite_false, Bool.false_eq_true, Bool.true_eq_false, Bool.not_true, Bool.not_false, List.zip_cons_cons, List.zip_nil_left, z0, z1, hr, e4, em', z2]
end K60
set_option maxRecDepth 100000
set_option maxHeartbeats 4000000
namespace K60
open Mo L2 PySem Pm
def safeN (f : Nat) (row : List Nat) : Bool := Nat.blt row.sum (2 * ((isN false row).take (row.length - f)).sum)
def movedN (s row : List Nat) : Nat := ((s.zip row).map fun p => p.1 - p.2).sum
def leastN (n : Nat) (ns : List Nat) : Nat := ns.foldl (fun a x => if Nat.blt x a = true then x else a) n
def eqL : List Nat → List Nat → Bool
  | [], [] => true
  | a :: as, b :: bs => Nat.beq a b && eqL as bs
  | _, _ => false
def chkS (s : List Nat) (f : Nat) (safe : List (List Nat)) : Bool := match safe with
  | [] => (spreadN s f).isNone
  | r :: rs => match spreadN s f with
    | none => false
    | some (m, b) => safe.any (eqL b) && Nat.beq m (leastN (movedN s r) (rs.map (movedN s))) && Nat.beq m (movedN s b) && (!Nat.beq f 0 || (Nat.beq m 0 && eqL b s))
def chkPH (p h : Nat) : Bool := (List.range h).all fun f => (allN p h).all fun s => chkS s f ((allN p h).filter (safeN f))
end K60
set_option maxRecDepth 100000
set_option maxHeartbeats 4000000
namespace K60
open Mo L2 PySem Pm
theorem eqL_eq : ∀ {a b : List Nat}, eqL a b = true → a = b
  | [], [], _ => rfl
  | x :: a, y :: b, h => by
    rw [eqL, Bool.and_eq_true] at h
    rw [Nat.eq_of_beq_eq_true h.1, eqL_eq h.2]
  | [], _ :: _, h => by cases h
  | _ :: _, [], h => by cases h
theorem mem_step {p n : Nat} {rows : List (List Nat)} (h : ∀ s : List Nat, s.length = n → s.sum ≤ p → s ∈ rows) : ∀ s : List Nat, s.length = n + 1 → s.sum ≤ p → s ∈ stepN p rows := by
  intro s hs hp
  have hne : s ≠ [] := by intro e; rw [e] at hs; cases hs
  obtain ⟨r, k, rfl⟩ : ∃ r k, s = r ++ [k] := ⟨s.dropLast, s.getLast hne, (List.dropLast_concat_getLast hne).symm⟩
  rw [sum_snoc] at hp
  rw [List.length_append, List.length_singleton] at hs
  exact List.mem_flatMap.mpr ⟨r, h r (by omega) (by omega), List.mem_map.mpr ⟨k, List.mem_range.mpr (by omega), rfl⟩⟩
theorem mem_rows (p : Nat) : ∀ h, ∀ s : List Nat, s.length = h → s.sum ≤ p → s ∈ rowsN p h
  | 0 => by intro s hs _; rw [List.eq_nil_of_length_eq_zero hs]; simp [rowsN]
  | h + 1 => mem_step (mem_rows p h)
theorem mem_all (s : List Nat) (h : 1 ≤ s.length) : s ∈ allN s.sum s.length := by
  have hne : s ≠ [] := by intro e; rw [e] at h; simp at h
  obtain ⟨r, k, rfl⟩ : ∃ r k, s = r ++ [k] := ⟨s.dropLast, s.getLast hne, (List.dropLast_concat_getLast hne).symm⟩
  unfold allN
  refine List.mem_map.mpr ⟨r, mem_rows _ _ r (by simp) (by rw [sum_snoc]; omega), ?_⟩
  rw [sum_snoc, Nat.add_sub_cancel_left]
theorem all_row (p h : Nat) (hh : 1 ≤ h) : ∀ r ∈ allN p h, r.sum = p ∧ r.length = h := by
  intro r hr
  obtain ⟨row, h1, rfl⟩ := List.mem_map.mp hr
  have := rowsN_row p (h - 1) row h1
  rw [sum_snoc, List.length_append, List.length_singleton]; omega
theorem all_len {p h : Nat} (hp : p ≤ 9) (hh : h ≤ 4) : (allN p h).length ≤ 1000 := by
  unfold allN
  rw [List.length_map]
  exact Nat.le_trans (rowsN_len hp (h - 1)) (pow_le3 (by omega))
/-! ### what is plain -/
theorem nice_dT (s : List Nat) (h : s.sum < 2 ^ 60) (hl : s.length ≤ 100) : NiceD (dT s) := by
  refine ⟨?_, ?_, ?_⟩
  · unfold dT dL
    rw [niceD]
    refine niceDs_map fun x hx => nice_int ?_
    have : x ≤ s.sum := mem_le_sum hx
    omega
  · unfold dT dL
    rw [nodesD]
    have := nodesDs_map (f := fun n : Nat => D.int (n : Int)) (k := 1) (xs := s) fun x _ => by simp [nodesD]
    omega
  · unfold dT dL
    rw [depthD]
    have := depthDs_map (f := fun n : Nat => D.int (n : Int)) (k := 0) (xs := s) fun x _ => by simp [depthD]
    omega
theorem cut_dL (s : List Nat) (n : Nat) : cutD (dL s) none (some (n : Int)) = dL (s.take n) := by
  rw [cutD_to]; unfold dL; rw [List.map_take]
theorem iter_zip (s row : List Nat) (S : Store) (ρ : MEnv) (m n : ME) (h1 : m ρ S = .ok (dT s) S) (h2 : n ρ S = .ok (dT row) S) : iZip (aCons m (aCons n aNil)) ρ S = .ok ((s.zip row).map fun p : Nat × Nat => D.tup [.int (p.1 : Int), .int (p.2 : Int)]) S := by
  have ez : zipD (dL s) (dL row) = (s.zip row).map fun p : Nat × Nat => D.tup [.int (p.1 : Int), .int (p.2 : Int)] := zipD_map _ _ s row
  rw [iZip_eq, aCons_eq, h1, bind_ok_eq, aCons_eq, h2, bind_ok_eq, aNil_eq, ← ez]
  rfl
end K60
set_option maxRecDepth 100000
set_option maxHeartbeats 2000000
namespace K60
open Mo L2 PySem Pm
theorem leastN_spec : ∀ (ns : List Nat) (n : Nat), leastN n ns ∈ n :: ns ∧ ∀ x ∈ n :: ns, leastN n ns ≤ x
  | [], n => ⟨by simp [leastN], by simp [leastN]⟩
  | y :: ns, n => by
    have e : leastN n (y :: ns) = leastN (if Nat.blt y n = true then y else n) ns := rfl
    obtain ⟨h1, h2⟩ := leastN_spec ns (if Nat.blt y n = true then y else n)
    rw [e]
    have h3 := h2 _ List.mem_cons_self
    by_cases h : y < n
    · rw [if_pos (by rw [Nat.blt_eq]; exact h)] at h1 h2 h3 ⊢
      refine ⟨?_, fun x hx => ?_⟩
      · rcases List.mem_cons.mp h1 with q | q
        · rw [q]; simp
        · exact List.mem_cons_of_mem _ (List.mem_cons_of_mem _ q)
      · rcases List.mem_cons.mp hx with q | q
        · omega
        · rcases List.mem_cons.mp q with q | q
          · omega
          · exact h2 x (List.mem_cons_of_mem _ q)
    · rw [if_neg (by rw [Nat.blt_eq]; exact h)] at h1 h2 h3 ⊢
      refine ⟨?_, fun x hx => ?_⟩
      · rcases List.mem_cons.mp h1 with q | q
        · rw [q]; simp
        · exact List.mem_cons_of_mem _ (List.mem_cons_of_mem _ q)
      · rcases List.mem_cons.mp hx with q | q
        · omega
        · rcases List.mem_cons.mp q with q | q
          · omega
          · exact h2 x (List.mem_cons_of_mem _ q)
theorem moved_ge (b : Nat) : ∀ s r : List Nat, s.length = r.length → overN s b ≤ overN r b + movedN s r
  | [], [], _ => by simp [overN]
  | x :: s, y :: r, h => by
    have := moved_ge b s r (by simpa using h)
    unfold movedN at this ⊢
    rw [over_cons, over_cons, List.zip_cons_cons, List.map_cons, List.sum_cons]
    dsimp only
    omega
  | [], _ :: _, h => by simp at h
  | _ :: _, [], h => by simp at h
theorem moved_self : ∀ s : List Nat, movedN s s = 0
  | [] => rfl
  | x :: s => by
    have := moved_self s
    unfold movedN at this ⊢
    rw [List.zip_cons_cons, List.map_cons, List.sum_cons, this]; simp
/-- the first of the rising ones are the last of the falling ones -/
theorem rev_sort (s : List Nat) : isN false s = (isN true s).reverse := by
  have h1 : ((isN false s).map fun n : Nat => (n : Int)) = (((isN true s).reverse).map fun n : Nat => (n : Int)) := by
    refine perm_ord (b := false) ?_ ?_ ?_
    · rw [isN_eq, List.map_reverse, isN_eq]
      exact ((isI_perm false _).trans (isI_perm true _).symm).trans (List.reverse_perm _).symm
    · rw [isN_eq]; exact isI_ord false _
    · rw [List.map_reverse, List.pairwise_reverse, List.pairwise_map]
      exact (sort_ge s).imp fun h => by simp [ordI]; omega
  exact (List.map_inj_right fun a b h => Int.ofNat.inj h).mp h1
theorem low_sum (s : List Nat) (f : Nat) (hf : f ≤ s.length) : ((isN false s).take (s.length - f)).sum = s.sum - ((isN true s).take f).sum ∧ ((isN true s).take f).sum ≤ s.sum := by
  have h1 := take_sum_le f (isN true s)
  rw [isN_sum] at h1
  refine ⟨?_, h1⟩
  have e := congrArg List.sum (List.take_append_drop f (isN true s))
  rw [List.sum_append, isN_sum] at e
  have h2 : ((isN false s).take (s.length - f)).sum = ((isN true s).drop f).sum := by
    rw [rev_sort, List.take_reverse, List.sum_reverse, isN_len]
    congr 2
    omega
  omega
/-- safe: the greatest f have no more than may fall -/
theorem safe_iff {s : List Nat} {f : Nat} (h0 : 0 < s.sum) (hf : f ≤ s.length) : safeN f s = true ↔ ((isN true s).take f).sum ≤ mostN s := by
  obtain ⟨e, h⟩ := low_sum s f hf
  unfold safeN
  rw [Nat.blt_eq, e]
  unfold mostN
  omega
theorem safe_least {s r : List Nat} {f : Nat} (h0 : 0 < s.sum) (h1 : 0 < f) (h2 : f < s.length) (hl : r.length = s.length) (hs : r.sum = s.sum) (hr : safeN f r = true) : lowN s f ≤ highN s f ∧ movesN s f (bestN s f) ≤ movedN s r := by
  have hr := (safe_iff (by omega) (by omega)).mp hr
  have hmost : mostN r = mostN s := by unfold mostN; rw [hs]
  rw [hmost] at hr
  have hln : f ≤ (isN true r).length := by rw [isN_len]; omega
  obtain ⟨p1, p2⟩ := split_at (isN true r) f h1 hln (sort_ge r)
  generalize ht : (isN true r).getD (f - 1) 0 = t at p1 p2
  have e := List.take_append_drop f (isN true r)
  -- the greatest f: f times t and what is over it
  have q1 : ((isN true r).take f).sum = f * t + overN r t := by
    have a : ∀ xs : List Nat, (∀ x ∈ xs, t ≤ x) → xs.sum = xs.length * t + overN xs t := fun xs => by
      induction xs with
      | nil => intro _; simp [overN]
      | cons x xs ih =>
        intro hx
        have i1 := ih fun y hy => hx y (List.mem_cons_of_mem _ hy)
        have i2 := hx x List.mem_cons_self
        rw [List.sum_cons, List.length_cons, over_cons, Nat.succ_mul]; omega
    have a1 := a _ p1
    rw [List.length_take, Nat.min_eq_left hln] at a1
    have a2 := over_zero ((isN true r).drop f) p2
    have a3 : overN (isN true r) t = overN r t := over_sort true t r
    rw [← e, over_app, a2] at a3
    omega
  have q2 : (isN true r).sum = ((isN true r).take f).sum + ((isN true r).drop f).sum := by
    have := congrArg List.sum e
    rw [List.sum_append] at this
    exact this.symm
  rw [isN_sum] at q2
  have q3 : ((isN true r).drop f).sum ≤ (s.length - f) * t := by
    have a : ∀ xs : List Nat, (∀ x ∈ xs, x ≤ t) → xs.sum ≤ xs.length * t := fun xs => by
      induction xs with
      | nil => intro _; simp
      | cons x xs ih =>
        intro hx
        have i1 := ih fun y hy => hx y (List.mem_cons_of_mem _ hy)
        have i2 := hx x List.mem_cons_self
        rw [List.sum_cons, List.length_cons, Nat.succ_mul]; omega
    have := a _ p2
    rw [List.length_drop, isN_len, hl] at this
    exact this
  have hmS : mostN s ≤ s.sum := by unfold mostN; omega
  have hhi : t ≤ highN s f := by
    unfold highN
    rw [Nat.le_div_iff_mul_le h1, Nat.mul_comm]; omega
  have hlo : lowN s f ≤ t := by
    unfold lowN
    have hk : 0 < s.length - f := by omega
    rw [← Nat.lt_succ_iff, Nat.div_lt_iff_lt_mul hk]
    have : (s.length - f) * t + (s.length - f) = t.succ * (s.length - f) := by rw [Nat.succ_mul, Nat.mul_comm]
    omega
  refine ⟨Nat.le_trans hlo hhi, ?_⟩
  have b1 := best_least h1 (Nat.le_of_lt h2) ⟨hlo, hhi⟩
  have b2 := moved_ge t s r hl.symm
  unfold movesN at b1 ⊢
  omega
theorem eqL_self : ∀ a : List Nat, eqL a a = true
  | [] => rfl
  | x :: a => by rw [eqL, eqL_self a]; simp
theorem beq_self (n : Nat) : Nat.beq n n = true := by simp
theorem chk_ok (s : List Nat) (f : Nat) (h0 : 0 < s.sum) (h2 : f < s.length) : chkS s f ((allN s.sum s.length).filter (safeN f)) = true := by
  have hall := all_row s.sum s.length (by omega)
  have hmem : ∀ r : List Nat, r.length = s.length → r.sum = s.sum → safeN f r = true → r ∈ (allN s.sum s.length).filter (safeN f) := fun r h1 h2 h3 => by
    refine List.mem_filter.mpr ⟨?_, h3⟩
    have := mem_all r (by omega)
    rw [h1, h2] at this
    exact this
  -- one answer that is safe, with the fewest moves
  have key : ∀ m b, spreadN s f = some (m, b) → b ∈ (allN s.sum s.length).filter (safeN f) → m = movedN s b → (∀ r ∈ (allN s.sum s.length).filter (safeN f), m ≤ movedN s r) → (f = 0 → m = 0 ∧ b = s) → chkS s f ((allN s.sum s.length).filter (safeN f)) = true := by
    intro m b e hb hm hle h00
    generalize (allN s.sum s.length).filter (safeN f) = safe at *
    cases safe with
    | nil => cases hb
    | cons r rs =>
      unfold chkS
      rw [e]
      dsimp only
      have l1 : leastN (movedN s r) (rs.map (movedN s)) = m := by
        obtain ⟨m1, m2⟩ := leastN_spec (rs.map (movedN s)) (movedN s r)
        have e2 : movedN s r :: rs.map (movedN s) = (r :: rs).map (movedN s) := rfl
        rw [e2] at m1 m2
        obtain ⟨q, hq, hq2⟩ := List.mem_map.mp m1
        have := hle q hq
        have := m2 _ (List.mem_map.mpr ⟨b, hb, rfl⟩)
        omega
      rw [l1, ← hm]
      simp only [Bool.and_eq_true]
      refine ⟨⟨⟨List.any_eq_true.mpr ⟨b, hb, eqL_self b⟩, beq_self m⟩, beq_self m⟩, ?_⟩
      by_cases hf : f = 0
      · obtain ⟨x, y⟩ := h00 hf
        subst hf x y
        simp [eqL_self]
      · have q : Nat.beq f 0 = false := by
          cases f with
          | zero => exact absurd rfl hf
          | succ n => rfl
        rw [q]; rfl
  by_cases hf : f = 0
  · subst hf
    have e : spreadN s 0 = some (0, s) := by unfold spreadN; rw [if_pos rfl]
    refine key 0 s e (hmem s rfl rfl ?_) (moved_self s).symm (fun r _ => Nat.zero_le _) (fun _ => ⟨rfl, rfl⟩)
    exact (safe_iff h0 (Nat.zero_le _)).mpr (by simp)
  · have h1 : 0 < f := by omega
    by_cases hlh : lowN s f ≤ highN s f
    · have e : spreadN s f = some (movesN s f (bestN s f), passedN (bestN s f) s (movesN s f (bestN s f)) (movesN s f (bestN s f))) := by
        unfold spreadN
        rw [if_neg hf, if_neg (by omega)]
      obtain ⟨r1, r2, r3, r4⟩ := spread_right h0 h1 h2 hlh
      have r5 := top_le (passedN (bestN s f) s (movesN s f (bestN s f)) (movesN s f (bestN s f))) f (bestN s f) (by omega)
      refine key _ _ e (hmem _ r1 r2 ?_) r3.symm (fun r hr => ?_) (fun q => absurd q hf)
      · rw [safe_iff (by omega) (by omega)]
        have hmost : mostN (passedN (bestN s f) s (movesN s f (bestN s f)) (movesN s f (bestN s f))) = mostN s := by unfold mostN; rw [r2]
        rw [hmost]
        have e3 : ((isN false (passedN (bestN s f) s (movesN s f (bestN s f)) (movesN s f (bestN s f)))).drop ((passedN (bestN s f) s (movesN s f (bestN s f)) (movesN s f (bestN s f))).length - f)).sum = ((isN true (passedN (bestN s f) s (movesN s f (bestN s f)) (movesN s f (bestN s f)))).take f).sum := by
          generalize passedN (bestN s f) s (movesN s f (bestN s f)) (movesN s f (bestN s f)) = r at r1 ⊢
          rw [rev_sort, List.drop_reverse, List.sum_reverse, isN_len]
          congr 2
          omega
        omega
      · obtain ⟨hr1, hr2⟩ := List.mem_filter.mp hr
        obtain ⟨a1, a2⟩ := hall r hr1
        exact (safe_least h0 h1 h2 a2 a1 hr2).2
    · have e : spreadN s f = none := by
        unfold spreadN
        rw [if_neg hf, if_pos (by omega)]
      have hnil : (allN s.sum s.length).filter (safeN f) = [] := by
        rw [List.filter_eq_nil_iff]
        intro r hr hs
        obtain ⟨a1, a2⟩ := hall r hr
        exact hlh (safe_least h0 h1 h2 a2 a1 hs).1
      rw [hnil]
      unfold chkS
      rw [e]
      rfl
end K60
set_option maxRecDepth 100000
set_option maxHeartbeats 4000000
namespace K60
open Mo L2 PySem Pm
def nnD : D → Bool
  | .int i => decide (0 ≤ i)
  | _ => false
def flatD : D → Bool
  | .non => true
  | .bl _ => true
  | .int _ => true
  | .str _ => true
  | .tup _ => true
  | .lst _ => true
  | _ => false
theorem from0 (d : D) (h : flatD d = true) (S : Store) : m_p_is_from [d, .int 0] S = .ok (.bl (nnD d)) S := by
  have kn : tyKnown d S = true := by cases d <;> first | rfl | cases h
  have i1 := hIsi_of d "int" S (by simp) kn
  have i2 := hIsi_of d "bool" S (by simp) kn
  unfold m_p_is_from b_p_is_from
  cases d with
  | raw x => cases h
  | scr x => cases h
  | loc n => cases h
  | non => simp [mDef_eq, nnD, i1, i2, isTy]
  | bl b => simp [mDef_eq, nnD, i1, i2, isTy]
  | int i => simp [mDef_eq, nnD, i1, i2, isTy]
  | str x => simp [mDef_eq, nnD, i1, i2, isTy]
  | tup l => simp [mDef_eq, nnD, i1, i2, isTy]
  | lst l => simp [mDef_eq, nnD, i1, i2, isTy]
def lenD (n : Int) : D → Bool
  | .tup l => decide ((l.length : Int) = n)
  | _ => false
/-- what the law hands in -/
def thingD (S : Store) : D → Prop
  | .loc k => S[k]? = some (.dK [])
  | d => flatD d = true
theorem parts0 (d : D) (S : Store) (h : thingD S d) (n : Int) : m_p_has_parts [d, .int n] S = .ok (.bl (lenD n d)) S := by
  have kn : tyKnown d S = true := by
    cases d with
    | loc k => simp only [thingD] at h; simp [tyKnown, h]
    | raw x => cases h
    | scr x => cases h
    | _ => rfl
  have i1 := hIsi_of d "tuple" S (by simp) kn
  unfold m_p_has_parts b_p_has_parts
  cases d with
  | raw x => cases h
  | scr x => cases h
  | tup l => simp [mDef_eq, lenD, i1, isTy, Bool.beq_eq_decide_eq]
  | loc k => simp [mDef_eq, lenD, i1, isTy]
  | non => simp [mDef_eq, lenD, i1, isTy]
  | bl b => simp [mDef_eq, lenD, i1, isTy]
  | int i => simp [mDef_eq, lenD, i1, isTy]
  | str x => simp [mDef_eq, lenD, i1, isTy]
  | lst l => simp [mDef_eq, lenD, i1, isTy]
theorem bears_ok (r : List Nat) (f : Nat) (h : 0 < r.sum) (S : Store) : m_p_bears [dT r, .int (f : Int)] S = .ok (.bl (decide (((isN true r).take f).sum ≤ mostN r))) S := by
  have e := most_ok r h S
  have g : ∀ (x y : Nat) S, gLe (.int (x : Int)) (.int (y : Int)) S = .ok (.bl (decide (x ≤ y))) S := fun x y S => by simp [gLe, Int.ofNat_le]
  unfold m_p_bears b_p_bears
  simp only [bind_ok_eq, bind_bad_eq, mVar_eq, mC_eq, m2_eq, mNil_eq, mPass_eq, mSeq_eq, mSet_eq, mRet_eq, mDrop_eq, mIf_eq, mB_eq, isB_eq, mAndT_eq, mOrT_eq, mNotT_eq, mAnd_eq, mOr_eq, mNot_eq, mIfE_eq, mChain_eq, aNil_eq, aCons_eq, mTup_eq, mDisp_eq, mLst_eq, mLoc_eq, mOwnL_eq, mCall_eq, mCallK_eq, mAsg_eq, mFor_eq, iSeq_eq, iSeqD_lst, iSeqD_tup, iLst_eq, seqD_lst, iLoc_eq, locD_eq, iScr_eq, scrD_eq, iEnumM_eq, mLc_eq, mYes_eq, mQ_eq, mQL_eq, mA_eq, mB1_eq, hLen_eq, hTup_eq, hList_eq, hAbs_eq, hInt_eq, hIntB_eq, gNeg_eq, gIx_tup, gIx_lst, gIx_scr, gIx_loc, mSetC_eq, putC_eq, mApp_eq, mAppC_eq, qOwn_eq, gLen_tup, gLen_lst, gLen_scr, mDNewK_eq, mDGet2_eq, mDPut_eq, mDSet_eq, dictAt_eq, dictR_eq, keyD_int, keyD_str, mPar_eq, sNil_eq, sVal_eq, sOwnL_eq, setSl_nil, setSl_cons, setD_nil, setD_cons, pat_nm, pat_tp, pats_nil, pats_cons, wipeM_nil, wipeM_cons, forL_nil, lcL_nil, n2_eq, atI0, atI1, atI2, gNe_strs, gEq_strs, gNe_ints, gEq_ints, sz_1, sz_2, sz_3, sz_4, sz_5, sz_6, sz_7, sz_8, sz_9, sz_10, sz_11, sz_12, sz_13, sz_14, sz_15, sz_16, sz_17, sz_18, sz_19, sz_20, mLock_eq, nLock_eq, dictVar_eq, iKeysF_eq, keyV_inl, mRest_eq, restAt_eq, mExt_eq, iTup_eq, tupD_tup, mRetO_eq, gIsB_eq, gNotB_eq, gIsN_non, gIsN_int, gIsN_bl, gIsN_str, gIsN_tup, gIsN_lst, gIsN_loc, gNotN_non, gNotN_int, gNotN_bl, gNotN_str, gNotN_tup, gNotN_lst, gNotN_loc, mAsg2_eq, mAug_eq, hSortedR_eq, mV_eq, mVL_eq, anyD_lst, anyD_tup, anyD_scr, anyD_loc, mIxO_eq, mSetO_eq, oNone_eq, oSome_eq, mSlT_eq, mSlQ_eq, mTruQ_eq, mNNew_eq, dictT_eq, mNGet1_eq, mNGet2_eq, gNGet_eq, gNIn_eq, putT_eq, setT_eq, mNPut_eq, mNSet_eq, mDGet1_eq, aStar_eq, mDCopy_eq, gDIn_eq, mIns_eq, mRevQ_eq, mKeysL_eq, mItemsL_eq, mDPop_eq, mBad_eq, mAsgS_eq, mAsgSS_eq, hStrI_eq, gReprA_loc, gReprA_tup, gReprA_lst, gReprA_non, gReprA_bl, gReprA_int, gReprA_str, mRevT_eq, Nat.zero_le, Nat.zero_add, Nat.reduceAdd, and_self, mDef_eq, List.getElem?_cons_zero, List.getElem?_cons_succ, List.set, List.length_cons, List.length_nil, List.map_cons, List.map_nil, List.replicate, List.cons_append, List.nil_append, List.append_nil, if_true, if_false, ite_true, ite_false, Bool.false_eq_true, Bool.true_eq_false, Bool.not_true, Bool.not_false, List.zip_cons_cons, List.zip_nil_left, any_dT, sort_dL, mSlQ, oNone, oSome, cut_dL, sum_dL, e, g]
/-- all of them numbers, none below nought: a row -/
theorem row_of : ∀ l : List D, l.all nnD = true → ∃ r : List Nat, l = dL r
  | [], _ => ⟨[], rfl⟩
  | d :: l, h => by
    rw [List.all_cons, Bool.and_eq_true] at h
    obtain ⟨r, e⟩ := row_of l h.2
    cases d with
    | int i =>
      have h1 : 0 ≤ i := of_decide_eq_true h.1
      refine ⟨i.toNat :: r, ?_⟩
      show D.int i :: l = D.int ((i.toNat : Nat) : Int) :: dL r
      rw [Int.toNat_of_nonneg h1, e]
    | _ => cases h.1
theorem all_nn : ∀ (l : List D) (S : Store), hAll (l.map fun d => D.bl (nnD d)) S = .ok (.bl (l.all nnD)) S := fun l S => by
  have e : (l.map fun d => D.bl (nnD d)) = (l.map nnD).map .bl := by rw [List.map_map]; rfl
  rw [e, hAll_bls, List.all_map]; rfl
theorem nums_inj {r q : List Nat} (h : dL r = dL q) : r = q := (List.map_inj_right fun a b h => Int.ofNat.inj (D.int.inj h)).mp h
def goodN (s : List Nat) (f m : Nat) (r : List Nat) : Bool := decide (r.length = s.length) && (decide (r.sum = s.sum) && (decide (((isN true r).take f).sum ≤ mostN r) && decide (movedN s r = m)))
/-- a thing that is right -/
def IsRight (s : List Nat) (f : Nat) (t : D) : Prop := match spreadN s f with
  | none => t = .non
  | some (m, _) => ∃ r, t = .tup [.int (m : Int), dT r] ∧ goodN s f m r = true
/-- what the law hands in, in depth -/
def deepD (S : Store) (t : D) : Prop := thingD S t ∧ ∀ x y, t = .tup [x, y] → flatD x = true ∧ flatD y = true ∧ ∀ l, y = .tup l → ∀ d ∈ l, flatD d = true
theorem shows_ok (s : List Nat) (f : Nat) (h : 0 < s.sum) (h2 : s.sum < 2 ^ 60) (hl : s.length ≤ 100) (hf2 : f < s.length) (t : D) (S : Store) (ht : deepD S t) :
    ∃ b, m_p_shows_spread [dT s, .int (f : Int), t] S = .ok (.bl b) S ∧ (b = true ↔ IsRight s f t) := by
  have e1 := spread_ok s f h h2 hl hf2 S
  have hp := parts0 t S ht.1
  unfold m_p_shows_spread b_p_shows_spread IsRight
  cases q : spreadN s f with
  | none =>
    rw [q] at e1
    have e1' : m_p_spread [dT s, .int (f : Int)] S = .ok .non S := e1
    cases t with
    | raw x => cases ht.1
    | scr x => cases ht.1
    | loc k => exact ⟨_, by simp only [bind_ok_eq, bind_bad_eq, mVar_eq, mC_eq, m2_eq, mNil_eq, mPass_eq, mSeq_eq, mSet_eq, mRet_eq, mDrop_eq, mIf_eq, mB_eq, isB_eq, mAndT_eq, mOrT_eq, mNotT_eq, mAnd_eq, mOr_eq, mNot_eq, mIfE_eq, mChain_eq, aNil_eq, aCons_eq, mTup_eq, mDisp_eq, mLst_eq, mLoc_eq, mOwnL_eq, mCall_eq, mCallK_eq, mAsg_eq, mFor_eq, iSeq_eq, iSeqD_lst, iSeqD_tup, iLst_eq, seqD_lst, iLoc_eq, locD_eq, iScr_eq, scrD_eq, iRange1_eq, iRange2_eq, iEnumM_eq, mLc_eq, mYes_eq, mQ_eq, mQL_eq, mA_eq, mB1_eq, hLen_eq, hTup_eq, hList_eq, hAbs_eq, hInt_eq, hIntB_eq, hMax2_eq, hMin2_eq, gNeg_eq, gI_eq, gI0_eq, gIx_tup, gIx_lst, gIx_scr, mSetC_eq, mApp_eq, mAppC_eq, qOwn_eq, gLen_tup, gLen_lst, gLen_scr, mDNewK_eq, mDGet2_eq, mDPut_eq, mDSet_eq, dictAt_eq, dictR_eq, keyD_int, keyD_str, mPar_eq, sNil_eq, sVal_eq, sOwnL_eq, setSl_nil, setSl_cons, setD_nil, setD_cons, pat_nm, pat_tp, pats_nil, pats_cons, wipeM_nil, wipeM_cons, forL_nil, lcL_nil, n2_eq, atI0, atI1, atI2, gNe_strs, gEq_strs, gNe_ints, gEq_ints, sz_1, sz_2, sz_3, sz_4, sz_5, sz_6, sz_7, sz_8, sz_9, sz_10, sz_11, sz_12, sz_13, sz_14, sz_15, sz_16, sz_17, sz_18, sz_19, sz_20, mLock_eq, nLock_eq, dictVar_eq, iKeysF_eq, keyV_inl, mRest_eq, restAt_eq, mExt_eq, iTup_eq, tupD_tup, mRetO_eq, gIsB_eq, gNotB_eq, gIsN_non, gIsN_int, gIsN_bl, gIsN_str, gIsN_tup, gIsN_lst, gIsN_loc, gNotN_non, gNotN_int, gNotN_bl, gNotN_str, gNotN_tup, gNotN_lst, gNotN_loc, iZip_eq, mAsg2_eq, mAug_eq, hSortedR_eq, mV_eq, mVL_eq, anyD_lst, anyD_tup, anyD_scr, anyD_loc, mIxO_eq, mSetO_eq, oNone_eq, oSome_eq, mSlT_eq, mSlQ_eq, mTruQ_eq, iRg1_eq, iRg2_eq, mNNew_eq, dictT_eq, mNGet1_eq, mNGet2_eq, gNGet_eq, gNIn_eq, putT_eq, setT_eq, mNPut_eq, mNSet_eq, mDGet1_eq, aStar_eq, mDCopy_eq, gDIn_eq, mIns_eq, mRevQ_eq, mKeysL_eq, mItemsL_eq, mDPop_eq, mBad_eq, mAsgS_eq, mAsgSS_eq, hStrI_eq, gReprA_loc, gReprA_tup, gReprA_lst, gReprA_non, gReprA_bl, gReprA_int, gReprA_str, mRevT_eq, Nat.zero_le, Nat.zero_add, Nat.reduceAdd, and_self, mDef_eq, List.getElem?_cons_zero, List.getElem?_cons_succ, List.set, List.length_cons, List.length_nil, List.map_cons, List.map_nil, List.replicate, List.cons_append, List.nil_append, List.append_nil, if_true, if_false, ite_true, ite_false, Bool.false_eq_true, Bool.true_eq_false, Bool.not_true, Bool.not_false, List.zip_cons_cons, List.zip_nil_left, e1', decide_true]; rfl, by simp⟩
    | non => exact ⟨_, by simp only [bind_ok_eq, bind_bad_eq, mVar_eq, mC_eq, m2_eq, mNil_eq, mPass_eq, mSeq_eq, mSet_eq, mRet_eq, mDrop_eq, mIf_eq, mB_eq, isB_eq, mAndT_eq, mOrT_eq, mNotT_eq, mAnd_eq, mOr_eq, mNot_eq, mIfE_eq, mChain_eq, aNil_eq, aCons_eq, mTup_eq, mDisp_eq, mLst_eq, mLoc_eq, mOwnL_eq, mCall_eq, mCallK_eq, mAsg_eq, mFor_eq, iSeq_eq, iSeqD_lst, iSeqD_tup, iLst_eq, seqD_lst, iLoc_eq, locD_eq, iScr_eq, scrD_eq, iRange1_eq, iRange2_eq, iEnumM_eq, mLc_eq, mYes_eq, mQ_eq, mQL_eq, mA_eq, mB1_eq, hLen_eq, hTup_eq, hList_eq, hAbs_eq, hInt_eq, hIntB_eq, hMax2_eq, hMin2_eq, gNeg_eq, gI_eq, gI0_eq, gIx_tup, gIx_lst, gIx_scr, mSetC_eq, mApp_eq, mAppC_eq, qOwn_eq, gLen_tup, gLen_lst, gLen_scr, mDNewK_eq, mDGet2_eq, mDPut_eq, mDSet_eq, dictAt_eq, dictR_eq, keyD_int, keyD_str, mPar_eq, sNil_eq, sVal_eq, sOwnL_eq, setSl_nil, setSl_cons, setD_nil, setD_cons, pat_nm, pat_tp, pats_nil, pats_cons, wipeM_nil, wipeM_cons, forL_nil, lcL_nil, n2_eq, atI0, atI1, atI2, gNe_strs, gEq_strs, gNe_ints, gEq_ints, sz_1, sz_2, sz_3, sz_4, sz_5, sz_6, sz_7, sz_8, sz_9, sz_10, sz_11, sz_12, sz_13, sz_14, sz_15, sz_16, sz_17, sz_18, sz_19, sz_20, mLock_eq, nLock_eq, dictVar_eq, iKeysF_eq, keyV_inl, mRest_eq, restAt_eq, mExt_eq, iTup_eq, tupD_tup, mRetO_eq, gIsB_eq, gNotB_eq, gIsN_non, gIsN_int, gIsN_bl, gIsN_str, gIsN_tup, gIsN_lst, gIsN_loc, gNotN_non, gNotN_int, gNotN_bl, gNotN_str, gNotN_tup, gNotN_lst, gNotN_loc, iZip_eq, mAsg2_eq, mAug_eq, hSortedR_eq, mV_eq, mVL_eq, anyD_lst, anyD_tup, anyD_scr, anyD_loc, mIxO_eq, mSetO_eq, oNone_eq, oSome_eq, mSlT_eq, mSlQ_eq, mTruQ_eq, iRg1_eq, iRg2_eq, mNNew_eq, dictT_eq, mNGet1_eq, mNGet2_eq, gNGet_eq, gNIn_eq, putT_eq, setT_eq, mNPut_eq, mNSet_eq, mDGet1_eq, aStar_eq, mDCopy_eq, gDIn_eq, mIns_eq, mRevQ_eq, mKeysL_eq, mItemsL_eq, mDPop_eq, mBad_eq, mAsgS_eq, mAsgSS_eq, hStrI_eq, gReprA_loc, gReprA_tup, gReprA_lst, gReprA_non, gReprA_bl, gReprA_int, gReprA_str, mRevT_eq, Nat.zero_le, Nat.zero_add, Nat.reduceAdd, and_self, mDef_eq, List.getElem?_cons_zero, List.getElem?_cons_succ, List.set, List.length_cons, List.length_nil, List.map_cons, List.map_nil, List.replicate, List.cons_append, List.nil_append, List.append_nil, if_true, if_false, ite_true, ite_false, Bool.false_eq_true, Bool.true_eq_false, Bool.not_true, Bool.not_false, List.zip_cons_cons, List.zip_nil_left, e1', decide_true]; rfl, by simp⟩
    | bl k => exact ⟨_, by simp only [bind_ok_eq, bind_bad_eq, mVar_eq, mC_eq, m2_eq, mNil_eq, mPass_eq, mSeq_eq, mSet_eq, mRet_eq, mDrop_eq, mIf_eq, mB_eq, isB_eq, mAndT_eq, mOrT_eq, mNotT_eq, mAnd_eq, mOr_eq, mNot_eq, mIfE_eq, mChain_eq, aNil_eq, aCons_eq, mTup_eq, mDisp_eq, mLst_eq, mLoc_eq, mOwnL_eq, mCall_eq, mCallK_eq, mAsg_eq, mFor_eq, iSeq_eq, iSeqD_lst, iSeqD_tup, iLst_eq, seqD_lst, iLoc_eq, locD_eq, iScr_eq, scrD_eq, iRange1_eq, iRange2_eq, iEnumM_eq, mLc_eq, mYes_eq, mQ_eq, mQL_eq, mA_eq, mB1_eq, hLen_eq, hTup_eq, hList_eq, hAbs_eq, hInt_eq, hIntB_eq, hMax2_eq, hMin2_eq, gNeg_eq, gI_eq, gI0_eq, gIx_tup, gIx_lst, gIx_scr, mSetC_eq, mApp_eq, mAppC_eq, qOwn_eq, gLen_tup, gLen_lst, gLen_scr, mDNewK_eq, mDGet2_eq, mDPut_eq, mDSet_eq, dictAt_eq, dictR_eq, keyD_int, keyD_str, mPar_eq, sNil_eq, sVal_eq, sOwnL_eq, setSl_nil, setSl_cons, setD_nil, setD_cons, pat_nm, pat_tp, pats_nil, pats_cons, wipeM_nil, wipeM_cons, forL_nil, lcL_nil, n2_eq, atI0, atI1, atI2, gNe_strs, gEq_strs, gNe_ints, gEq_ints, sz_1, sz_2, sz_3, sz_4, sz_5, sz_6, sz_7, sz_8, sz_9, sz_10, sz_11, sz_12, sz_13, sz_14, sz_15, sz_16, sz_17, sz_18, sz_19, sz_20, mLock_eq, nLock_eq, dictVar_eq, iKeysF_eq, keyV_inl, mRest_eq, restAt_eq, mExt_eq, iTup_eq, tupD_tup, mRetO_eq, gIsB_eq, gNotB_eq, gIsN_non, gIsN_int, gIsN_bl, gIsN_str, gIsN_tup, gIsN_lst, gIsN_loc, gNotN_non, gNotN_int, gNotN_bl, gNotN_str, gNotN_tup, gNotN_lst, gNotN_loc, iZip_eq, mAsg2_eq, mAug_eq, hSortedR_eq, mV_eq, mVL_eq, anyD_lst, anyD_tup, anyD_scr, anyD_loc, mIxO_eq, mSetO_eq, oNone_eq, oSome_eq, mSlT_eq, mSlQ_eq, mTruQ_eq, iRg1_eq, iRg2_eq, mNNew_eq, dictT_eq, mNGet1_eq, mNGet2_eq, gNGet_eq, gNIn_eq, putT_eq, setT_eq, mNPut_eq, mNSet_eq, mDGet1_eq, aStar_eq, mDCopy_eq, gDIn_eq, mIns_eq, mRevQ_eq, mKeysL_eq, mItemsL_eq, mDPop_eq, mBad_eq, mAsgS_eq, mAsgSS_eq, hStrI_eq, gReprA_loc, gReprA_tup, gReprA_lst, gReprA_non, gReprA_bl, gReprA_int, gReprA_str, mRevT_eq, Nat.zero_le, Nat.zero_add, Nat.reduceAdd, and_self, mDef_eq, List.getElem?_cons_zero, List.getElem?_cons_succ, List.set, List.length_cons, List.length_nil, List.map_cons, List.map_nil, List.replicate, List.cons_append, List.nil_append, List.append_nil, if_true, if_false, ite_true, ite_false, Bool.false_eq_true, Bool.true_eq_false, Bool.not_true, Bool.not_false, List.zip_cons_cons, List.zip_nil_left, e1', decide_true]; rfl, by simp⟩
    | int k => exact ⟨_, by simp only [bind_ok_eq, bind_bad_eq, mVar_eq, mC_eq, m2_eq, mNil_eq, mPass_eq, mSeq_eq, mSet_eq, mRet_eq, mDrop_eq, mIf_eq, mB_eq, isB_eq, mAndT_eq, mOrT_eq, mNotT_eq, mAnd_eq, mOr_eq, mNot_eq, mIfE_eq, mChain_eq, aNil_eq, aCons_eq, mTup_eq, mDisp_eq, mLst_eq, mLoc_eq, mOwnL_eq, mCall_eq, mCallK_eq, mAsg_eq, mFor_eq, iSeq_eq, iSeqD_lst, iSeqD_tup, iLst_eq, seqD_lst, iLoc_eq, locD_eq, iScr_eq, scrD_eq, iRange1_eq, iRange2_eq, iEnumM_eq, mLc_eq, mYes_eq, mQ_eq, mQL_eq, mA_eq, mB1_eq, hLen_eq, hTup_eq, hList_eq, hAbs_eq, hInt_eq, hIntB_eq, hMax2_eq, hMin2_eq, gNeg_eq, gI_eq, gI0_eq, gIx_tup, gIx_lst, gIx_scr, mSetC_eq, mApp_eq, mAppC_eq, qOwn_eq, gLen_tup, gLen_lst, gLen_scr, mDNewK_eq, mDGet2_eq, mDPut_eq, mDSet_eq, dictAt_eq, dictR_eq, keyD_int, keyD_str, mPar_eq, sNil_eq, sVal_eq, sOwnL_eq, setSl_nil, setSl_cons, setD_nil, setD_cons, pat_nm, pat_tp, pats_nil, pats_cons, wipeM_nil, wipeM_cons, forL_nil, lcL_nil, n2_eq, atI0, atI1, atI2, gNe_strs, gEq_strs, gNe_ints, gEq_ints, sz_1, sz_2, sz_3, sz_4, sz_5, sz_6, sz_7, sz_8, sz_9, sz_10, sz_11, sz_12, sz_13, sz_14, sz_15, sz_16, sz_17, sz_18, sz_19, sz_20, mLock_eq, nLock_eq, dictVar_eq, iKeysF_eq, keyV_inl, mRest_eq, restAt_eq, mExt_eq, iTup_eq, tupD_tup, mRetO_eq, gIsB_eq, gNotB_eq, gIsN_non, gIsN_int, gIsN_bl, gIsN_str, gIsN_tup, gIsN_lst, gIsN_loc, gNotN_non, gNotN_int, gNotN_bl, gNotN_str, gNotN_tup, gNotN_lst, gNotN_loc, iZip_eq, mAsg2_eq, mAug_eq, hSortedR_eq, mV_eq, mVL_eq, anyD_lst, anyD_tup, anyD_scr, anyD_loc, mIxO_eq, mSetO_eq, oNone_eq, oSome_eq, mSlT_eq, mSlQ_eq, mTruQ_eq, iRg1_eq, iRg2_eq, mNNew_eq, dictT_eq, mNGet1_eq, mNGet2_eq, gNGet_eq, gNIn_eq, putT_eq, setT_eq, mNPut_eq, mNSet_eq, mDGet1_eq, aStar_eq, mDCopy_eq, gDIn_eq, mIns_eq, mRevQ_eq, mKeysL_eq, mItemsL_eq, mDPop_eq, mBad_eq, mAsgS_eq, mAsgSS_eq, hStrI_eq, gReprA_loc, gReprA_tup, gReprA_lst, gReprA_non, gReprA_bl, gReprA_int, gReprA_str, mRevT_eq, Nat.zero_le, Nat.zero_add, Nat.reduceAdd, and_self, mDef_eq, List.getElem?_cons_zero, List.getElem?_cons_succ, List.set, List.length_cons, List.length_nil, List.map_cons, List.map_nil, List.replicate, List.cons_append, List.nil_append, List.append_nil, if_true, if_false, ite_true, ite_false, Bool.false_eq_true, Bool.true_eq_false, Bool.not_true, Bool.not_false, List.zip_cons_cons, List.zip_nil_left, e1', decide_true]; rfl, by simp⟩
    | str k => exact ⟨_, by simp only [bind_ok_eq, bind_bad_eq, mVar_eq, mC_eq, m2_eq, mNil_eq, mPass_eq, mSeq_eq, mSet_eq, mRet_eq, mDrop_eq, mIf_eq, mB_eq, isB_eq, mAndT_eq, mOrT_eq, mNotT_eq, mAnd_eq, mOr_eq, mNot_eq, mIfE_eq, mChain_eq, aNil_eq, aCons_eq, mTup_eq, mDisp_eq, mLst_eq, mLoc_eq, mOwnL_eq, mCall_eq, mCallK_eq, mAsg_eq, mFor_eq, iSeq_eq, iSeqD_lst, iSeqD_tup, iLst_eq, seqD_lst, iLoc_eq, locD_eq, iScr_eq, scrD_eq, iRange1_eq, iRange2_eq, iEnumM_eq, mLc_eq, mYes_eq, mQ_eq, mQL_eq, mA_eq, mB1_eq, hLen_eq, hTup_eq, hList_eq, hAbs_eq, hInt_eq, hIntB_eq, hMax2_eq, hMin2_eq, gNeg_eq, gI_eq, gI0_eq, gIx_tup, gIx_lst, gIx_scr, mSetC_eq, mApp_eq, mAppC_eq, qOwn_eq, gLen_tup, gLen_lst, gLen_scr, mDNewK_eq, mDGet2_eq, mDPut_eq, mDSet_eq, dictAt_eq, dictR_eq, keyD_int, keyD_str, mPar_eq, sNil_eq, sVal_eq, sOwnL_eq, setSl_nil, setSl_cons, setD_nil, setD_cons, pat_nm, pat_tp, pats_nil, pats_cons, wipeM_nil, wipeM_cons, forL_nil, lcL_nil, n2_eq, atI0, atI1, atI2, gNe_strs, gEq_strs, gNe_ints, gEq_ints, sz_1, sz_2, sz_3, sz_4, sz_5, sz_6, sz_7, sz_8, sz_9, sz_10, sz_11, sz_12, sz_13, sz_14, sz_15, sz_16, sz_17, sz_18, sz_19, sz_20, mLock_eq, nLock_eq, dictVar_eq, iKeysF_eq, keyV_inl, mRest_eq, restAt_eq, mExt_eq, iTup_eq, tupD_tup, mRetO_eq, gIsB_eq, gNotB_eq, gIsN_non, gIsN_int, gIsN_bl, gIsN_str, gIsN_tup, gIsN_lst, gIsN_loc, gNotN_non, gNotN_int, gNotN_bl, gNotN_str, gNotN_tup, gNotN_lst, gNotN_loc, iZip_eq, mAsg2_eq, mAug_eq, hSortedR_eq, mV_eq, mVL_eq, anyD_lst, anyD_tup, anyD_scr, anyD_loc, mIxO_eq, mSetO_eq, oNone_eq, oSome_eq, mSlT_eq, mSlQ_eq, mTruQ_eq, iRg1_eq, iRg2_eq, mNNew_eq, dictT_eq, mNGet1_eq, mNGet2_eq, gNGet_eq, gNIn_eq, putT_eq, setT_eq, mNPut_eq, mNSet_eq, mDGet1_eq, aStar_eq, mDCopy_eq, gDIn_eq, mIns_eq, mRevQ_eq, mKeysL_eq, mItemsL_eq, mDPop_eq, mBad_eq, mAsgS_eq, mAsgSS_eq, hStrI_eq, gReprA_loc, gReprA_tup, gReprA_lst, gReprA_non, gReprA_bl, gReprA_int, gReprA_str, mRevT_eq, Nat.zero_le, Nat.zero_add, Nat.reduceAdd, and_self, mDef_eq, List.getElem?_cons_zero, List.getElem?_cons_succ, List.set, List.length_cons, List.length_nil, List.map_cons, List.map_nil, List.replicate, List.cons_append, List.nil_append, List.append_nil, if_true, if_false, ite_true, ite_false, Bool.false_eq_true, Bool.true_eq_false, Bool.not_true, Bool.not_false, List.zip_cons_cons, List.zip_nil_left, e1', decide_true]; rfl, by simp⟩
    | tup k => exact ⟨_, by simp only [bind_ok_eq, bind_bad_eq, mVar_eq, mC_eq, m2_eq, mNil_eq, mPass_eq, mSeq_eq, mSet_eq, mRet_eq, mDrop_eq, mIf_eq, mB_eq, isB_eq, mAndT_eq, mOrT_eq, mNotT_eq, mAnd_eq, mOr_eq, mNot_eq, mIfE_eq, mChain_eq, aNil_eq, aCons_eq, mTup_eq, mDisp_eq, mLst_eq, mLoc_eq, mOwnL_eq, mCall_eq, mCallK_eq, mAsg_eq, mFor_eq, iSeq_eq, iSeqD_lst, iSeqD_tup, iLst_eq, seqD_lst, iLoc_eq, locD_eq, iScr_eq, scrD_eq, iRange1_eq, iRange2_eq, iEnumM_eq, mLc_eq, mYes_eq, mQ_eq, mQL_eq, mA_eq, mB1_eq, hLen_eq, hTup_eq, hList_eq, hAbs_eq, hInt_eq, hIntB_eq, hMax2_eq, hMin2_eq, gNeg_eq, gI_eq, gI0_eq, gIx_tup, gIx_lst, gIx_scr, mSetC_eq, mApp_eq, mAppC_eq, qOwn_eq, gLen_tup, gLen_lst, gLen_scr, mDNewK_eq, mDGet2_eq, mDPut_eq, mDSet_eq, dictAt_eq, dictR_eq, keyD_int, keyD_str, mPar_eq, sNil_eq, sVal_eq, sOwnL_eq, setSl_nil, setSl_cons, setD_nil, setD_cons, pat_nm, pat_tp, pats_nil, pats_cons, wipeM_nil, wipeM_cons, forL_nil, lcL_nil, n2_eq, atI0, atI1, atI2, gNe_strs, gEq_strs, gNe_ints, gEq_ints, sz_1, sz_2, sz_3, sz_4, sz_5, sz_6, sz_7, sz_8, sz_9, sz_10, sz_11, sz_12, sz_13, sz_14, sz_15, sz_16, sz_17, sz_18, sz_19, sz_20, mLock_eq, nLock_eq, dictVar_eq, iKeysF_eq, keyV_inl, mRest_eq, restAt_eq, mExt_eq, iTup_eq, tupD_tup, mRetO_eq, gIsB_eq, gNotB_eq, gIsN_non, gIsN_int, gIsN_bl, gIsN_str, gIsN_tup, gIsN_lst, gIsN_loc, gNotN_non, gNotN_int, gNotN_bl, gNotN_str, gNotN_tup, gNotN_lst, gNotN_loc, iZip_eq, mAsg2_eq, mAug_eq, hSortedR_eq, mV_eq, mVL_eq, anyD_lst, anyD_tup, anyD_scr, anyD_loc, mIxO_eq, mSetO_eq, oNone_eq, oSome_eq, mSlT_eq, mSlQ_eq, mTruQ_eq, iRg1_eq, iRg2_eq, mNNew_eq, dictT_eq, mNGet1_eq, mNGet2_eq, gNGet_eq, gNIn_eq, putT_eq, setT_eq, mNPut_eq, mNSet_eq, mDGet1_eq, aStar_eq, mDCopy_eq, gDIn_eq, mIns_eq, mRevQ_eq, mKeysL_eq, mItemsL_eq, mDPop_eq, mBad_eq, mAsgS_eq, mAsgSS_eq, hStrI_eq, gReprA_loc, gReprA_tup, gReprA_lst, gReprA_non, gReprA_bl, gReprA_int, gReprA_str, mRevT_eq, Nat.zero_le, Nat.zero_add, Nat.reduceAdd, and_self, mDef_eq, List.getElem?_cons_zero, List.getElem?_cons_succ, List.set, List.length_cons, List.length_nil, List.map_cons, List.map_nil, List.replicate, List.cons_append, List.nil_append, List.append_nil, if_true, if_false, ite_true, ite_false, Bool.false_eq_true, Bool.true_eq_false, Bool.not_true, Bool.not_false, List.zip_cons_cons, List.zip_nil_left, e1', decide_true]; rfl, by simp⟩
    | lst k => exact ⟨_, by simp only [bind_ok_eq, bind_bad_eq, mVar_eq, mC_eq, m2_eq, mNil_eq, mPass_eq, mSeq_eq, mSet_eq, mRet_eq, mDrop_eq, mIf_eq, mB_eq, isB_eq, mAndT_eq, mOrT_eq, mNotT_eq, mAnd_eq, mOr_eq, mNot_eq, mIfE_eq, mChain_eq, aNil_eq, aCons_eq, mTup_eq, mDisp_eq, mLst_eq, mLoc_eq, mOwnL_eq, mCall_eq, mCallK_eq, mAsg_eq, mFor_eq, iSeq_eq, iSeqD_lst, iSeqD_tup, iLst_eq, seqD_lst, iLoc_eq, locD_eq, iScr_eq, scrD_eq, iRange1_eq, iRange2_eq, iEnumM_eq, mLc_eq, mYes_eq, mQ_eq, mQL_eq, mA_eq, mB1_eq, hLen_eq, hTup_eq, hList_eq, hAbs_eq, hInt_eq, hIntB_eq, hMax2_eq, hMin2_eq, gNeg_eq, gI_eq, gI0_eq, gIx_tup, gIx_lst, gIx_scr, mSetC_eq, mApp_eq, mAppC_eq, qOwn_eq, gLen_tup, gLen_lst, gLen_scr, mDNewK_eq, mDGet2_eq, mDPut_eq, mDSet_eq, dictAt_eq, dictR_eq, keyD_int, keyD_str, mPar_eq, sNil_eq, sVal_eq, sOwnL_eq, setSl_nil, setSl_cons, setD_nil, setD_cons, pat_nm, pat_tp, pats_nil, pats_cons, wipeM_nil, wipeM_cons, forL_nil, lcL_nil, n2_eq, atI0, atI1, atI2, gNe_strs, gEq_strs, gNe_ints, gEq_ints, sz_1, sz_2, sz_3, sz_4, sz_5, sz_6, sz_7, sz_8, sz_9, sz_10, sz_11, sz_12, sz_13, sz_14, sz_15, sz_16, sz_17, sz_18, sz_19, sz_20, mLock_eq, nLock_eq, dictVar_eq, iKeysF_eq, keyV_inl, mRest_eq, restAt_eq, mExt_eq, iTup_eq, tupD_tup, mRetO_eq, gIsB_eq, gNotB_eq, gIsN_non, gIsN_int, gIsN_bl, gIsN_str, gIsN_tup, gIsN_lst, gIsN_loc, gNotN_non, gNotN_int, gNotN_bl, gNotN_str, gNotN_tup, gNotN_lst, gNotN_loc, iZip_eq, mAsg2_eq, mAug_eq, hSortedR_eq, mV_eq, mVL_eq, anyD_lst, anyD_tup, anyD_scr, anyD_loc, mIxO_eq, mSetO_eq, oNone_eq, oSome_eq, mSlT_eq, mSlQ_eq, mTruQ_eq, iRg1_eq, iRg2_eq, mNNew_eq, dictT_eq, mNGet1_eq, mNGet2_eq, gNGet_eq, gNIn_eq, putT_eq, setT_eq, mNPut_eq, mNSet_eq, mDGet1_eq, aStar_eq, mDCopy_eq, gDIn_eq, mIns_eq, mRevQ_eq, mKeysL_eq, mItemsL_eq, mDPop_eq, mBad_eq, mAsgS_eq, mAsgSS_eq, hStrI_eq, gReprA_loc, gReprA_tup, gReprA_lst, gReprA_non, gReprA_bl, gReprA_int, gReprA_str, mRevT_eq, Nat.zero_le, Nat.zero_add, Nat.reduceAdd, and_self, mDef_eq, List.getElem?_cons_zero, List.getElem?_cons_succ, List.set, List.length_cons, List.length_nil, List.map_cons, List.map_nil, List.replicate, List.cons_append, List.nil_append, List.append_nil, if_true, if_false, ite_true, ite_false, Bool.false_eq_true, Bool.true_eq_false, Bool.not_true, Bool.not_false, List.zip_cons_cons, List.zip_nil_left, e1', decide_true]; rfl, by simp⟩
  | some mb =>
    obtain ⟨m, b⟩ := mb
    rw [q] at e1
    have e1' : m_p_spread [dT s, .int (f : Int)] S = .ok (.tup [.int (m : Int), dT b]) S := e1
    have g0 : gIsN (.tup [.int (m : Int), dT b]) .non S = .ok (.bl false) S := rfl
    have h2p := hp 2
    by_cases c2 : lenD 2 t = true
    · obtain ⟨x, y, rfl⟩ : ∃ x y, t = .tup [x, y] := by
        cases t with
        | tup l =>
          have : (l.length : Int) = 2 := of_decide_eq_true c2
          match l, this with
          | [x, y], _ => exact ⟨x, y, rfl⟩
          | [], h => simp at h
          | [x], h => simp at h
          | x :: y :: z :: l, h => simp at h; omega
        | _ => cases c2
      obtain ⟨fx, fy, deep⟩ := ht.2 x y rfl
      rw [c2] at h2p
      have ex := from0 x fx S
      have i0 : gIx (.tup [x, y]) (.int 0) S = .ok x S := by simp
      have i1 : gIx (.tup [.int (m : Int), dT b]) (.int 0) S = .ok (.int (m : Int)) S := by simp
      by_cases cx : nnD x = true
      · cases x with
        | int i =>
          rw [cx] at ex
          by_cases ci : i = (m : Int)
          · subst ci
            have hpy := parts0 y S (by cases y <;> first | exact fy | cases fy) s.length
            by_cases cl : lenD s.length y = true
            · cases y with
              | tup l =>
                have hlen : l.length = s.length := by have : (l.length : Int) = s.length := of_decide_eq_true cl; omega
                have fl := deep l rfl
                rw [cl] at hpy
                have eall := lcL_map (p := .nm 6) (me := e_p_shows_spread_1) (enc := fun d : D => d) (f := fun d : D => D.bl (nnD d)) (ρ := [some (.val (dT s)), some (.val (.int (f : Int))), some (.val (.tup [.int (m : Int), .tup l])), some (.val (.tup [.int (m : Int), dT b])), some (.val (.int (m : Int))), some (.val (.tup l)), none, none]) (S := S) l (fun d hd => ⟨_, rfl, by
                  have := from0 d (fl d hd) S
                  unfold e_p_shows_spread_1
                  simp [this]⟩)
                rw [List.map_id'] at eall
                have za : l.length ≤ PySem.sizeLine := small_le (by omega)
                have ea := all_nn l S
                by_cases ca : l.all nnD = true
                · rw [ca] at ea
                  obtain ⟨r, rfl⟩ := row_of l ca
                  have es := fun q : List Nat => sum_dL q
                  have hrl : r.length = s.length := by rw [dL_len] at hlen; exact hlen
                  have zr : r.length ≤ PySem.sizeLine := small_le (by omega)
                  have right_of : IsRight s f (.tup [.int (m : Int), .tup (dL r)]) ↔ goodN s f m r = true := by
                    unfold IsRight
                    rw [q]
                    constructor
                    · rintro ⟨r2, e, g⟩
                      injection e with e; injection e with _ e; injection e with e _
                      have : r = r2 := nums_inj (D.tup.inj e)
                      rw [this]; exact g
                    · exact fun g => ⟨r, rfl, g⟩
                  unfold IsRight at right_of
                  rw [q] at right_of
                  rw [right_of]
                  have a1 : ∀ S, anyD (.tup (dL r)) S = .ok (dL r) S := fun _ => rfl
                  by_cases c5 : r.sum = s.sum
                  · have eb := bears_ok r f (by omega) S
                    by_cases c6 : ((isN true r).take f).sum ≤ mostN r
                    · rw [decide_eq_true c6] at eb
                      have em := lcL_map (p := .tp [.nm 7, .nm 6]) (me := e_p_shows_spread_2) (enc := fun p : Nat × Nat => D.tup [.int (p.1 : Int), .int (p.2 : Int)]) (f := fun p : Nat × Nat => D.int ((p.1 - p.2 : Nat) : Int)) (ρ := [some (.val (dT s)), some (.val (.int (f : Int))), some (.val (.tup [.int (m : Int), .tup (dL r)])), some (.val (.tup [.int (m : Int), dT b])), some (.val (.int (m : Int))), some (.val (.tup (dL r))), none, none]) (S := S) (s.zip r) (fun p _ => ⟨_, by simp; rfl, by
                        unfold e_p_shows_spread_2
                        simp only [bind_ok_eq, bind_bad_eq, mVar_eq, mC_eq, m2_eq, mNil_eq, mPass_eq, mSeq_eq, mSet_eq, mRet_eq, mDrop_eq, mIf_eq, mB_eq, isB_eq, mAndT_eq, mOrT_eq, mNotT_eq, mAnd_eq, mOr_eq, mNot_eq, mIfE_eq, mChain_eq, aNil_eq, aCons_eq, mTup_eq, mDisp_eq, mLst_eq, mLoc_eq, mOwnL_eq, mCall_eq, mCallK_eq, mAsg_eq, mFor_eq, iSeq_eq, iSeqD_lst, iSeqD_tup, iLst_eq, seqD_lst, iLoc_eq, locD_eq, iScr_eq, scrD_eq, iRange1_eq, iRange2_eq, iEnumM_eq, mLc_eq, mYes_eq, mQ_eq, mQL_eq, mA_eq, mB1_eq, hLen_eq, hTup_eq, hList_eq, hAbs_eq, hInt_eq, hIntB_eq, gNeg_eq, gI_eq, gI0_eq, gIx_tup, gIx_lst, gIx_scr, gIx_loc, mSetC_eq, putC_eq, mApp_eq, mAppC_eq, qOwn_eq, gLen_tup, gLen_lst, gLen_scr, mDNewK_eq, mDGet2_eq, mDPut_eq, mDSet_eq, dictAt_eq, dictR_eq, keyD_int, keyD_str, mPar_eq, sNil_eq, sVal_eq, sOwnL_eq, setSl_nil, setSl_cons, setD_nil, setD_cons, pat_nm, pat_tp, pats_nil, pats_cons, wipeM_nil, wipeM_cons, forL_nil, lcL_nil, n2_eq, atI0, atI1, atI2, gNe_strs, gEq_strs, gNe_ints, gEq_ints, sz_1, sz_2, sz_3, sz_4, sz_5, sz_6, sz_7, sz_8, sz_9, sz_10, sz_11, sz_12, sz_13, sz_14, sz_15, sz_16, sz_17, sz_18, sz_19, sz_20, mLock_eq, nLock_eq, dictVar_eq, iKeysF_eq, keyV_inl, mRest_eq, restAt_eq, mExt_eq, iTup_eq, tupD_tup, mRetO_eq, gIsB_eq, gNotB_eq, gIsN_non, gIsN_int, gIsN_bl, gIsN_str, gIsN_tup, gIsN_lst, gIsN_loc, gNotN_non, gNotN_int, gNotN_bl, gNotN_str, gNotN_tup, gNotN_lst, gNotN_loc, iZip_eq, mAsg2_eq, mAug_eq, hSortedR_eq, mV_eq, mVL_eq, anyD_lst, anyD_tup, anyD_scr, anyD_loc, mIxO_eq, mSetO_eq, oNone_eq, oSome_eq, mSlT_eq, mSlQ_eq, mTruQ_eq, iRg1_eq, iRg2_eq, mNNew_eq, dictT_eq, mNGet1_eq, mNGet2_eq, gNGet_eq, gNIn_eq, putT_eq, setT_eq, mNPut_eq, mNSet_eq, mDGet1_eq, aStar_eq, mDCopy_eq, gDIn_eq, mIns_eq, mRevQ_eq, mKeysL_eq, mItemsL_eq, mDPop_eq, mBad_eq, mAsgS_eq, mAsgSS_eq, hStrI_eq, gReprA_loc, gReprA_tup, gReprA_lst, gReprA_non, gReprA_bl, gReprA_int, gReprA_str, mRevT_eq, Nat.zero_le, Nat.zero_add, Nat.reduceAdd, and_self, mDef_eq, List.getElem?_cons_zero, List.getElem?_cons_succ, List.set, List.length_cons, List.length_nil, List.map_cons, List.map_nil, List.replicate, List.cons_append, List.nil_append, List.append_nil, if_true, if_false, ite_true, ite_false, Bool.false_eq_true, Bool.true_eq_false, Bool.not_true, Bool.not_false, List.zip_cons_cons, List.zip_nil_left, max0]⟩)
                      have e2 : dL ((s.zip r).map fun p => p.1 - p.2) = (s.zip r).map fun p : Nat × Nat => D.int ((p.1 - p.2 : Nat) : Int) := by unfold dL; rw [List.map_map]; rfl
                      have z : (s.zip r).length ≤ sizeLine := small_le (by rw [List.length_zip]; omega)
                      have hz := iter_zip s r S [some (.val (dT s)), some (.val (.int (f : Int))), some (.val (.tup [.int (m : Int), .tup (dL r)])), some (.val (.tup [.int (m : Int), dT b])), some (.val (.int (m : Int))), some (.val (.tup (dL r))), none, none] (mVar 0) (mVar 5) rfl rfl
                      have e3 := sum_dL ((s.zip r).map fun p => p.1 - p.2) S
                      rw [e2] at e3
                      refine ⟨decide (movedN s r = m), ?_, by unfold goodN; simp [hrl, c5, c6]⟩
                      have c5' : ((r.sum : Int) == (s.sum : Int)) = true := by simp [c5]
                      have eb' : m_p_bears [.tup (dL r), .int (f : Int)] S = .ok (.bl true) S := eb
                      simp only [bind_ok_eq, bind_bad_eq, mVar_eq, mC_eq, m2_eq, mNil_eq, mPass_eq, mSeq_eq, mSet_eq, mRet_eq, mDrop_eq, mIf_eq, mB_eq, isB_eq, mAndT_eq, mOrT_eq, mNotT_eq, mAnd_eq, mOr_eq, mNot_eq, mIfE_eq, mChain_eq, aNil_eq, aCons_eq, mTup_eq, mDisp_eq, mLst_eq, mLoc_eq, mOwnL_eq, mCall_eq, mCallK_eq, mAsg_eq, mFor_eq, iSeq_eq, iSeqD_lst, iSeqD_tup, iLst_eq, seqD_lst, iLoc_eq, locD_eq, iScr_eq, scrD_eq, iRange1_eq, iRange2_eq, iEnumM_eq, mLc_eq, mYes_eq, mQ_eq, mQL_eq, mA_eq, mB1_eq, hLen_eq, hTup_eq, hList_eq, hAbs_eq, hInt_eq, hIntB_eq, hMax2_eq, hMin2_eq, gNeg_eq, gI_eq, gI0_eq, gIx_tup, gIx_lst, gIx_scr, mSetC_eq, mApp_eq, mAppC_eq, qOwn_eq, gLen_tup, gLen_lst, gLen_scr, mDNewK_eq, mDGet2_eq, mDPut_eq, mDSet_eq, dictAt_eq, dictR_eq, keyD_int, keyD_str, mPar_eq, sNil_eq, sVal_eq, sOwnL_eq, setSl_nil, setSl_cons, setD_nil, setD_cons, pat_nm, pat_tp, pats_nil, pats_cons, wipeM_nil, wipeM_cons, forL_nil, lcL_nil, n2_eq, atI0, atI1, atI2, gNe_strs, gEq_strs, gNe_ints, gEq_ints, sz_1, sz_2, sz_3, sz_4, sz_5, sz_6, sz_7, sz_8, sz_9, sz_10, sz_11, sz_12, sz_13, sz_14, sz_15, sz_16, sz_17, sz_18, sz_19, sz_20, mLock_eq, nLock_eq, dictVar_eq, iKeysF_eq, keyV_inl, mRest_eq, restAt_eq, mExt_eq, iTup_eq, tupD_tup, mRetO_eq, gIsB_eq, gNotB_eq, gIsN_non, gIsN_int, gIsN_bl, gIsN_str, gIsN_tup, gIsN_lst, gIsN_loc, gNotN_non, gNotN_int, gNotN_bl, gNotN_str, gNotN_tup, gNotN_lst, gNotN_loc, mAsg2_eq, mAug_eq, hSortedR_eq, mV_eq, mVL_eq, anyD_lst, anyD_tup, anyD_scr, anyD_loc, mIxO_eq, mSetO_eq, oNone_eq, oSome_eq, mSlT_eq, mSlQ_eq, mTruQ_eq, iRg1_eq, iRg2_eq, mNNew_eq, dictT_eq, mNGet1_eq, mNGet2_eq, gNGet_eq, gNIn_eq, putT_eq, setT_eq, mNPut_eq, mNSet_eq, mDGet1_eq, aStar_eq, mDCopy_eq, gDIn_eq, mIns_eq, mRevQ_eq, mKeysL_eq, mItemsL_eq, mDPop_eq, mBad_eq, mAsgS_eq, mAsgSS_eq, hStrI_eq, gReprA_loc, gReprA_tup, gReprA_lst, gReprA_non, gReprA_bl, gReprA_int, gReprA_str, mRevT_eq, Nat.zero_le, Nat.zero_add, Nat.reduceAdd, and_self, mDef_eq, List.getElem?_cons_zero, List.getElem?_cons_succ, List.set, List.length_cons, List.length_nil, List.map_cons, List.map_nil, List.replicate, List.cons_append, List.nil_append, List.append_nil, if_true, if_false, ite_true, ite_false, Bool.false_eq_true, Bool.true_eq_false, Bool.not_true, Bool.not_false, List.zip_cons_cons, List.zip_nil_left, e1', g0, h2p, i0, i1, ex, beq_self_eq_true, hpy, len_dT, eall, za, zr, dL_len, List.length_map, ea, a1, any_dT, es, c5', eb', hz, em, z, e3]
                      have : ((m : Int) == ((((s.zip r).map fun p : Nat × Nat => p.1 - p.2).sum : Nat) : Int)) = decide (movedN s r = m) := by
                        unfold movedN
                        rw [Bool.eq_iff_iff, beq_iff_eq, decide_eq_true_eq]; omega
                      rw [this]
                    · rw [decide_eq_false c6] at eb
                      refine ⟨false, ?_, by unfold goodN; simp [c6]⟩
                      have c5' : ((r.sum : Int) == (s.sum : Int)) = true := by simp [c5]
                      have eb' : m_p_bears [.tup (dL r), .int (f : Int)] S = .ok (.bl false) S := eb
                      simp only [bind_ok_eq, bind_bad_eq, mVar_eq, mC_eq, m2_eq, mNil_eq, mPass_eq, mSeq_eq, mSet_eq, mRet_eq, mDrop_eq, mIf_eq, mB_eq, isB_eq, mAndT_eq, mOrT_eq, mNotT_eq, mAnd_eq, mOr_eq, mNot_eq, mIfE_eq, mChain_eq, aNil_eq, aCons_eq, mTup_eq, mDisp_eq, mLst_eq, mLoc_eq, mOwnL_eq, mCall_eq, mCallK_eq, mAsg_eq, mFor_eq, iSeq_eq, iSeqD_lst, iSeqD_tup, iLst_eq, seqD_lst, iLoc_eq, locD_eq, iScr_eq, scrD_eq, iRange1_eq, iRange2_eq, iEnumM_eq, mLc_eq, mYes_eq, mQ_eq, mQL_eq, mA_eq, mB1_eq, hLen_eq, hTup_eq, hList_eq, hAbs_eq, hInt_eq, hIntB_eq, hMax2_eq, hMin2_eq, gNeg_eq, gI_eq, gI0_eq, gIx_tup, gIx_lst, gIx_scr, mSetC_eq, mApp_eq, mAppC_eq, qOwn_eq, gLen_tup, gLen_lst, gLen_scr, mDNewK_eq, mDGet2_eq, mDPut_eq, mDSet_eq, dictAt_eq, dictR_eq, keyD_int, keyD_str, mPar_eq, sNil_eq, sVal_eq, sOwnL_eq, setSl_nil, setSl_cons, setD_nil, setD_cons, pat_nm, pat_tp, pats_nil, pats_cons, wipeM_nil, wipeM_cons, forL_nil, lcL_nil, n2_eq, atI0, atI1, atI2, gNe_strs, gEq_strs, gNe_ints, gEq_ints, sz_1, sz_2, sz_3, sz_4, sz_5, sz_6, sz_7, sz_8, sz_9, sz_10, sz_11, sz_12, sz_13, sz_14, sz_15, sz_16, sz_17, sz_18, sz_19, sz_20, mLock_eq, nLock_eq, dictVar_eq, iKeysF_eq, keyV_inl, mRest_eq, restAt_eq, mExt_eq, iTup_eq, tupD_tup, mRetO_eq, gIsB_eq, gNotB_eq, gIsN_non, gIsN_int, gIsN_bl, gIsN_str, gIsN_tup, gIsN_lst, gIsN_loc, gNotN_non, gNotN_int, gNotN_bl, gNotN_str, gNotN_tup, gNotN_lst, gNotN_loc, iZip_eq, mAsg2_eq, mAug_eq, hSortedR_eq, mV_eq, mVL_eq, anyD_lst, anyD_tup, anyD_scr, anyD_loc, mIxO_eq, mSetO_eq, oNone_eq, oSome_eq, mSlT_eq, mSlQ_eq, mTruQ_eq, iRg1_eq, iRg2_eq, mNNew_eq, dictT_eq, mNGet1_eq, mNGet2_eq, gNGet_eq, gNIn_eq, putT_eq, setT_eq, mNPut_eq, mNSet_eq, mDGet1_eq, aStar_eq, mDCopy_eq, gDIn_eq, mIns_eq, mRevQ_eq, mKeysL_eq, mItemsL_eq, mDPop_eq, mBad_eq, mAsgS_eq, mAsgSS_eq, hStrI_eq, gReprA_loc, gReprA_tup, gReprA_lst, gReprA_non, gReprA_bl, gReprA_int, gReprA_str, mRevT_eq, Nat.zero_le, Nat.zero_add, Nat.reduceAdd, and_self, mDef_eq, List.getElem?_cons_zero, List.getElem?_cons_succ, List.set, List.length_cons, List.length_nil, List.map_cons, List.map_nil, List.replicate, List.cons_append, List.nil_append, List.append_nil, if_true, if_false, ite_true, ite_false, Bool.false_eq_true, Bool.true_eq_false, Bool.not_true, Bool.not_false, List.zip_cons_cons, List.zip_nil_left, e1', g0, h2p, i0, i1, ex, beq_self_eq_true, hpy, len_dT, eall, za, zr, dL_len, List.length_map, ea, a1, any_dT, es, c5', eb']
                      skip
                  · refine ⟨false, ?_, by unfold goodN; simp [c5]⟩
                    have c5' : ((r.sum : Int) == (s.sum : Int)) = false := by
                      rw [beq_eq_false_iff_ne]; omega
                    simp only [bind_ok_eq, bind_bad_eq, mVar_eq, mC_eq, m2_eq, mNil_eq, mPass_eq, mSeq_eq, mSet_eq, mRet_eq, mDrop_eq, mIf_eq, mB_eq, isB_eq, mAndT_eq, mOrT_eq, mNotT_eq, mAnd_eq, mOr_eq, mNot_eq, mIfE_eq, mChain_eq, aNil_eq, aCons_eq, mTup_eq, mDisp_eq, mLst_eq, mLoc_eq, mOwnL_eq, mCall_eq, mCallK_eq, mAsg_eq, mFor_eq, iSeq_eq, iSeqD_lst, iSeqD_tup, iLst_eq, seqD_lst, iLoc_eq, locD_eq, iScr_eq, scrD_eq, iRange1_eq, iRange2_eq, iEnumM_eq, mLc_eq, mYes_eq, mQ_eq, mQL_eq, mA_eq, mB1_eq, hLen_eq, hTup_eq, hList_eq, hAbs_eq, hInt_eq, hIntB_eq, hMax2_eq, hMin2_eq, gNeg_eq, gI_eq, gI0_eq, gIx_tup, gIx_lst, gIx_scr, mSetC_eq, mApp_eq, mAppC_eq, qOwn_eq, gLen_tup, gLen_lst, gLen_scr, mDNewK_eq, mDGet2_eq, mDPut_eq, mDSet_eq, dictAt_eq, dictR_eq, keyD_int, keyD_str, mPar_eq, sNil_eq, sVal_eq, sOwnL_eq, setSl_nil, setSl_cons, setD_nil, setD_cons, pat_nm, pat_tp, pats_nil, pats_cons, wipeM_nil, wipeM_cons, forL_nil, lcL_nil, n2_eq, atI0, atI1, atI2, gNe_strs, gEq_strs, gNe_ints, gEq_ints, sz_1, sz_2, sz_3, sz_4, sz_5, sz_6, sz_7, sz_8, sz_9, sz_10, sz_11, sz_12, sz_13, sz_14, sz_15, sz_16, sz_17, sz_18, sz_19, sz_20, mLock_eq, nLock_eq, dictVar_eq, iKeysF_eq, keyV_inl, mRest_eq, restAt_eq, mExt_eq, iTup_eq, tupD_tup, mRetO_eq, gIsB_eq, gNotB_eq, gIsN_non, gIsN_int, gIsN_bl, gIsN_str, gIsN_tup, gIsN_lst, gIsN_loc, gNotN_non, gNotN_int, gNotN_bl, gNotN_str, gNotN_tup, gNotN_lst, gNotN_loc, iZip_eq, mAsg2_eq, mAug_eq, hSortedR_eq, mV_eq, mVL_eq, anyD_lst, anyD_tup, anyD_scr, anyD_loc, mIxO_eq, mSetO_eq, oNone_eq, oSome_eq, mSlT_eq, mSlQ_eq, mTruQ_eq, iRg1_eq, iRg2_eq, mNNew_eq, dictT_eq, mNGet1_eq, mNGet2_eq, gNGet_eq, gNIn_eq, putT_eq, setT_eq, mNPut_eq, mNSet_eq, mDGet1_eq, aStar_eq, mDCopy_eq, gDIn_eq, mIns_eq, mRevQ_eq, mKeysL_eq, mItemsL_eq, mDPop_eq, mBad_eq, mAsgS_eq, mAsgSS_eq, hStrI_eq, gReprA_loc, gReprA_tup, gReprA_lst, gReprA_non, gReprA_bl, gReprA_int, gReprA_str, mRevT_eq, Nat.zero_le, Nat.zero_add, Nat.reduceAdd, and_self, mDef_eq, List.getElem?_cons_zero, List.getElem?_cons_succ, List.set, List.length_cons, List.length_nil, List.map_cons, List.map_nil, List.replicate, List.cons_append, List.nil_append, List.append_nil, if_true, if_false, ite_true, ite_false, Bool.false_eq_true, Bool.true_eq_false, Bool.not_true, Bool.not_false, List.zip_cons_cons, List.zip_nil_left, e1', g0, h2p, i0, i1, ex, beq_self_eq_true, hpy, len_dT, eall, za, zr, dL_len, List.length_map, ea, a1, any_dT, es, c5']
                    skip
                · rw [show l.all nnD = false by simpa using ca] at ea
                  refine ⟨false, ?_, ⟨(fun z => nomatch z), fun ⟨r, e, g⟩ => ?_⟩⟩
                  · simp only [bind_ok_eq, bind_bad_eq, mVar_eq, mC_eq, m2_eq, mNil_eq, mPass_eq, mSeq_eq, mSet_eq, mRet_eq, mDrop_eq, mIf_eq, mB_eq, isB_eq, mAndT_eq, mOrT_eq, mNotT_eq, mAnd_eq, mOr_eq, mNot_eq, mIfE_eq, mChain_eq, aNil_eq, aCons_eq, mTup_eq, mDisp_eq, mLst_eq, mLoc_eq, mOwnL_eq, mCall_eq, mCallK_eq, mAsg_eq, mFor_eq, iSeq_eq, iSeqD_lst, iSeqD_tup, iLst_eq, seqD_lst, iLoc_eq, locD_eq, iScr_eq, scrD_eq, iRange1_eq, iRange2_eq, iEnumM_eq, mLc_eq, mYes_eq, mQ_eq, mQL_eq, mA_eq, mB1_eq, hLen_eq, hTup_eq, hList_eq, hAbs_eq, hInt_eq, hIntB_eq, hMax2_eq, hMin2_eq, gNeg_eq, gI_eq, gI0_eq, gIx_tup, gIx_lst, gIx_scr, mSetC_eq, mApp_eq, mAppC_eq, qOwn_eq, gLen_tup, gLen_lst, gLen_scr, mDNewK_eq, mDGet2_eq, mDPut_eq, mDSet_eq, dictAt_eq, dictR_eq, keyD_int, keyD_str, mPar_eq, sNil_eq, sVal_eq, sOwnL_eq, setSl_nil, setSl_cons, setD_nil, setD_cons, pat_nm, pat_tp, pats_nil, pats_cons, wipeM_nil, wipeM_cons, forL_nil, lcL_nil, n2_eq, atI0, atI1, atI2, gNe_strs, gEq_strs, gNe_ints, gEq_ints, sz_1, sz_2, sz_3, sz_4, sz_5, sz_6, sz_7, sz_8, sz_9, sz_10, sz_11, sz_12, sz_13, sz_14, sz_15, sz_16, sz_17, sz_18, sz_19, sz_20, mLock_eq, nLock_eq, dictVar_eq, iKeysF_eq, keyV_inl, mRest_eq, restAt_eq, mExt_eq, iTup_eq, tupD_tup, mRetO_eq, gIsB_eq, gNotB_eq, gIsN_non, gIsN_int, gIsN_bl, gIsN_str, gIsN_tup, gIsN_lst, gIsN_loc, gNotN_non, gNotN_int, gNotN_bl, gNotN_str, gNotN_tup, gNotN_lst, gNotN_loc, iZip_eq, mAsg2_eq, mAug_eq, hSortedR_eq, mV_eq, mVL_eq, anyD_lst, anyD_tup, anyD_scr, anyD_loc, mIxO_eq, mSetO_eq, oNone_eq, oSome_eq, mSlT_eq, mSlQ_eq, mTruQ_eq, iRg1_eq, iRg2_eq, mNNew_eq, dictT_eq, mNGet1_eq, mNGet2_eq, gNGet_eq, gNIn_eq, putT_eq, setT_eq, mNPut_eq, mNSet_eq, mDGet1_eq, aStar_eq, mDCopy_eq, gDIn_eq, mIns_eq, mRevQ_eq, mKeysL_eq, mItemsL_eq, mDPop_eq, mBad_eq, mAsgS_eq, mAsgSS_eq, hStrI_eq, gReprA_loc, gReprA_tup, gReprA_lst, gReprA_non, gReprA_bl, gReprA_int, gReprA_str, mRevT_eq, Nat.zero_le, Nat.zero_add, Nat.reduceAdd, and_self, mDef_eq, List.getElem?_cons_zero, List.getElem?_cons_succ, List.set, List.length_cons, List.length_nil, List.map_cons, List.map_nil, List.replicate, List.cons_append, List.nil_append, List.append_nil, if_true, if_false, ite_true, ite_false, Bool.false_eq_true, Bool.true_eq_false, Bool.not_true, Bool.not_false, List.zip_cons_cons, List.zip_nil_left, e1', g0, h2p, i0, i1, ex, beq_self_eq_true, hpy, len_dT, eall, za, List.length_map, ea]
                    skip
                  · exfalso
                    injection e with e; injection e with _ e; injection e with e _; injection e with e
                    apply ca
                    rw [e]
                    exact List.all_eq_true.mpr fun d hd => by
                      obtain ⟨k, _, e⟩ := List.mem_map.mp hd
                      rw [← e]; exact decide_eq_true (Int.natCast_nonneg k)
              | _ => cases cl
            · rw [show lenD s.length y = false by simpa using cl] at hpy
              refine ⟨false, ?_, ⟨(fun z => nomatch z), fun ⟨r, e, g⟩ => ?_⟩⟩
              · simp only [bind_ok_eq, bind_bad_eq, mVar_eq, mC_eq, m2_eq, mNil_eq, mPass_eq, mSeq_eq, mSet_eq, mRet_eq, mDrop_eq, mIf_eq, mB_eq, isB_eq, mAndT_eq, mOrT_eq, mNotT_eq, mAnd_eq, mOr_eq, mNot_eq, mIfE_eq, mChain_eq, aNil_eq, aCons_eq, mTup_eq, mDisp_eq, mLst_eq, mLoc_eq, mOwnL_eq, mCall_eq, mCallK_eq, mAsg_eq, mFor_eq, iSeq_eq, iSeqD_lst, iSeqD_tup, iLst_eq, seqD_lst, iLoc_eq, locD_eq, iScr_eq, scrD_eq, iRange1_eq, iRange2_eq, iEnumM_eq, mLc_eq, mYes_eq, mQ_eq, mQL_eq, mA_eq, mB1_eq, hLen_eq, hTup_eq, hList_eq, hAbs_eq, hInt_eq, hIntB_eq, hMax2_eq, hMin2_eq, gNeg_eq, gI_eq, gI0_eq, gIx_tup, gIx_lst, gIx_scr, mSetC_eq, mApp_eq, mAppC_eq, qOwn_eq, gLen_tup, gLen_lst, gLen_scr, mDNewK_eq, mDGet2_eq, mDPut_eq, mDSet_eq, dictAt_eq, dictR_eq, keyD_int, keyD_str, mPar_eq, sNil_eq, sVal_eq, sOwnL_eq, setSl_nil, setSl_cons, setD_nil, setD_cons, pat_nm, pat_tp, pats_nil, pats_cons, wipeM_nil, wipeM_cons, forL_nil, lcL_nil, n2_eq, atI0, atI1, atI2, gNe_strs, gEq_strs, gNe_ints, gEq_ints, sz_1, sz_2, sz_3, sz_4, sz_5, sz_6, sz_7, sz_8, sz_9, sz_10, sz_11, sz_12, sz_13, sz_14, sz_15, sz_16, sz_17, sz_18, sz_19, sz_20, mLock_eq, nLock_eq, dictVar_eq, iKeysF_eq, keyV_inl, mRest_eq, restAt_eq, mExt_eq, iTup_eq, tupD_tup, mRetO_eq, gIsB_eq, gNotB_eq, gIsN_non, gIsN_int, gIsN_bl, gIsN_str, gIsN_tup, gIsN_lst, gIsN_loc, gNotN_non, gNotN_int, gNotN_bl, gNotN_str, gNotN_tup, gNotN_lst, gNotN_loc, iZip_eq, mAsg2_eq, mAug_eq, hSortedR_eq, mV_eq, mVL_eq, anyD_lst, anyD_tup, anyD_scr, anyD_loc, mIxO_eq, mSetO_eq, oNone_eq, oSome_eq, mSlT_eq, mSlQ_eq, mTruQ_eq, iRg1_eq, iRg2_eq, mNNew_eq, dictT_eq, mNGet1_eq, mNGet2_eq, gNGet_eq, gNIn_eq, putT_eq, setT_eq, mNPut_eq, mNSet_eq, mDGet1_eq, aStar_eq, mDCopy_eq, gDIn_eq, mIns_eq, mRevQ_eq, mKeysL_eq, mItemsL_eq, mDPop_eq, mBad_eq, mAsgS_eq, mAsgSS_eq, hStrI_eq, gReprA_loc, gReprA_tup, gReprA_lst, gReprA_non, gReprA_bl, gReprA_int, gReprA_str, mRevT_eq, Nat.zero_le, Nat.zero_add, Nat.reduceAdd, and_self, mDef_eq, List.getElem?_cons_zero, List.getElem?_cons_succ, List.set, List.length_cons, List.length_nil, List.map_cons, List.map_nil, List.replicate, List.cons_append, List.nil_append, List.append_nil, if_true, if_false, ite_true, ite_false, Bool.false_eq_true, Bool.true_eq_false, Bool.not_true, Bool.not_false, List.zip_cons_cons, List.zip_nil_left, e1', g0, h2p, i0, i1, ex, beq_self_eq_true, hpy, len_dT]
              · exfalso
                injection e with e; injection e with _ e; injection e with e _
                apply cl
                rw [e]
                unfold goodN at g
                simp only [Bool.and_eq_true, decide_eq_true_eq] at g
                show decide (((dL r).length : Int) = s.length) = true
                rw [dL_len, g.1]; simp
          · have n0 : (i == (m : Int)) = false := by simpa using ci
            refine ⟨false, ?_, ⟨(fun z => nomatch z), fun ⟨r, e, g⟩ => ?_⟩⟩
            · simp only [bind_ok_eq, bind_bad_eq, mVar_eq, mC_eq, m2_eq, mNil_eq, mPass_eq, mSeq_eq, mSet_eq, mRet_eq, mDrop_eq, mIf_eq, mB_eq, isB_eq, mAndT_eq, mOrT_eq, mNotT_eq, mAnd_eq, mOr_eq, mNot_eq, mIfE_eq, mChain_eq, aNil_eq, aCons_eq, mTup_eq, mDisp_eq, mLst_eq, mLoc_eq, mOwnL_eq, mCall_eq, mCallK_eq, mAsg_eq, mFor_eq, iSeq_eq, iSeqD_lst, iSeqD_tup, iLst_eq, seqD_lst, iLoc_eq, locD_eq, iScr_eq, scrD_eq, iRange1_eq, iRange2_eq, iEnumM_eq, mLc_eq, mYes_eq, mQ_eq, mQL_eq, mA_eq, mB1_eq, hLen_eq, hTup_eq, hList_eq, hAbs_eq, hInt_eq, hIntB_eq, hMax2_eq, hMin2_eq, gNeg_eq, gI_eq, gI0_eq, gIx_tup, gIx_lst, gIx_scr, mSetC_eq, mApp_eq, mAppC_eq, qOwn_eq, gLen_tup, gLen_lst, gLen_scr, mDNewK_eq, mDGet2_eq, mDPut_eq, mDSet_eq, dictAt_eq, dictR_eq, keyD_int, keyD_str, mPar_eq, sNil_eq, sVal_eq, sOwnL_eq, setSl_nil, setSl_cons, setD_nil, setD_cons, pat_nm, pat_tp, pats_nil, pats_cons, wipeM_nil, wipeM_cons, forL_nil, lcL_nil, n2_eq, atI0, atI1, atI2, gNe_strs, gEq_strs, gNe_ints, gEq_ints, sz_1, sz_2, sz_3, sz_4, sz_5, sz_6, sz_7, sz_8, sz_9, sz_10, sz_11, sz_12, sz_13, sz_14, sz_15, sz_16, sz_17, sz_18, sz_19, sz_20, mLock_eq, nLock_eq, dictVar_eq, iKeysF_eq, keyV_inl, mRest_eq, restAt_eq, mExt_eq, iTup_eq, tupD_tup, mRetO_eq, gIsB_eq, gNotB_eq, gIsN_non, gIsN_int, gIsN_bl, gIsN_str, gIsN_tup, gIsN_lst, gIsN_loc, gNotN_non, gNotN_int, gNotN_bl, gNotN_str, gNotN_tup, gNotN_lst, gNotN_loc, iZip_eq, mAsg2_eq, mAug_eq, hSortedR_eq, mV_eq, mVL_eq, anyD_lst, anyD_tup, anyD_scr, anyD_loc, mIxO_eq, mSetO_eq, oNone_eq, oSome_eq, mSlT_eq, mSlQ_eq, mTruQ_eq, iRg1_eq, iRg2_eq, mNNew_eq, dictT_eq, mNGet1_eq, mNGet2_eq, gNGet_eq, gNIn_eq, putT_eq, setT_eq, mNPut_eq, mNSet_eq, mDGet1_eq, aStar_eq, mDCopy_eq, gDIn_eq, mIns_eq, mRevQ_eq, mKeysL_eq, mItemsL_eq, mDPop_eq, mBad_eq, mAsgS_eq, mAsgSS_eq, hStrI_eq, gReprA_loc, gReprA_tup, gReprA_lst, gReprA_non, gReprA_bl, gReprA_int, gReprA_str, mRevT_eq, Nat.zero_le, Nat.zero_add, Nat.reduceAdd, and_self, mDef_eq, List.getElem?_cons_zero, List.getElem?_cons_succ, List.set, List.length_cons, List.length_nil, List.map_cons, List.map_nil, List.replicate, List.cons_append, List.nil_append, List.append_nil, if_true, if_false, ite_true, ite_false, Bool.false_eq_true, Bool.true_eq_false, Bool.not_true, Bool.not_false, List.zip_cons_cons, List.zip_nil_left, e1', g0, h2p, i0, i1, ex, n0]
            · exfalso
              injection e with e; injection e with e _; injection e with e
              exact ci e
        | _ => cases cx
      · rw [show nnD x = false by simpa using cx] at ex
        refine ⟨false, ?_, ⟨(fun z => nomatch z), fun ⟨r, e, g⟩ => ?_⟩⟩
        · simp only [bind_ok_eq, bind_bad_eq, mVar_eq, mC_eq, m2_eq, mNil_eq, mPass_eq, mSeq_eq, mSet_eq, mRet_eq, mDrop_eq, mIf_eq, mB_eq, isB_eq, mAndT_eq, mOrT_eq, mNotT_eq, mAnd_eq, mOr_eq, mNot_eq, mIfE_eq, mChain_eq, aNil_eq, aCons_eq, mTup_eq, mDisp_eq, mLst_eq, mLoc_eq, mOwnL_eq, mCall_eq, mCallK_eq, mAsg_eq, mFor_eq, iSeq_eq, iSeqD_lst, iSeqD_tup, iLst_eq, seqD_lst, iLoc_eq, locD_eq, iScr_eq, scrD_eq, iRange1_eq, iRange2_eq, iEnumM_eq, mLc_eq, mYes_eq, mQ_eq, mQL_eq, mA_eq, mB1_eq, hLen_eq, hTup_eq, hList_eq, hAbs_eq, hInt_eq, hIntB_eq, hMax2_eq, hMin2_eq, gNeg_eq, gI_eq, gI0_eq, gIx_tup, gIx_lst, gIx_scr, mSetC_eq, mApp_eq, mAppC_eq, qOwn_eq, gLen_tup, gLen_lst, gLen_scr, mDNewK_eq, mDGet2_eq, mDPut_eq, mDSet_eq, dictAt_eq, dictR_eq, keyD_int, keyD_str, mPar_eq, sNil_eq, sVal_eq, sOwnL_eq, setSl_nil, setSl_cons, setD_nil, setD_cons, pat_nm, pat_tp, pats_nil, pats_cons, wipeM_nil, wipeM_cons, forL_nil, lcL_nil, n2_eq, atI0, atI1, atI2, gNe_strs, gEq_strs, gNe_ints, gEq_ints, sz_1, sz_2, sz_3, sz_4, sz_5, sz_6, sz_7, sz_8, sz_9, sz_10, sz_11, sz_12, sz_13, sz_14, sz_15, sz_16, sz_17, sz_18, sz_19, sz_20, mLock_eq, nLock_eq, dictVar_eq, iKeysF_eq, keyV_inl, mRest_eq, restAt_eq, mExt_eq, iTup_eq, tupD_tup, mRetO_eq, gIsB_eq, gNotB_eq, gIsN_non, gIsN_int, gIsN_bl, gIsN_str, gIsN_tup, gIsN_lst, gIsN_loc, gNotN_non, gNotN_int, gNotN_bl, gNotN_str, gNotN_tup, gNotN_lst, gNotN_loc, iZip_eq, mAsg2_eq, mAug_eq, hSortedR_eq, mV_eq, mVL_eq, anyD_lst, anyD_tup, anyD_scr, anyD_loc, mIxO_eq, mSetO_eq, oNone_eq, oSome_eq, mSlT_eq, mSlQ_eq, mTruQ_eq, iRg1_eq, iRg2_eq, mNNew_eq, dictT_eq, mNGet1_eq, mNGet2_eq, gNGet_eq, gNIn_eq, putT_eq, setT_eq, mNPut_eq, mNSet_eq, mDGet1_eq, aStar_eq, mDCopy_eq, gDIn_eq, mIns_eq, mRevQ_eq, mKeysL_eq, mItemsL_eq, mDPop_eq, mBad_eq, mAsgS_eq, mAsgSS_eq, hStrI_eq, gReprA_loc, gReprA_tup, gReprA_lst, gReprA_non, gReprA_bl, gReprA_int, gReprA_str, mRevT_eq, Nat.zero_le, Nat.zero_add, Nat.reduceAdd, and_self, mDef_eq, List.getElem?_cons_zero, List.getElem?_cons_succ, List.set, List.length_cons, List.length_nil, List.map_cons, List.map_nil, List.replicate, List.cons_append, List.nil_append, List.append_nil, if_true, if_false, ite_true, ite_false, Bool.false_eq_true, Bool.true_eq_false, Bool.not_true, Bool.not_false, List.zip_cons_cons, List.zip_nil_left, e1', g0, h2p, i0, i1, ex]
          skip
        · exfalso
          injection e with e; injection e with e _
          apply cx
          rw [e]; exact decide_eq_true (Int.natCast_nonneg m)
    · rw [show lenD 2 t = false by simpa using c2] at h2p
      refine ⟨false, ?_, ⟨(fun z => nomatch z), fun ⟨r, e, g⟩ => absurd (by rw [e]; simp [lenD]) c2⟩⟩
      simp only [bind_ok_eq, bind_bad_eq, mVar_eq, mC_eq, m2_eq, mNil_eq, mPass_eq, mSeq_eq, mSet_eq, mRet_eq, mDrop_eq, mIf_eq, mB_eq, isB_eq, mAndT_eq, mOrT_eq, mNotT_eq, mAnd_eq, mOr_eq, mNot_eq, mIfE_eq, mChain_eq, aNil_eq, aCons_eq, mTup_eq, mDisp_eq, mLst_eq, mLoc_eq, mOwnL_eq, mCall_eq, mCallK_eq, mAsg_eq, mFor_eq, iSeq_eq, iSeqD_lst, iSeqD_tup, iLst_eq, seqD_lst, iLoc_eq, locD_eq, iScr_eq, scrD_eq, iRange1_eq, iRange2_eq, iEnumM_eq, mLc_eq, mYes_eq, mQ_eq, mQL_eq, mA_eq, mB1_eq, hLen_eq, hTup_eq, hList_eq, hAbs_eq, hInt_eq, hIntB_eq, hMax2_eq, hMin2_eq, gNeg_eq, gI_eq, gI0_eq, gIx_tup, gIx_lst, gIx_scr, mSetC_eq, mApp_eq, mAppC_eq, qOwn_eq, gLen_tup, gLen_lst, gLen_scr, mDNewK_eq, mDGet2_eq, mDPut_eq, mDSet_eq, dictAt_eq, dictR_eq, keyD_int, keyD_str, mPar_eq, sNil_eq, sVal_eq, sOwnL_eq, setSl_nil, setSl_cons, setD_nil, setD_cons, pat_nm, pat_tp, pats_nil, pats_cons, wipeM_nil, wipeM_cons, forL_nil, lcL_nil, n2_eq, atI0, atI1, atI2, gNe_strs, gEq_strs, gNe_ints, gEq_ints, sz_1, sz_2, sz_3, sz_4, sz_5, sz_6, sz_7, sz_8, sz_9, sz_10, sz_11, sz_12, sz_13, sz_14, sz_15, sz_16, sz_17, sz_18, sz_19, sz_20, mLock_eq, nLock_eq, dictVar_eq, iKeysF_eq, keyV_inl, mRest_eq, restAt_eq, mExt_eq, iTup_eq, tupD_tup, mRetO_eq, gIsB_eq, gNotB_eq, gIsN_non, gIsN_int, gIsN_bl, gIsN_str, gIsN_tup, gIsN_lst, gIsN_loc, gNotN_non, gNotN_int, gNotN_bl, gNotN_str, gNotN_tup, gNotN_lst, gNotN_loc, iZip_eq, mAsg2_eq, mAug_eq, hSortedR_eq, mV_eq, mVL_eq, anyD_lst, anyD_tup, anyD_scr, anyD_loc, mIxO_eq, mSetO_eq, oNone_eq, oSome_eq, mSlT_eq, mSlQ_eq, mTruQ_eq, iRg1_eq, iRg2_eq, mNNew_eq, dictT_eq, mNGet1_eq, mNGet2_eq, gNGet_eq, gNIn_eq, putT_eq, setT_eq, mNPut_eq, mNSet_eq, mDGet1_eq, aStar_eq, mDCopy_eq, gDIn_eq, mIns_eq, mRevQ_eq, mKeysL_eq, mItemsL_eq, mDPop_eq, mBad_eq, mAsgS_eq, mAsgSS_eq, hStrI_eq, gReprA_loc, gReprA_tup, gReprA_lst, gReprA_non, gReprA_bl, gReprA_int, gReprA_str, mRevT_eq, Nat.zero_le, Nat.zero_add, Nat.reduceAdd, and_self, mDef_eq, List.getElem?_cons_zero, List.getElem?_cons_succ, List.set, List.length_cons, List.length_nil, List.map_cons, List.map_nil, List.replicate, List.cons_append, List.nil_append, List.append_nil, if_true, if_false, ite_true, ite_false, Bool.false_eq_true, Bool.true_eq_false, Bool.not_true, Bool.not_false, List.zip_cons_cons, List.zip_nil_left, e1', g0, h2p]
      skip
end K60
set_option maxRecDepth 100000
set_option maxHeartbeats 4000000
namespace K60
open Mo L2 PySem Pm
theorem min_dL (n : Nat) (ns : List Nat) (S : Store) : hMinD (dL (n :: ns)) S = .ok (.int ((leastN n ns : Nat) : Int)) S := by
  have e : toPs (dL (n :: ns)) = some ((n :: ns).map fun k : Nat => PyData.int (k : Int)) := by unfold dL; exact toPs_map (g := fun k : Nat => PyData.int (k : Int)) (fun _ => rfl) _
  have al : alikeB ((n :: ns).map fun k : Nat => PyData.int (k : Int)) = true := by
    unfold alikeB
    simp [PySem.W.alike, notNoneP]
  have dp : ∀ xs : List Nat, PyData.depthAll (xs.map fun k : Nat => PyData.int (k : Int)) ≤ 60 := fun xs => by
    induction xs with
    | nil => simp [PyData.depthAll]
    | cons x xs ih => rw [List.map_cons]; simp only [PyData.depthAll, PyData.depth]; omega
  have mm : ∀ (ns : List Nat) (a : Nat), PySem.W.minD (.int (a : Int)) (ns.map fun k : Nat => PyData.int (k : Int)) = .int ((leastN a ns : Nat) : Int) := fun ns => by
    induction ns with
    | nil => intro a; rfl
    | cons x xs ih =>
      intro a
      unfold PySem.W.minD leastN at ih ⊢
      rw [List.map_cons, List.foldl_cons, List.foldl_cons]
      have e : (if PySem.W.dataLt (.int (x : Int)) (.int (a : Int)) = true then PyData.int (x : Int) else .int (a : Int)) = .int (((if Nat.blt x a = true then x else a : Nat) : Nat) : Int) := by
        rw [PySem.W.dataLt_int]
        by_cases h : x < a
        · rw [if_pos (by simpa using h), if_pos (by rw [Nat.blt_eq]; exact h)]
        · rw [if_neg (by simpa using h), if_neg (by rw [Nat.blt_eq]; exact h)]
      rw [e]
      exact ih _
  unfold hMinD
  rw [e]
  rw [List.map_cons] at al ⊢
  have d2 := dp (n :: ns)
  rw [List.map_cons] at d2
  dsimp only
  rw [if_pos ⟨al, d2⟩, mm]
  rfl
theorem filter_all (p h f : Nat) (hp : p ≤ 9) (hh : 1 ≤ h ∧ h ≤ 4) : (∀ r ∈ (allN p h).filter (safeN f), r.sum = p ∧ r.length = h) ∧ ((allN p h).filter (safeN f)).length ≤ 1000 := by
  refine ⟨fun r hr => all_row p h hh.1 r (List.mem_filter.mp hr).1, ?_⟩
  exact Nat.le_trans (List.length_filter_le _ _) (all_len hp hh.2)
/-! ### the best ones -/
def dQ (s row : List Nat) : D := .tup [.int ((movedN s row : Nat) : Int), dT row]
def dM (p : Nat × List Nat) : D := .tup [.int (p.1 : Int), dT p.2]
def safeL (s : List Nat) (f : Nat) : List (List Nat) := (allN s.sum s.length).filter (safeN f)
def leastB (s : List Nat) (f : Nat) : Nat := match safeL s f with
  | [] => s.sum
  | r :: rs => leastN (movedN s r) (rs.map (movedN s) ++ [s.sum])
def bestL (s : List Nat) (f : Nat) : List (List Nat) := (safeL s f).filter fun r => decide (movedN s r = leastB s f)
theorem best_turn (S : Store) (s row : List Nat) (f : Nat) (hf : f ≤ row.length) (h : row.sum < 2 ^ 60) (hl : s.length ≤ 100) (out : List D) (ho : out.length < 100000) (x4 x5 x6 x7 x8 : Option Slot) :
    b_l_best_2 [some (.val (dT s)), some (.val (.int (f : Int))), some (.own (.lst out)), some (.val (dT row)), x4, none, none, x7, x8] S = .ok (.nx [some (.val (dT s)), some (.val (.int (f : Int))), some (.own (.lst (if safeN f row = true then out ++ [dQ s row] else out))), some (.val (dT row)), x4, none, none, x7, x8]) S := by
  have hs : ((isN false row).take (row.length - f)).sum ≤ row.sum := by
    have := take_sum_le (row.length - f) (isN false row)
    rw [isN_sum] at this
    exact this
  have c : cMul 2 ((((isN false row).take (row.length - f)).sum : Nat) : Int) := cMul_nn (by omega) (by omega) (by omega) (by omega)
  have f1 : gSubI (.int ((row.length : Nat) : Int)) (.int (f : Int)) S = .ok (.int ((row.length - f : Nat) : Int)) S := sub_nat S (by omega)
  have e : decide (((row.sum : Nat) : Int) < 2 * ((((isN false row).take (row.length - f)).sum : Nat) : Int)) = safeN f row := by
    unfold safeN
    rw [Bool.eq_iff_iff, decide_eq_true_eq, Nat.blt_eq]
    omega
  have f2 := mul_of S c rfl
  have f3 := gt_of S e
  have em := lcL_map (p := .tp [.nm 5, .nm 6]) (me := e_l_best_1) (enc := fun p : Nat × Nat => D.tup [.int (p.1 : Int), .int (p.2 : Int)]) (f := fun p : Nat × Nat => D.int ((p.1 - p.2 : Nat) : Int)) (ρ := [some (.val (dT s)), some (.val (.int (f : Int))), some (.own (.lst out)), some (.val (dT row)), x4, none, none, x7, x8]) (S := S) (s.zip row) (fun p _ => ⟨_, by simp; rfl, by
    unfold e_l_best_1
    simp only [bind_ok_eq, bind_bad_eq, mVar_eq, mC_eq, m2_eq, mNil_eq, mPass_eq, mSeq_eq, mSet_eq, mRet_eq, mDrop_eq, mIf_eq, mB_eq, isB_eq, mAndT_eq, mOrT_eq, mNotT_eq, mAnd_eq, mOr_eq, mNot_eq, mIfE_eq, mChain_eq, aNil_eq, aCons_eq, mTup_eq, mDisp_eq, mLst_eq, mLoc_eq, mOwnL_eq, mCall_eq, mCallK_eq, mAsg_eq, mFor_eq, iSeq_eq, iSeqD_lst, iSeqD_tup, iLst_eq, seqD_lst, iLoc_eq, locD_eq, iScr_eq, scrD_eq, iRange1_eq, iRange2_eq, iEnumM_eq, mLc_eq, mYes_eq, mQ_eq, mQL_eq, mA_eq, mB1_eq, hLen_eq, hTup_eq, hList_eq, hAbs_eq, hInt_eq, hIntB_eq, gNeg_eq, gI_eq, gI0_eq, gIx_tup, gIx_lst, gIx_scr, gIx_loc, mSetC_eq, putC_eq, mApp_eq, mAppC_eq, qOwn_eq, gLen_tup, gLen_lst, gLen_scr, mDNewK_eq, mDGet2_eq, mDPut_eq, mDSet_eq, dictAt_eq, dictR_eq, keyD_int, keyD_str, mPar_eq, sNil_eq, sVal_eq, sOwnL_eq, setSl_nil, setSl_cons, setD_nil, setD_cons, pat_nm, pat_tp, pats_nil, pats_cons, wipeM_nil, wipeM_cons, forL_nil, lcL_nil, n2_eq, atI0, atI1, atI2, gNe_strs, gEq_strs, gNe_ints, gEq_ints, sz_1, sz_2, sz_3, sz_4, sz_5, sz_6, sz_7, sz_8, sz_9, sz_10, sz_11, sz_12, sz_13, sz_14, sz_15, sz_16, sz_17, sz_18, sz_19, sz_20, mLock_eq, nLock_eq, dictVar_eq, iKeysF_eq, keyV_inl, mRest_eq, restAt_eq, mExt_eq, iTup_eq, tupD_tup, mRetO_eq, gIsB_eq, gNotB_eq, gIsN_non, gIsN_int, gIsN_bl, gIsN_str, gIsN_tup, gIsN_lst, gIsN_loc, gNotN_non, gNotN_int, gNotN_bl, gNotN_str, gNotN_tup, gNotN_lst, gNotN_loc, iZip_eq, mAsg2_eq, mAug_eq, hSortedR_eq, mV_eq, mVL_eq, anyD_lst, anyD_tup, anyD_scr, anyD_loc, mIxO_eq, mSetO_eq, oNone_eq, oSome_eq, mSlT_eq, mSlQ_eq, mTruQ_eq, iRg1_eq, iRg2_eq, mNNew_eq, dictT_eq, mNGet1_eq, mNGet2_eq, gNGet_eq, gNIn_eq, putT_eq, setT_eq, mNPut_eq, mNSet_eq, mDGet1_eq, aStar_eq, mDCopy_eq, gDIn_eq, mIns_eq, mRevQ_eq, mKeysL_eq, mItemsL_eq, mDPop_eq, mBad_eq, mAsgS_eq, mAsgSS_eq, hStrI_eq, gReprA_loc, gReprA_tup, gReprA_lst, gReprA_non, gReprA_bl, gReprA_int, gReprA_str, mRevT_eq, Nat.zero_le, Nat.zero_add, Nat.reduceAdd, and_self, mDef_eq, List.getElem?_cons_zero, List.getElem?_cons_succ, List.set, List.length_cons, List.length_nil, List.map_cons, List.map_nil, List.replicate, List.cons_append, List.nil_append, List.append_nil, if_true, if_false, ite_true, ite_false, Bool.false_eq_true, Bool.true_eq_false, Bool.not_true, Bool.not_false, List.zip_cons_cons, List.zip_nil_left, max0]⟩)
  have e2 : dL ((s.zip row).map fun p => p.1 - p.2) = (s.zip row).map fun p : Nat × Nat => D.int ((p.1 - p.2 : Nat) : Int) := by unfold dL; rw [List.map_map]; rfl
  have z : (s.zip row).length ≤ sizeLine := small_le (by rw [List.length_zip]; omega)
  have hz := iter_zip s row S [some (.val (dT s)), some (.val (.int (f : Int))), some (.own (.lst out)), some (.val (dT row)), x4, none, none, x7, x8] (mVar 0) (mVar 3) rfl rfl
  have e3 := sum_dL ((s.zip row).map fun p => p.1 - p.2) S
  rw [e2] at e3
  have zo : out.length < PySem.sizeLine := small_lt (by omega)
  have z2 : 2 ≤ PySem.sizeLine := by decide
  unfold b_l_best_2
  by_cases cs : safeN f row = true
  · rw [if_pos cs]
    simp only [bind_ok_eq, bind_bad_eq, mVar_eq, mC_eq, m2_eq, mNil_eq, mPass_eq, mSeq_eq, mSet_eq, mRet_eq, mDrop_eq, mIf_eq, mB_eq, isB_eq, mAndT_eq, mOrT_eq, mNotT_eq, mAnd_eq, mOr_eq, mNot_eq, mIfE_eq, mChain_eq, aNil_eq, aCons_eq, mTup_eq, mDisp_eq, mLst_eq, mLoc_eq, mOwnL_eq, mCall_eq, mCallK_eq, mAsg_eq, mFor_eq, iSeq_eq, iSeqD_lst, iSeqD_tup, iLst_eq, seqD_lst, iLoc_eq, locD_eq, iScr_eq, scrD_eq, iEnumM_eq, mLc_eq, mYes_eq, mQ_eq, mQL_eq, mA_eq, mB1_eq, hLen_eq, hTup_eq, hList_eq, hAbs_eq, hInt_eq, hIntB_eq, gNeg_eq, gIx_tup, gIx_lst, gIx_scr, mSetC_eq, mApp_eq, mAppC_eq, qOwn_eq, gLen_tup, gLen_lst, gLen_scr, mDNewK_eq, mDGet2_eq, mDPut_eq, mDSet_eq, dictAt_eq, dictR_eq, keyD_int, keyD_str, mPar_eq, sNil_eq, sVal_eq, sOwnL_eq, setSl_nil, setSl_cons, setD_nil, setD_cons, pat_nm, pat_tp, pats_nil, pats_cons, wipeM_nil, wipeM_cons, forL_nil, lcL_nil, n2_eq, atI0, atI1, atI2, gNe_strs, gEq_strs, gNe_ints, gEq_ints, sz_1, sz_2, sz_3, sz_4, sz_5, sz_6, sz_7, sz_8, sz_9, sz_10, sz_11, sz_12, sz_13, sz_14, sz_15, sz_16, sz_17, sz_18, sz_19, sz_20, mLock_eq, nLock_eq, dictVar_eq, iKeysF_eq, keyV_inl, mRest_eq, restAt_eq, mExt_eq, iTup_eq, tupD_tup, mRetO_eq, gIsB_eq, gNotB_eq, gIsN_non, gIsN_int, gIsN_bl, gIsN_str, gIsN_tup, gIsN_lst, gIsN_loc, gNotN_non, gNotN_int, gNotN_bl, gNotN_str, gNotN_tup, gNotN_lst, gNotN_loc, mAsg2_eq, mAug_eq, hSortedR_eq, mV_eq, mVL_eq, anyD_lst, anyD_tup, anyD_scr, anyD_loc, mIxO_eq, mSetO_eq, oNone_eq, oSome_eq, mSlT_eq, mSlQ_eq, mTruQ_eq, mNNew_eq, dictT_eq, mNGet1_eq, mNGet2_eq, gNGet_eq, gNIn_eq, putT_eq, setT_eq, mNPut_eq, mNSet_eq, mDGet1_eq, aStar_eq, mDCopy_eq, gDIn_eq, mIns_eq, mRevQ_eq, mKeysL_eq, mItemsL_eq, mDPop_eq, mBad_eq, mAsgS_eq, mAsgSS_eq, hStrI_eq, gReprA_loc, gReprA_tup, gReprA_lst, gReprA_non, gReprA_bl, gReprA_int, gReprA_str, mRevT_eq, Nat.zero_le, Nat.zero_add, Nat.reduceAdd, and_self, mDef_eq, List.getElem?_cons_zero, List.getElem?_cons_succ, List.set, List.length_cons, List.length_nil, List.map_cons, List.map_nil, List.replicate, List.cons_append, List.nil_append, List.append_nil, if_true, if_false, ite_true, ite_false, Bool.false_eq_true, Bool.true_eq_false, Bool.not_true, Bool.not_false, List.zip_cons_cons, List.zip_nil_left, any_dT, sort_dL, len_dT, f1, mSlQ, oNone, oSome, cut_dL, sum_dL, f2, f3, cs, hz, em, z, List.length_map, e3, zo, z2]
    rfl
  · rw [if_neg cs]
    have cs' : safeN f row = false := by simpa using cs
    simp only [bind_ok_eq, bind_bad_eq, mVar_eq, mC_eq, m2_eq, mNil_eq, mPass_eq, mSeq_eq, mSet_eq, mRet_eq, mDrop_eq, mIf_eq, mB_eq, isB_eq, mAndT_eq, mOrT_eq, mNotT_eq, mAnd_eq, mOr_eq, mNot_eq, mIfE_eq, mChain_eq, aNil_eq, aCons_eq, mTup_eq, mDisp_eq, mLst_eq, mLoc_eq, mOwnL_eq, mCall_eq, mCallK_eq, mAsg_eq, mFor_eq, iSeq_eq, iSeqD_lst, iSeqD_tup, iLst_eq, seqD_lst, iLoc_eq, locD_eq, iScr_eq, scrD_eq, iEnumM_eq, mLc_eq, mYes_eq, mQ_eq, mQL_eq, mA_eq, mB1_eq, hLen_eq, hTup_eq, hList_eq, hAbs_eq, hInt_eq, hIntB_eq, gNeg_eq, gIx_tup, gIx_lst, gIx_scr, mSetC_eq, mApp_eq, mAppC_eq, qOwn_eq, gLen_tup, gLen_lst, gLen_scr, mDNewK_eq, mDGet2_eq, mDPut_eq, mDSet_eq, dictAt_eq, dictR_eq, keyD_int, keyD_str, mPar_eq, sNil_eq, sVal_eq, sOwnL_eq, setSl_nil, setSl_cons, setD_nil, setD_cons, pat_nm, pat_tp, pats_nil, pats_cons, wipeM_nil, wipeM_cons, forL_nil, lcL_nil, n2_eq, atI0, atI1, atI2, gNe_strs, gEq_strs, gNe_ints, gEq_ints, sz_1, sz_2, sz_3, sz_4, sz_5, sz_6, sz_7, sz_8, sz_9, sz_10, sz_11, sz_12, sz_13, sz_14, sz_15, sz_16, sz_17, sz_18, sz_19, sz_20, mLock_eq, nLock_eq, dictVar_eq, iKeysF_eq, keyV_inl, mRest_eq, restAt_eq, mExt_eq, iTup_eq, tupD_tup, mRetO_eq, gIsB_eq, gNotB_eq, gIsN_non, gIsN_int, gIsN_bl, gIsN_str, gIsN_tup, gIsN_lst, gIsN_loc, gNotN_non, gNotN_int, gNotN_bl, gNotN_str, gNotN_tup, gNotN_lst, gNotN_loc, mAsg2_eq, mAug_eq, hSortedR_eq, mV_eq, mVL_eq, anyD_lst, anyD_tup, anyD_scr, anyD_loc, mIxO_eq, mSetO_eq, oNone_eq, oSome_eq, mSlT_eq, mSlQ_eq, mTruQ_eq, mNNew_eq, dictT_eq, mNGet1_eq, mNGet2_eq, gNGet_eq, gNIn_eq, putT_eq, setT_eq, mNPut_eq, mNSet_eq, mDGet1_eq, aStar_eq, mDCopy_eq, gDIn_eq, mIns_eq, mRevQ_eq, mKeysL_eq, mItemsL_eq, mDPop_eq, mBad_eq, mAsgS_eq, mAsgSS_eq, hStrI_eq, gReprA_loc, gReprA_tup, gReprA_lst, gReprA_non, gReprA_bl, gReprA_int, gReprA_str, mRevT_eq, Nat.zero_le, Nat.zero_add, Nat.reduceAdd, and_self, mDef_eq, List.getElem?_cons_zero, List.getElem?_cons_succ, List.set, List.length_cons, List.length_nil, List.map_cons, List.map_nil, List.replicate, List.cons_append, List.nil_append, List.append_nil, if_true, if_false, ite_true, ite_false, Bool.false_eq_true, Bool.true_eq_false, Bool.not_true, Bool.not_false, List.zip_cons_cons, List.zip_nil_left, any_dT, sort_dL, len_dT, f1, mSlQ, oNone, oSome, cut_dL, sum_dL, f2, f3, cs']
theorem all_le (s : List Nat) (f : Nat) (hh : 1 ≤ s.length) : ∀ r ∈ safeL s f, r.sum = s.sum ∧ r.length = s.length := fun r hr => all_row s.sum s.length hh r (List.mem_filter.mp hr).1
theorem moved_le : ∀ s r : List Nat, movedN s r ≤ s.sum
  | [], r => by simp [movedN]
  | x :: s, [] => by simp [movedN]
  | x :: s, y :: r => by
    have := moved_le s r
    unfold movedN at this ⊢
    rw [List.zip_cons_cons, List.map_cons, List.sum_cons, List.sum_cons]
    dsimp only
    omega
theorem best_fn (s : List Nat) (f : Nat) (hp : 1 ≤ s.sum ∧ s.sum ≤ 9) (hh : 1 ≤ s.length ∧ s.length ≤ 4) (hf : f < s.length) (S : Store) : m_l_best [dT s, .int (f : Int)] S = .ok (.lst ((bestL s f).map (dQ s))) S := by
  have hall := all_row s.sum s.length hh.1
  have hlen := all_len hp.2 hh.2
  have ea := all_ok s.sum s.length hp.2 hh S
  obtain ⟨ρ', S', e1, ⟨x3, rfl⟩, hS⟩ := forL_inv (p := .nm 3) (mb := b_l_best_2) (enc := dT) (fun d ρ S' => (∃ x3, ρ = [some (.val (dT s)), some (.val (.int (f : Int))), some (.own (.lst ((d.filter (safeN f)).map (dQ s)))), x3, none, none, none, none, none]) ∧ S' = S) (allN s.sum s.length) (ρ := [some (.val (dT s)), some (.val (.int (f : Int))), some (.own (.lst [])), none, none, none, none, none, none]) (S := S)
    ⟨⟨_, rfl⟩, rfl⟩ (by
    rintro d row r ρ S1 e ⟨⟨x3, rfl⟩, rfl⟩
    have hm : row ∈ allN s.sum s.length := by rw [e]; simp
    obtain ⟨h1, h2⟩ := hall row hm
    have hd : d.length ≤ (allN s.sum s.length).length := by rw [e, List.length_append]; omega
    have hdl := List.length_filter_le (safeN f) d
    have := best_turn S1 s row f (by omega) (by omega) (by omega) ((d.filter (safeN f)).map (dQ s)) (by rw [List.length_map]; omega) none none none none none
    refine ⟨[(3, dT row)], _, S1, rfl, .inl (Eq.trans ?_ this), ⟨some (.val (dT row)), ?_⟩, rfl⟩
    · rw [setD_cons, setD_nil]; rfl
    · rw [List.filter_append]
      by_cases c : safeN f row = true
      · rw [if_pos c, List.filter_cons_of_pos c, List.filter_nil, List.map_append]; rfl
      · rw [if_neg c, List.filter_cons_of_neg c, List.filter_nil, List.append_nil])
  subst hS
  have hsl : (safeL s f).length ≤ 1000 := Nat.le_trans (List.length_filter_le _ _) hlen
  have e3 : mLcL (.tp [.nm 7, .nm 3]) mYes e_l_best_3 ((safeL s f).map (dQ s)) [some (.val (dT s)), some (.val (.int (f : Int))), some (.val (.lst ((safeL s f).map (dQ s)))), none, none, none, none, none, none] S' = .ok ((safeL s f).map fun r => D.int ((movedN s r : Nat) : Int)) S' := lcL_map _ fun r hr => ⟨[(7, .int ((movedN s r : Nat) : Int)), (3, dT r)], by simp [dQ], by
    unfold e_l_best_3
    simp⟩
  have z1 : (safeL s f).length ≤ PySem.sizeLine := small_le (by omega)
  have ecat : gCatL (.lst ((safeL s f).map fun r => D.int ((movedN s r : Nat) : Int))) (.lst [.int ((s.sum : Nat) : Int)]) S' = .ok (dL ((safeL s f).map (movedN s) ++ [s.sum])) S' := by
    have z : ((safeL s f).map fun r => D.int ((movedN s r : Nat) : Int)).length + [D.int ((s.sum : Nat) : Int)].length ≤ PySem.sizeLine := small_le (by rw [List.length_map, List.length_singleton]; omega)
    unfold gCatL
    dsimp only
    rw [if_pos z]
    unfold dL
    rw [List.map_append, List.map_map]
    rfl
  have emin : hMinD (dL ((safeL s f).map (movedN s) ++ [s.sum])) S' = .ok (.int ((leastB s f : Nat) : Int)) S' := by
    unfold leastB
    cases q : safeL s f with
    | nil => exact min_dL s.sum [] S'
    | cons r rs => exact min_dL (movedN s r) (rs.map (movedN s) ++ [s.sum]) S'
  have e5 : mLcL (.nm 8) t_l_best_5 e_l_best_4 ((safeL s f).map (dQ s)) [some (.val (dT s)), some (.val (.int (f : Int))), some (.val (.lst ((safeL s f).map (dQ s)))), x3, some (.val (.int ((leastB s f : Nat) : Int))), none, none, none, none] S' = .ok ((bestL s f).map (dQ s)) S' := lcL_filter (safeL s f) fun r hr => ⟨_, rfl, by
    unfold t_l_best_5
    have : ((movedN s r : Int) == (leastB s f : Int)) = decide (movedN s r = leastB s f) := by rw [Bool.eq_iff_iff, beq_iff_eq, decide_eq_true_eq]; omega
    simp [dQ, this], fun _ => by
    unfold e_l_best_4
    simp⟩
  have z3 : (bestL s f).length ≤ PySem.sizeLine := small_le (by have := List.length_filter_le (fun r => decide (movedN s r = leastB s f)) (safeL s f); unfold bestL; omega)
  have e1' : mForL (.nm 3) b_l_best_2 (dLs (allN s.sum s.length)) [some (.val (dT s)), some (.val (.int (f : Int))), some (.own (.lst [])), none, none, none, none, none, none] S' = .ok (.nx [some (.val (dT s)), some (.val (.int (f : Int))), some (.own (.lst ((safeL s f).map (dQ s)))), x3, none, none, none, none, none]) S' := e1
  have hl1 : 1 ≤ PySem.sizeLine := by decide
  unfold m_l_best b_l_best
  simp only [bind_ok_eq, bind_bad_eq, mVar_eq, mC_eq, m2_eq, mNil_eq, mPass_eq, mSeq_eq, mSet_eq, mRet_eq, mDrop_eq, mIf_eq, mB_eq, isB_eq, mAndT_eq, mOrT_eq, mNotT_eq, mAnd_eq, mOr_eq, mNot_eq, mIfE_eq, mChain_eq, aNil_eq, aCons_eq, mTup_eq, mDisp_eq, mLst_eq, mLoc_eq, mOwnL_eq, mCall_eq, mCallK_eq, mAsg_eq, mFor_eq, iSeq_eq, iSeqD_lst, iSeqD_tup, iLst_eq, seqD_lst, iLoc_eq, locD_eq, iScr_eq, scrD_eq, iEnumM_eq, mLc_eq, mYes_eq, mQ_eq, mQL_eq, mA_eq, mB1_eq, hLen_eq, hTup_eq, hList_eq, hAbs_eq, hInt_eq, hIntB_eq, gNeg_eq, gIx_tup, gIx_lst, gIx_scr, mSetC_eq, mApp_eq, mAppC_eq, qOwn_eq, gLen_tup, gLen_lst, gLen_scr, mDNewK_eq, mDGet2_eq, mDPut_eq, mDSet_eq, dictAt_eq, dictR_eq, keyD_int, keyD_str, mPar_eq, sNil_eq, sVal_eq, sOwnL_eq, setSl_nil, setSl_cons, setD_nil, setD_cons, pat_nm, pat_tp, pats_nil, pats_cons, wipeM_nil, wipeM_cons, forL_nil, lcL_nil, n2_eq, atI0, atI1, atI2, gNe_strs, gEq_strs, gNe_ints, gEq_ints, sz_1, sz_2, sz_3, sz_4, sz_5, sz_6, sz_7, sz_8, sz_9, sz_10, sz_11, sz_12, sz_13, sz_14, sz_15, sz_16, sz_17, sz_18, sz_19, sz_20, mLock_eq, nLock_eq, dictVar_eq, iKeysF_eq, keyV_inl, mRest_eq, restAt_eq, mExt_eq, iTup_eq, tupD_tup, mRetO_eq, gIsB_eq, gNotB_eq, gIsN_non, gIsN_int, gIsN_bl, gIsN_str, gIsN_tup, gIsN_lst, gIsN_loc, gNotN_non, gNotN_int, gNotN_bl, gNotN_str, gNotN_tup, gNotN_lst, gNotN_loc, mAsg2_eq, mAug_eq, hSortedR_eq, mV_eq, mVL_eq, anyD_lst, anyD_tup, anyD_scr, anyD_loc, mIxO_eq, mSetO_eq, oNone_eq, oSome_eq, mSlT_eq, mSlQ_eq, mTruQ_eq, mNNew_eq, dictT_eq, mNGet1_eq, mNGet2_eq, gNGet_eq, gNIn_eq, putT_eq, setT_eq, mNPut_eq, mNSet_eq, mDGet1_eq, aStar_eq, mDCopy_eq, gDIn_eq, mIns_eq, mRevQ_eq, mKeysL_eq, mItemsL_eq, mDPop_eq, mBad_eq, mAsgS_eq, mAsgSS_eq, hStrI_eq, gReprA_loc, gReprA_tup, gReprA_lst, gReprA_non, gReprA_bl, gReprA_int, gReprA_str, mRevT_eq, Nat.zero_le, Nat.zero_add, Nat.reduceAdd, and_self, mDef_eq, List.getElem?_cons_zero, List.getElem?_cons_succ, List.set, List.length_cons, List.length_nil, List.map_cons, List.map_nil, List.replicate, List.cons_append, List.nil_append, List.append_nil, if_true, if_false, ite_true, ite_false, Bool.false_eq_true, Bool.true_eq_false, Bool.not_true, Bool.not_false, List.zip_cons_cons, List.zip_nil_left, any_dT, len_dT, sum_dL, ea, e1', e3, List.length_map, z1, hl1, ecat, emin, e5, z3]
  skip
end K60
set_option maxRecDepth 100000
set_option maxHeartbeats 4000000
namespace K60
open Mo L2 PySem Pm
theorem least_more (a k : Nat) (xs : List Nat) (h : a ≤ k) : leastN a (xs ++ [k]) = leastN a xs := by
  obtain ⟨m1, l1⟩ := leastN_spec xs a
  obtain ⟨m2, l2⟩ := leastN_spec (xs ++ [k]) a
  have h1 := l2 (leastN a xs) (by
    rcases List.mem_cons.mp m1 with z | z
    · rw [z]; exact List.mem_cons_self
    · exact List.mem_cons_of_mem _ (List.mem_append_left _ z))
  have h2 : leastN a xs ≤ leastN a (xs ++ [k]) := by
    rcases List.mem_cons.mp m2 with z | z
    · rw [z]; exact l1 a List.mem_cons_self
    · rcases List.mem_append.mp z with z | z
      · exact l1 _ (List.mem_cons_of_mem _ z)
      · rw [List.mem_singleton.mp z]
        exact Nat.le_trans (l1 a List.mem_cons_self) h
  omega
theorem good_iff {s : List Nat} {f m : Nat} (hp : 1 ≤ s.sum) (hh : 1 ≤ s.length) (hf : f < s.length) (r : List Nat) : goodN s f m r = true ↔ r ∈ safeL s f ∧ movedN s r = m := by
  unfold goodN
  simp only [Bool.and_eq_true, decide_eq_true_eq]
  constructor
  · rintro ⟨h1, h2, h3, h4⟩
    refine ⟨List.mem_filter.mpr ⟨?_, (safe_iff (by omega) (by omega)).mpr h3⟩, h4⟩
    have := mem_all r (by omega)
    rw [h1, h2] at this
    exact this
  · rintro ⟨h1, h2⟩
    obtain ⟨h3, h4⟩ := all_le s f hh r h1
    exact ⟨h4, h3, (safe_iff (by omega) (by omega)).mp (List.mem_filter.mp h1).2, h2⟩
theorem best_is {s : List Nat} {f : Nat} (hp : 1 ≤ s.sum) (hh : 1 ≤ s.length) (hf : f < s.length) : match spreadN s f with
    | none => bestL s f = []
    | some (m, b) => b ∈ bestL s f ∧ (∀ r, r ∈ bestL s f ↔ goodN s f m r = true) ∧ ∀ r ∈ bestL s f, movedN s r = m := by
  have h := chk_ok s f (by omega) hf
  have hb : ∀ r, r ∈ bestL s f ↔ r ∈ safeL s f ∧ movedN s r = leastB s f := fun r => by
    unfold bestL; rw [List.mem_filter, decide_eq_true_eq]
  have e : (allN s.sum s.length).filter (safeN f) = safeL s f := rfl
  rw [e] at h
  have hl : leastB s f = match safeL s f with
    | [] => s.sum
    | r :: rs => leastN (movedN s r) (rs.map (movedN s)) := by
    unfold leastB
    cases safeL s f with
    | nil => rfl
    | cons r rs => exact least_more _ _ _ (moved_le s r)
  cases q : safeL s f with
  | nil =>
    rw [q] at h
    unfold chkS at h
    dsimp only at h
    cases q2 : spreadN s f with
    | none =>
      dsimp only
      unfold bestL; rw [q]; rfl
    | some mb => rw [q2] at h; cases h
  | cons r rs =>
    rw [q] at h hl
    unfold chkS at h
    dsimp only at h hl
    cases q2 : spreadN s f with
    | none => rw [q2] at h; cases h
    | some mb =>
      obtain ⟨m, b⟩ := mb
      rw [q2] at h
      dsimp only at h ⊢
      simp only [Bool.and_eq_true] at h
      obtain ⟨⟨⟨h1, h2⟩, h3⟩, _⟩ := h
      have h2 := Nat.eq_of_beq_eq_true h2
      have h3 := Nat.eq_of_beq_eq_true h3
      obtain ⟨b', hb', eb⟩ := List.any_eq_true.mp h1
      have eb := eqL_eq eb
      subst eb
      rw [← hl] at h2
      rw [← q] at hb'
      refine ⟨(hb _).mpr ⟨hb', by omega⟩, fun r => ?_, fun r hr => by rw [((hb r).mp hr).2]; exact h2.symm⟩
      rw [hb, good_iff hp hh hf, h2]
/-- what is right is one of the best; where none is safe, None -/
theorem right_best {s : List Nat} {f : Nat} (hp : 1 ≤ s.sum) (hh : 1 ≤ s.length) (hf : f < s.length) (t : D) : IsRight s f t ↔ (bestL s f = [] ∧ t = .non) ∨ ∃ r ∈ bestL s f, t = dQ s r := by
  have h := best_is hp hh hf
  unfold IsRight
  cases q : spreadN s f with
  | none =>
    rw [q] at h
    dsimp only at h ⊢
    rw [h]
    constructor
    · exact fun e => .inl ⟨rfl, e⟩
    · rintro (⟨_, e⟩ | ⟨r, hr, _⟩)
      · exact e
      · cases hr
  | some mb =>
    obtain ⟨m, b⟩ := mb
    rw [q] at h
    dsimp only at h ⊢
    obtain ⟨h1, h2, h3⟩ := h
    constructor
    · rintro ⟨r, e, g⟩
      have hr := (h2 r).mpr g
      exact .inr ⟨r, hr, by rw [e]; unfold dQ; rw [h3 r hr]⟩
    · rintro (⟨e, _⟩ | ⟨r, hr, e⟩)
      · rw [e] at h1; cases h1
      · exact ⟨r, by rw [e]; unfold dQ; rw [h3 r hr], (h2 r).mp hr⟩
theorem told_right {s : List Nat} {f : Nat} (hp : 1 ≤ s.sum) (hh : 1 ≤ s.length) (hf : f < s.length) : IsRight s f (dO (spreadN s f)) := by
  have h := best_is hp hh hf
  unfold IsRight dO
  cases q : spreadN s f with
  | none => rfl
  | some mb =>
    obtain ⟨m, b⟩ := mb
    rw [q] at h
    exact ⟨b, rfl, (h.2.1 b).mp h.1⟩
end K60
set_option maxRecDepth 100000
set_option maxHeartbeats 4000000
namespace K60
open Mo L2 PySem Pm
theorem Well.at {Z S : Store} {n i : Nat} {b : Int} {c : Cell} (h : Well Z S n b) (hi : i ≠ n) (e : Z[i]? = some c) : S[i]? = some c := (h.1.2 i (lt_of_get e) hi).trans e
theorem Well.from {Y Z S : Store} {n : Nat} {b c : Int} (h : Well Z S n b) (y : Well Y Z n c) : Well Y S n b := ⟨⟨Nat.le_trans y.1.1 h.1.1, fun i hi hn => (h.1.2 i (Nat.lt_of_lt_of_le hi y.1.1) hn).trans (y.1.2 i hi hn)⟩, h.2⟩
theorem Well.keep {Z S S' : Store} {n : Nat} {b : Int} (h : Well Z S n b) (k : Keeps S S') : Well Z S' n b := by
  have hl := h.lt
  obtain ⟨⟨z1, z2⟩, g, m, t, e, r⟩ := h
  exact ⟨⟨Nat.le_trans z1 k.1, fun i hi hn => (k.2 i (Nat.lt_of_lt_of_le hi z1)).trans (z2 i hi hn)⟩, g, m, t, (k.2 n hl).trans e, r⟩
/-! ### what the law hands in -/
def Pl (n d : Nat) (t : D) : Prop := ∃ p, toP t = some p ∧ Tx p n d
theorem Pl.mono {n d m e : Nat} {t : D} (h : Pl n d t) (hn : n ≤ m) (hd : d ≤ e) : Pl m e t := let ⟨p, a, b⟩ := h; ⟨p, a, b.mono hn hd⟩
theorem Pl.int {i : Int} (h : i.natAbs < 2 ^ 64) : Pl 25 0 (.int i) := ⟨_, rfl, .int h⟩
theorem Pl.non : Pl 25 0 .non := ⟨_, rfl, .none⟩
theorem Pl.bl (b : Bool) : Pl 25 0 (.bl b) := ⟨_, rfl, .bool b⟩
theorem Pl.str {x : Str} (h : PyData.strOk (reprText x) = true) (hl : (cs (reprText x)).length ≤ 25) : Pl 25 0 (.str x) := ⟨_, rfl, .str h hl⟩
theorem pls {n d : Nat} : ∀ {ts : List D}, (∀ t ∈ ts, Pl n d t) → ∃ ps, toPs ts = some ps ∧ ps.length = ts.length ∧ ∀ p ∈ ps, Tx p n d
  | [], _ => ⟨[], rfl, rfl, fun p hp => nomatch hp⟩
  | t :: ts, h => by
    obtain ⟨p, e1, x1⟩ := h t List.mem_cons_self
    obtain ⟨ps, e2, l2, x2⟩ := pls fun u hu => h u (List.mem_cons_of_mem _ hu)
    refine ⟨p :: ps, by rw [toPs, e1, e2], by rw [List.length_cons, List.length_cons, l2], fun q hq => ?_⟩
    rcases List.mem_cons.mp hq with z | z
    · rw [z]; exact x1
    · exact x2 q z
theorem Pl.tup {n d : Nat} {ts : List D} (h : ∀ t ∈ ts, Pl n d t) : Pl ((n + 2) * ts.length + 4) (d + 4) (.tup ts) := by
  obtain ⟨ps, e, l, x⟩ := pls h
  refine ⟨.tuple ps, by rw [toP, e]; rfl, ?_⟩
  rw [← l]; exact .tuple x
theorem Pl.lst {n d : Nat} {ts : List D} (h : ∀ t ∈ ts, Pl n d t) : Pl ((n + 2) * ts.length + 4) (d + 4) (.lst ts) := by
  obtain ⟨ps, e, l, x⟩ := pls h
  refine ⟨.list ps, by rw [toP, e]; rfl, ?_⟩
  rw [← l]; exact .list x
theorem Pl.row {l : List D} (h : ∀ d ∈ l, Pl 25 0 d) (hl : l.length ≤ 10) : Pl 300 4 (.tup l) := (Pl.tup h).mono (by omega) (by omega)
theorem Pl.rowL {l : List D} (h : ∀ d ∈ l, Pl 25 0 d) (hl : l.length ≤ 10) : Pl 300 4 (.lst l) := (Pl.lst h).mono (by omega) (by omega)
theorem Pl.two {x y : D} (hx : Pl 300 8 x) (hy : Pl 300 8 y) : Pl 700 12 (.tup [x, y]) := by
  refine (Pl.tup (n := 300) (d := 8) fun t ht => ?_).mono (by simp) (by omega)
  simp only [List.mem_cons, List.not_mem_nil, or_false] at ht
  rcases ht with z | z <;> (subst z; assumption)
theorem dL_pl {r : List Nat} (h : r.sum < 100) : ∀ d ∈ dL r, Pl 25 0 d := fun d hd => by
  obtain ⟨k, hk, e⟩ := List.mem_map.mp hd
  have := mem_le_sum hk
  rw [← e]; exact .int (by omega)
theorem cut_mem {l : List D} {lo hi : Option Int} : (∀ d ∈ cutD l lo hi, d ∈ l) ∧ (cutD l lo hi).length ≤ l.length := by
  unfold cutD
  refine ⟨fun d hd => List.mem_of_mem_drop (List.mem_of_mem_take hd), ?_⟩
  rw [List.length_take, List.length_drop]; omega
theorem digit_text : ∀ k : Nat, k < 10 → PyData.strOk (reprText (toString ((k : Nat) : Int))) = true ∧ (cs (reprText (toString ((k : Nat) : Int)))).length ≤ 25 := by decide +kernel
theorem Pl.digit {k : Nat} (h : k < 10) : Pl 25 0 (.str (toString ((k : Nat) : Int))) := .str (digit_text k h).1 (digit_text k h).2
theorem catL_if (a b : List D) (S : Store) : gCatL (.lst a) (.lst b) S = if a.length + b.length ≤ PySem.sizeLine then .ok (a ++ b) S else .bad := rfl
theorem catT_if (a b : List D) (S : Store) : gCatT (.tup a) (.tup b) S = if a.length + b.length ≤ PySem.sizeLine then .ok (.tup (a ++ b)) S else .bad := rfl
/-- an empty dict at k, or data -/
def Th (k : Nat) (t : D) : Prop := t = .loc k ∨ Pl 1000 20 t
theorem ixN_nat {n j : Nat} (h : j < n) : ixN n (j : Int) = some j := by
  unfold ixN
  rw [if_pos (by omega), if_pos (by omega), Int.toNat_natCast]
theorem set_dL (s : List Nat) (j v : Nat) : (dL s).set j (.int (v : Int)) = dL (s.set j v) := by unfold dL; rw [List.map_set]
theorem at_dL (s : List Nat) (j : Nat) (h : j < s.length) : atI (dL s) (j : Int) = some (.int ((s[j] : Nat) : Int)) := by
  refine atI_nat ?_
  unfold dL
  rw [List.getElem?_map, List.getElem?_eq_getElem h]; rfl
theorem sum_set (s : List Nat) (j : Nat) (h : j < s.length) : (s.set j (s[j] + 1)).sum = s.sum + 1 := by
  induction s generalizing j with
  | nil => simp at h
  | cons x s ih =>
    cases j with
    | zero => simp; omega
    | succ j =>
      have := ih j (by simpa using h)
      rw [List.set_cons_succ, List.sum_cons, List.sum_cons, List.getElem_cons_succ, this]; omega
end K60
set_option maxRecDepth 100000
set_option maxHeartbeats 8000000
namespace K60
open Mo L2 PySem Pm
theorem odd_ok {S : Store} {n : Nat} {b : Int} (hw : Well S S n b) (hb : b < 2 ^ 18) (m : Nat) (r : List Nat) (hm : m ≤ 9) (hr : 1 ≤ r.length ∧ r.length ≤ 4) (hs : r.sum ≤ 9) :
    ∃ ts S' k, m_l_odd [.loc n, .tup [.int (m : Int), .tup (dL r)]] S = .ok (.lst ts) S' ∧ ts.length ≤ 100 ∧ (∀ t ∈ ts, Th k t) ∧ S'[k]? = some (.dK []) ∧ S.length ≤ k ∧ Well S S' n (b + 1) := by
  obtain ⟨d, S1, e1, a1, b1, w1⟩ := take_ok (k := (r.length : Int)) hw (by omega) (by omega) (by omega)
  obtain ⟨at', hat, rfl⟩ : ∃ j : Nat, j < r.length ∧ d = (j : Int) := ⟨d.toNat, by omega, by omega⟩
  have hl1 := w1.1.1
  have hv : r[at'] ≤ 9 := by have := mem_le_sum (List.getElem_mem hat); omega
  have ea := at_dL r at' hat
  have bm : b62 ((m : Nat) : Int) = true := (b62_iff _).mpr (by omega)
  have bv : b62 ((r[at'] : Nat) : Int) = true := (b62_iff _).mpr (by omega)
  have zz : ∀ k : Nat, k ≤ 1000 → k ≤ PySem.sizeLine := fun k h => small_le (by omega)
  have cl : ∀ lo hi : Option Int, (cutD (dL r) lo hi).length ≤ 4 := fun lo hi => by have := (cut_mem (l := dL r) (lo := lo) (hi := hi)).2; rw [dL_len] at this; omega
  have c1 : ∀ lo hi, (cutD (dL r) lo hi).length + 1 ≤ PySem.sizeLine := fun lo hi => small_le (by have := cl lo hi; omega)
  have c2 : ∀ lo hi lo2 hi2 (x : D), (cutD (dL r) lo hi ++ [x]).length + (cutD (dL r) lo2 hi2).length ≤ PySem.sizeLine := fun lo hi lo2 hi2 x => small_le (by have := cl lo hi; have := cl lo2 hi2; rw [List.length_append, List.length_singleton]; omega)
  have c3 : ∀ lo hi, 1 + (cutD (dL r) lo hi).length ≤ PySem.sizeLine := fun lo hi => small_le (by have := cl lo hi; omega)
  have c4 : ∀ lo hi lo2 hi2, (cutD (dL r) lo hi).length + (cutD (dL r) lo2 hi2).length ≤ PySem.sizeLine := fun lo hi lo2 hi2 => small_le (by have := cl lo hi; have := cl lo2 hi2; omega)
  have zl := dL_len r
  have es := sort_dL false r
  have em := sum_dL r
  have hp := dL_pl (r := r) (by omega)
  have k14 := zz 14 (by omega); have k20 := zz 20 (by omega); have k26 := zz 26 (by omega); have k28 := zz 28 (by omega)
  have k30 := zz 30 (by omega); have k33 := zz 33 (by omega); have k36 := zz 36 (by omega)
  have k1 := zz 1 (by omega); have k2 := zz 2 (by omega); have k3 := zz 3 (by omega); have k6 := zz 6 (by omega)
  have kr := zz r.length (by omega)
  have kr1 := zz (r.length + 1) (by omega)
  have hpb : (Pat.tp [.nm 2, .nm 3]).bind (.tup [.int (m : Int), .tup (dL r)]) = some [(2, .int (m : Int)), (3, .tup (dL r))] := by simp
  have key : ∃ ts, m_l_odd [.loc n, .tup [.int (m : Int), .tup (dL r)]] S = .ok (.lst ts) (S1 ++ [.dK []]) ∧ ts.length ≤ 100 ∧ ∀ t ∈ ts, Th S1.length t := by
    unfold m_l_odd b_l_odd
    refine Exists.intro ?w ⟨?e, ?l, ?t⟩
    case e =>
      simp only [bind_ok_eq, bind_bad_eq, mVar_eq, mC_eq, m2_eq, mNil_eq, mPass_eq, mSeq_eq, mSet_eq, mRet_eq, mDrop_eq, mIf_eq, mB_eq, isB_eq, mAndT_eq, mOrT_eq, mNotT_eq, mAnd_eq, mOr_eq, mNot_eq, mIfE_eq, mChain_eq, aNil_eq, aCons_eq, mTup_eq, mDisp_eq, mLst_eq, mLoc_eq, mOwnL_eq, mCall_eq, mCallK_eq, mAsg_eq, mFor_eq, iSeq_eq, iSeqD_lst, iSeqD_tup, iLst_eq, seqD_lst, iLoc_eq, locD_eq, iScr_eq, scrD_eq, iEnumM_eq, mLc_eq, mYes_eq, mQ_eq, mQL_eq, mA_eq, mB1_eq, hLen_eq, hTup_eq, hList_eq, hAbs_eq, hInt_eq, hIntB_eq, gNeg_eq, gIx_tup, gIx_lst, gIx_scr, mSetC_eq, mApp_eq, mAppC_eq, qOwn_eq, gLen_tup, gLen_lst, gLen_scr, mDNewK_eq, mDGet2_eq, mDPut_eq, mDSet_eq, dictAt_eq, dictR_eq, keyD_int, keyD_str, mPar_eq, sNil_eq, sVal_eq, sOwnL_eq, setSl_nil, setSl_cons, setD_nil, setD_cons, pat_nm, pat_tp, pats_nil, pats_cons, wipeM_nil, wipeM_cons, forL_nil, lcL_nil, n2_eq, atI0, atI1, atI2, gNe_strs, gEq_strs, gNe_ints, gEq_ints, sz_1, sz_2, sz_3, sz_4, sz_5, sz_6, sz_7, sz_8, sz_9, sz_10, sz_11, sz_12, sz_13, sz_14, sz_15, sz_16, sz_17, sz_18, sz_19, sz_20, mLock_eq, nLock_eq, dictVar_eq, iKeysF_eq, keyV_inl, mRest_eq, restAt_eq, mExt_eq, iTup_eq, tupD_tup, mRetO_eq, gIsB_eq, gNotB_eq, gIsN_non, gIsN_int, gIsN_bl, gIsN_str, gIsN_tup, gIsN_lst, gIsN_loc, gNotN_non, gNotN_int, gNotN_bl, gNotN_str, gNotN_tup, gNotN_lst, gNotN_loc, mAsg2_eq, mAug_eq, hSortedR_eq, mV_eq, mVL_eq, anyD_lst, anyD_tup, anyD_scr, anyD_loc, mIxO_eq, mSetO_eq, oNone_eq, oSome_eq, mSlT_eq, mSlQ_eq, mTruQ_eq, mNNew_eq, dictT_eq, mNGet1_eq, mNGet2_eq, gNGet_eq, gNIn_eq, putT_eq, setT_eq, mNPut_eq, mNSet_eq, mDGet1_eq, aStar_eq, mDCopy_eq, gDIn_eq, mIns_eq, mRevQ_eq, mKeysL_eq, mItemsL_eq, mDPop_eq, mBad_eq, mAsgS_eq, mAsgSS_eq, hStrI_eq, gReprA_loc, gReprA_tup, gReprA_lst, gReprA_non, gReprA_bl, gReprA_int, gReprA_str, mRevT_eq, Nat.zero_le, Nat.zero_add, Nat.reduceAdd, and_self, mDef_eq, List.getElem?_cons_zero, List.getElem?_cons_succ, List.set, List.length_cons, List.length_nil, List.map_cons, List.map_nil, List.replicate, List.cons_append, List.nil_append, List.append_nil, if_true, if_false, ite_true, ite_false, Bool.false_eq_true, Bool.true_eq_false, Bool.not_true, Bool.not_false, List.zip_cons_cons, List.zip_nil_left, gAddI, gSubI, gI0_eq, hpb, gLen_tup, zl, e1, catL_if, catT_if, hStrI_eq, bm, bv, gIx_tup, ea, es, em, k14, k20, k26, k28, k30, k33, k36, k1, k2, k3, k6, kr, kr1, c1, c2, c3, c4]
      exact rfl
    case l =>
      simp only [List.length_cons, List.length_nil]
      omega
    case t =>
      have row : ∀ l : List D, (∀ d ∈ l, Pl 25 0 d) → l.length ≤ 10 → Pl 300 8 (.tup l) := fun l h1 h2 => (Pl.row h1 h2).mono (by omega) (by omega)
      have atom : ∀ {x : D}, Pl 25 0 x → Pl 300 8 x := fun h => h.mono (by omega) (by omega)
      have two : ∀ {x y : D}, Pl 300 8 x → Pl 300 8 y → Th S1.length (.tup [x, y]) := fun h1 h2 => .inr ((Pl.two h1 h2).mono (by omega) (by omega))
      have one : ∀ {x : D}, Pl 300 8 x → Th S1.length x := fun h => .inr (h.mono (by omega) (by omega))
      have mem1 : ∀ {x : D}, Pl 25 0 x → ∀ d ∈ [x], Pl 25 0 d := fun h d hd => by rw [List.mem_singleton.mp hd]; exact h
      have app : ∀ {l k : List D}, (∀ d ∈ l, Pl 25 0 d) → (∀ d ∈ k, Pl 25 0 d) → ∀ d ∈ l ++ k, Pl 25 0 d := fun h1 h2 d hd => (List.mem_append.mp hd).elim (h1 d) (h2 d)
      have cut : ∀ lo hi, ∀ d ∈ cutD (dL r) lo hi, Pl 25 0 d := fun lo hi d hd => hp d (cut_mem.1 d hd)
      have pM : Pl 25 0 (.int (m : Int)) := .int (by omega)
      have p0 : Pl 25 0 (.int 0) := .int (by decide)
      have hM := atom pM
      have hM1 : Pl 300 8 (.int ((m : Int) + 1)) := atom (.int (by omega))
      have hM2 : Pl 300 8 (.int ((m : Int) - 1)) := atom (.int (by omega))
      have hN : Pl 300 8 .non := atom .non
      have hStr : Pl 300 8 (.str (toString (m : Int))) := atom (.digit (by omega))
      have hB : ∀ b : Bool, Pl 300 8 (.bl b) := fun b => atom (.bl b)
      have hT0 : Pl 300 8 (.tup []) := row _ (fun d hd => nomatch hd) (by simp)
      have hR : Pl 300 8 (.tup (dL r)) := row _ hp (by rw [dL_len]; omega)
      have hRL : Pl 300 8 (.lst (dL r)) := (Pl.rowL hp (by rw [dL_len]; omega)).mono (by omega) (by omega)
      have hRev : Pl 300 8 (.tup (dL r).reverse) := row _ (fun d hd => hp d (List.mem_reverse.mp hd)) (by rw [List.length_reverse, dL_len]; omega)
      have hR0 : Pl 300 8 (.tup (dL r ++ [.int 0])) := row _ (app hp (mem1 p0)) (by rw [List.length_append, dL_len]; simp; omega)
      have hC1 : Pl 300 8 (.tup (cutD (dL r) (some 1) none)) := row _ (cut _ _) (by have := cl (some 1) none; omega)
      have hX : ∀ {x : D}, Pl 25 0 x → Pl 300 8 (.tup (cutD (dL r) none (some (at' : Int)) ++ [x] ++ cutD (dL r) (some ((at' : Int) + 1)) none)) := fun h => row _ (app (app (cut _ _) (mem1 h)) (cut _ _)) (by have := cl none (some (at' : Int)); have := cl (some ((at' : Int) + 1)) none; rw [List.length_append, List.length_append, List.length_singleton]; omega)
      have hCC : Pl 300 8 (.tup (cutD (dL r) (some 1) none ++ cutD (dL r) none (some 1))) := row _ (app (cut _ _) (cut _ _)) (by have := cl (some 1) none; have := cl none (some 1); rw [List.length_append]; omega)
      have hS : Pl 300 8 (.tup (dL (isN false r))) := row _ (dL_pl (by rw [isN_sum]; omega)) (by rw [dL_len, isN_len]; omega)
      have hSum : Pl 300 8 (.tup (.int ((r.sum : Nat) : Int) :: cutD (dL r) (some 1) none)) := row _ (app (mem1 (.int (by omega))) (cut (some 1) none)) (by have := cl (some 1) none; rw [List.length_cons]; omega)
      have hRR : Pl 300 8 (.tup [.tup (dL r)]) := by
        refine (Pl.tup (n := 150) (d := 4) fun t ht => ?_).mono (by simp) (by omega)
        rw [List.mem_singleton.mp ht]
        exact (Pl.tup hp).mono (by rw [dL_len]; omega) (by omega)
      have hMR : ∀ t ∈ [D.int (m : Int), .tup (dL r)], Pl 300 8 t := fun t ht => by
        simp only [List.mem_cons, List.not_mem_nil, or_false] at ht
        rcases ht with z | z <;> (subst z; assumption)
      have hML : Th S1.length (.lst [.int (m : Int), .tup (dL r)]) := .inr ((Pl.lst hMR).mono (by simp) (by omega))
      have hM0 : Th S1.length (.tup [.int (m : Int), .tup (dL r), .int 0]) := by
        refine .inr ((Pl.tup (n := 300) (d := 8) fun t ht => ?_).mono (by simp) (by omega))
        simp only [List.mem_cons, List.not_mem_nil, or_false] at ht
        rcases ht with z | z | z <;> subst z
        · exact hM
        · exact hR
        · exact atom p0
      have hOne : Th S1.length (.tup [.tup [.int (m : Int), .tup (dL r)]]) := by
        refine .inr ((Pl.tup (n := 700) (d := 12) fun t ht => ?_).mono (by simp) (by omega))
        rw [List.mem_singleton.mp ht]
        exact Pl.two hM hR
      repeat' (refine List.forall_mem_cons.mpr ⟨?_, ?_⟩)
      all_goals first
        | exact fun _ h => nomatch h
        | exact .inl rfl
        | exact one hN
        | exact one (hB _)
        | exact one hM
        | exact one (atom p0)
        | exact one hR
        | exact one hT0
        | exact two hM hR
        | exact two hM1 hR
        | exact two hM2 hR
        | exact two hStr hR
        | exact two (hB _) hR
        | exact two hM hRL
        | exact two hM hRev
        | exact two hM hR0
        | exact two hM hC1
        | exact two hM hN
        | exact two hN hR
        | exact two hT0 hR
        | exact two hR hM
        | exact two hM hRR
        | exact two hM hCC
        | exact two hM hS
        | exact two hM hSum
        | exact two hM (hX (.int (by omega)))
        | exact two hM (hX (.bl _))
        | exact two hM (hX .non)
        | exact two hM (hX (.digit (by omega)))
        | exact one (atom (.str (by decide +kernel) (by decide +kernel)))
        | exact one ((Pl.rowL (l := []) (fun d hd => nomatch hd) (by simp)).mono (by omega) (by omega))
        | exact one (row _ (mem1 pM) (by simp))
        | exact hML
        | exact hM0
        | exact hOne
  obtain ⟨ts, q1, q2, q3⟩ := key
  exact ⟨ts, S1 ++ [.dK []], S1.length, q1, q2, q3, List.getElem?_concat_length, hl1, w1.keep (Keeps.app _ _)⟩
end K60
set_option maxRecDepth 100000
set_option maxHeartbeats 8000000
namespace K60
open Mo L2 PySem Pm
def ThS (S : Store) (t : D) : Prop := (∃ k, t = .loc k ∧ S[k]? = some (.dK [])) ∨ Pl 1000 20 t
def tx : D → Str
  | .loc _ => "{}"
  | t => ((toP t).getD .none).shown
theorem flat_of {d : D} {p : PyData} (h : toP d = some p) : flatD d = true := by
  cases d <;> first | rfl | cases h
theorem flats_of : ∀ {l : List D} {ps : List PyData}, toPs l = some ps → ∀ d ∈ l, flatD d = true
  | [], _, _, d, hd => nomatch hd
  | x :: l, ps, h, d, hd => by
    rw [toPs] at h
    cases h1 : toP x with
    | none => rw [h1] at h; cases h
    | some p =>
      cases h2 : toPs l with
      | none => rw [h1, h2] at h; cases h
      | some qs =>
        rcases List.mem_cons.mp hd with z | z
        · rw [z]; exact flat_of h1
        · exact flats_of h2 d z
theorem tup_of {l : List D} {p : PyData} (h : toP (.tup l) = some p) : ∃ ps, toPs l = some ps := by
  rw [toP] at h
  cases q : toPs l with
  | none => rw [q] at h; cases h
  | some ps => exact ⟨ps, rfl⟩
theorem deep_of {S : Store} {t : D} (h : ThS S t) : deepD S t := by
  rcases h with ⟨k, e, hk⟩ | ⟨p, e, _⟩
  · subst e
    exact ⟨hk, fun x y z => nomatch z⟩
  · have hf := flat_of e
    refine ⟨?_, fun x y z => ?_⟩
    · cases t <;> first | exact hf | cases hf
    · subst z
      obtain ⟨ps, e2⟩ := tup_of e
      have hfl := flats_of e2
      refine ⟨hfl x (by simp), hfl y (by simp), fun l hl => ?_⟩
      subst hl
      rw [toPs] at e2
      cases h1 : toP x with
      | none => rw [h1] at e2; cases e2
      | some p1 =>
        cases h2 : toPs [D.tup l] with
        | none => rw [h1, h2] at e2; cases e2
        | some qs =>
          rw [toPs] at h2
          cases h3 : toP (.tup l) with
          | none => rw [h3] at h2; cases h2
          | some p3 =>
            obtain ⟨us, e4⟩ := tup_of h3
            exact flats_of e4
theorem tx_of {S : Store} {t : D} (h : ThS S t) : gReprA t S = .ok (.str (tx t)) S ∧ PyData.strOk (tx t) = true := by
  rcases h with ⟨k, e, hk⟩ | ⟨p, e, x⟩
  · subst e
    exact ⟨by simp [hk, tx], ok_of _⟩
  · have e2 : gReprV t S = .ok (.str p.shown) S := gReprV_ok e (x.shownOk (by omega) (by omega))
    have hf := flat_of e
    have e3 : tx t = p.shown := by
      cases t <;> first | (show ((toP _).getD .none).shown = _; rw [e]; rfl) | cases hf
    rw [e3]
    refine ⟨?_, x.ok⟩
    cases t <;> first | exact e2 | cases hf
/-! ### the right texts -/
def qP (s r : List Nat) : PyData := .tuple [.int ((movedN s r : Nat) : Int), .tuple (r.map fun k : Nat => .int (k : Int))]
theorem toP_dT (r : List Nat) : toP (dT r) = some (.tuple (r.map fun k : Nat => .int (k : Int))) := by
  unfold dT dL
  rw [toP, toPs_map (g := fun k : Nat => PyData.int (k : Int)) (fun _ => rfl)]
  rfl
theorem toP_dQ (s r : List Nat) : toP (dQ s r) = some (qP s r) := by
  have := toP_dT r
  unfold dQ
  rw [toP, toPs, toPs, toPs, this]
  rfl
theorem nums_row : ∀ r : List Nat, numPs (r.map fun k : Nat => PyData.int (k : Int)) = true
  | [] => rfl
  | x :: r => by rw [List.map_cons, numPs, nums_row r]; rfl
theorem num_qP (s r : List Nat) : numP (qP s r) = true := by
  unfold qP
  rw [numP, numPs, numPs, numPs, numP, numP, nums_row]; rfl
def rights (s : List Nat) (f : Nat) : List Str := if bestL s f = [] then ["None"] else (bestL s f).map fun r => (qP s r).shown
theorem tx_right {s : List Nat} {f : Nat} (hp : 1 ≤ s.sum) (hh : 1 ≤ s.length) (hf : f < s.length) {S : Store} {t : D} (h : ThS S t) : tx t ∈ rights s f ↔ IsRight s f t := by
  rw [right_best hp hh hf]
  unfold rights
  have same : ∀ {t u : D} {p : PyData}, toP t = some p → toP u = some p → t = u := fun h1 h2 => by rw [← ofP_toP _ _ h1, ← ofP_toP _ _ h2]
  have txp : ∀ {p : PyData}, toP t = some p → tx t = p.shown := fun {p} e => by
    have hf := flat_of e
    cases t <;> first | (show ((toP _).getD .none).shown = _; rw [e]; rfl) | cases hf
  by_cases c : bestL s f = []
  · rw [if_pos c, List.mem_singleton]
    constructor
    · intro e
      refine .inl ⟨c, ?_⟩
      rcases h with ⟨k, e2, _⟩ | ⟨p, e2, _⟩
      · subst e2
        exact absurd (show ("{}" : Str) = "None" from e) (by decide +kernel)
      · rw [txp e2] at e
        have := shown_none e
        subst this
        exact same e2 rfl
    · rintro (⟨_, e⟩ | ⟨r, hr, _⟩)
      · subst e; rfl
      · rw [c] at hr; cases hr
  · rw [if_neg c]
    constructor
    · intro e
      obtain ⟨r, hr, e⟩ := List.mem_map.mp e
      refine .inr ⟨r, hr, ?_⟩
      rcases h with ⟨k, e2, _⟩ | ⟨p, e2, _⟩
      · subst e2
        exfalso
        obtain ⟨l, e3⟩ := tup_fst [.int ((movedN s r : Nat) : Int), .tuple (r.map fun k : Nat => .int (k : Int))]
        have e4 : cs (tx (.loc k)) = 40 :: l := by rw [← e]; exact e3
        have e5 : cs (tx (.loc k)) = [123, 125] := by show cs ("{}" : Str) = _; decide +kernel
        rw [e5] at e4
        injection e4 with e4 _
        omega
      · rw [txp e2] at e
        have := shown_num (num_qP s r) e.symm
        subst this
        exact same e2 (toP_dQ s r)
    · rintro (⟨e, _⟩ | ⟨r, hr, e⟩)
      · exact absurd e c
      · subst e
        exact List.mem_map.mpr ⟨r, hr, (txp (toP_dQ s r)).symm⟩
end K60
set_option maxRecDepth 100000
set_option maxHeartbeats 8000000
namespace K60
open Mo L2 PySem Pm
theorem thing_turn {s : List Nat} {f : Nat} (hp : 1 ≤ s.sum ∧ s.sum ≤ 9) (hh : 1 ≤ s.length ∧ s.length ≤ 4) (hf : f < s.length) {S : Store} {t : D} (h : ThS S t) (hR : ∀ y ∈ rights s f, PyData.strOk y = true) (x0 x3 x5 x6 x7 x9 x10 x11 : Option Slot) :
    b_l_right_3 [x0, some (.val (dT s)), some (.val (.int (f : Int))), x3, some (.val (.lst ((rights s f).map .str))), x5, x6, x7, some (.val t), x9, x10, x11] S = .ok (.nx [x0, some (.val (dT s)), some (.val (.int (f : Int))), x3, some (.val (.lst ((rights s f).map .str))), x5, x6, x7, some (.val t), some (.val (.str (tx t))), x10, x11]) S := by
  obtain ⟨e1, e2⟩ := tx_of h
  obtain ⟨b, e3, hb⟩ := shows_ok s f (by omega) (by omega) (by omega) hf t S (deep_of h)
  have hr := tx_right (S := S) hp.1 hh.1 hf h
  have e4 := in_strs false (tx t) (rights s f) S e2 hR
  have eb : (decide (tx t ∈ rights s f) != false) = b := by
    cases b with
    | true => rw [decide_eq_true (hr.mpr (hb.mp rfl))]; rfl
    | false => rw [decide_eq_false (fun z => by have := hb.mpr (hr.mp z); cases this)]; rfl
  rw [eb] at e4
  obtain ⟨y, ey⟩ : ∃ y, ∀ S, gReprV (.bl b) S = .ok (.str y) S := ⟨_, fun S => repr_nice (d := .bl b) ⟨rfl, by simp [nodesD], by simp [depthD]⟩ S⟩
  have ne : ∀ y : Str, (!decide (y = y)) = false := fun y => by simp
  unfold b_l_right_3
  simp only [bind_ok_eq, bind_bad_eq, mVar_eq, mC_eq, m2_eq, mNil_eq, mPass_eq, mSeq_eq, mSet_eq, mRet_eq, mDrop_eq, mIf_eq, mB_eq, isB_eq, mAndT_eq, mOrT_eq, mNotT_eq, mAnd_eq, mOr_eq, mNot_eq, mIfE_eq, mChain_eq, aNil_eq, aCons_eq, mTup_eq, mDisp_eq, mLst_eq, mLoc_eq, mOwnL_eq, mCall_eq, mCallK_eq, mAsg_eq, mFor_eq, iSeq_eq, iSeqD_lst, iSeqD_tup, iLst_eq, seqD_lst, iLoc_eq, locD_eq, iScr_eq, scrD_eq, iRange1_eq, iRange2_eq, iEnumM_eq, mLc_eq, mYes_eq, mQ_eq, mQL_eq, mA_eq, mB1_eq, hLen_eq, hTup_eq, hList_eq, hAbs_eq, hInt_eq, hIntB_eq, hMax2_eq, hMin2_eq, gNeg_eq, gI_eq, gI0_eq, gIx_tup, gIx_lst, gIx_scr, mSetC_eq, mApp_eq, mAppC_eq, qOwn_eq, gLen_tup, gLen_lst, gLen_scr, mDNewK_eq, mDGet2_eq, mDPut_eq, mDSet_eq, dictAt_eq, dictR_eq, keyD_int, keyD_str, mPar_eq, sNil_eq, sVal_eq, sOwnL_eq, setSl_nil, setSl_cons, setD_nil, setD_cons, pat_nm, pat_tp, pats_nil, pats_cons, wipeM_nil, wipeM_cons, forL_nil, lcL_nil, n2_eq, atI0, atI1, atI2, gNe_strs, gEq_strs, gNe_ints, gEq_ints, sz_1, sz_2, sz_3, sz_4, sz_5, sz_6, sz_7, sz_8, sz_9, sz_10, sz_11, sz_12, sz_13, sz_14, sz_15, sz_16, sz_17, sz_18, sz_19, sz_20, mLock_eq, nLock_eq, dictVar_eq, iKeysF_eq, keyV_inl, mRest_eq, restAt_eq, mExt_eq, iTup_eq, tupD_tup, mRetO_eq, gIsB_eq, gNotB_eq, gIsN_non, gIsN_int, gIsN_bl, gIsN_str, gIsN_tup, gIsN_lst, gIsN_loc, gNotN_non, gNotN_int, gNotN_bl, gNotN_str, gNotN_tup, gNotN_lst, gNotN_loc, iZip_eq, mAsg2_eq, mAug_eq, hSortedR_eq, mV_eq, mVL_eq, anyD_lst, anyD_tup, anyD_scr, anyD_loc, mIxO_eq, mSetO_eq, oNone_eq, oSome_eq, mSlT_eq, mSlQ_eq, mTruQ_eq, iRg1_eq, iRg2_eq, mNNew_eq, dictT_eq, mNGet1_eq, mNGet2_eq, gNGet_eq, gNIn_eq, putT_eq, setT_eq, mNPut_eq, mNSet_eq, mDGet1_eq, aStar_eq, mDCopy_eq, gDIn_eq, mIns_eq, mRevQ_eq, mKeysL_eq, mItemsL_eq, mDPop_eq, mBad_eq, mAsgS_eq, mAsgSS_eq, hStrI_eq, gReprA_loc, gReprA_tup, gReprA_lst, gReprA_non, gReprA_bl, gReprA_int, gReprA_str, mRevT_eq, Nat.zero_le, Nat.zero_add, Nat.reduceAdd, and_self, mDef_eq, List.getElem?_cons_zero, List.getElem?_cons_succ, List.set, List.length_cons, List.length_nil, List.map_cons, List.map_nil, List.replicate, List.cons_append, List.nil_append, List.append_nil, if_true, if_false, ite_true, ite_false, Bool.false_eq_true, Bool.true_eq_false, Bool.not_true, Bool.not_false, List.zip_cons_cons, List.zip_nil_left, e1, e3, e4, ey, decide_true, Bool.not_true, R.bind]
theorem things_ok {s : List Nat} {f : Nat} (hp : 1 ≤ s.sum ∧ s.sum ≤ 9) (hh : 1 ≤ s.length ∧ s.length ≤ 4) (hf : f < s.length) {S : Store} (hR : ∀ y ∈ rights s f, PyData.strOk y = true) (x0 x3 x5 x6 x7 x10 x11 : Option Slot) : ∀ (ts : List D) (x8 x9 : Option Slot), (∀ t ∈ ts, ThS S t) →
    ∃ y8 y9, mForL (.nm 8) b_l_right_3 ts [x0, some (.val (dT s)), some (.val (.int (f : Int))), x3, some (.val (.lst ((rights s f).map .str))), x5, x6, x7, x8, x9, x10, x11] S = .ok (.nx [x0, some (.val (dT s)), some (.val (.int (f : Int))), x3, some (.val (.lst ((rights s f).map .str))), x5, x6, x7, y8, y9, x10, x11]) S
  | [], x8, x9, _ => ⟨x8, x9, rfl⟩
  | t :: ts, x8, x9, h => by
    obtain ⟨y8, y9, e⟩ := things_ok hp hh hf hR x0 x3 x5 x6 x7 x10 x11 ts (some (.val t)) (some (.val (.str (tx t)))) fun u hu => h u (List.mem_cons_of_mem _ hu)
    have e1 := thing_turn hp hh hf (h t List.mem_cons_self) hR x0 x3 x5 x6 x7 x9 x10 x11
    refine ⟨y8, y9, ?_⟩
    have pb : (Pat.nm 8).bind t = some [(8, t)] := rfl
    rw [forL_cons, pb]
    dsimp only
    simp only [setD_cons, setD_nil, List.set]
    rw [e1, bind_ok_eq]
    exact e
end K60
set_option maxRecDepth 100000
set_option maxHeartbeats 8000000
namespace K60
open Mo L2 PySem Pm
theorem lay_all : ∀ r : List Nat, PyData.canLayAll0 (r.map fun k : Nat => PyData.int (k : Int)) = true
  | [] => rfl
  | x :: r => by rw [List.map_cons, PyData.canLayAll0, lay_all r]; rfl
theorem de_row : ∀ r : List Nat, PyData.depthAll (r.map fun k : Nat => PyData.int (k : Int)) ≤ 1
  | [] => by simp [PyData.depthAll]
  | x :: r => by
    have := de_row r
    rw [List.map_cons]; simp only [PyData.depthAll, PyData.depth]; omega
theorem ne_best (s : List Nat) (l : List (List Nat)) (S : Store) : gNeA (.lst (l.map (dQ s))) (.lst []) S = .ok (.bl (!l.isEmpty)) S := by
  have := eqD_nil (f := dQ s) (g := qP s) (toP_dQ s) (fun r => by unfold qP; simp [PyData.canLay0, PyData.canLayAll0, lay_all]) (fun r => by
    have := de_row r
    unfold qP
    simp only [PyData.depth, PyData.depthAll]; omega) l
  show gNe _ _ S = _
  unfold gNe
  rw [this]
theorem pl_pair {m : Nat} {r : List Nat} (hm : m ≤ 100) (hr : r.length ≤ 6) (hs : r.sum < 100) : Pl 1000 20 (.tup [.int (m : Int), dT r]) :=
  (Pl.two ((Pl.int (i := (m : Int)) (by omega)).mono (by omega) (by omega)) ((Pl.row (dL_pl hs) (by rw [dL_len]; omega)).mono (by omega) (by omega))).mono (by omega) (by omega)
theorem right_ok {S : Store} {n : Nat} {b : Int} (hw : Well S S n b) (hb : b < 2 ^ 17) (s : List Nat) (f : Nat) (hp : 1 ≤ s.sum ∧ s.sum ≤ 9) (hh : 1 ≤ s.length ∧ s.length ≤ 4) (hf : f < s.length) :
    ∃ S', m_l_right [.loc n, dT s, .int (f : Int)] S = .ok (.bl true) S' ∧ Well S S' n (b + 3) := by
  have e1 := best_fn s f hp hh hf S
  have hbl : ∀ r ∈ bestL s f, r.sum = s.sum ∧ r.length = s.length ∧ movedN s r ≤ 9 := fun r hr => by
    obtain ⟨h1, h2⟩ := all_le s f hh.1 r (List.mem_filter.mp hr).1
    have := moved_le s r
    exact ⟨h1, h2, by omega⟩
  have hlen : (bestL s f).length ≤ 1000 := Nat.le_trans (List.length_filter_le _ _) (Nat.le_trans (List.length_filter_le _ _) (all_len hp.2 hh.2))
  have zb : (bestL s f).length ≤ PySem.sizeLine := small_le (by omega)
  have plQ : ∀ r ∈ bestL s f, Pl 1000 20 (dQ s r) := fun r hr => by
    obtain ⟨h1, h2, h3⟩ := hbl r hr
    exact pl_pair (by omega) (by omega) (by omega)
  have hR : ∀ y ∈ rights s f, PyData.strOk y = true := fun y hy => by
    unfold rights at hy
    split at hy
    · rw [List.mem_singleton.mp hy]; exact ok_of _
    · obtain ⟨r, hr, e⟩ := List.mem_map.mp hy
      obtain ⟨p, e2, x⟩ := plQ r hr
      rw [toP_dQ] at e2
      cases e2
      rw [← e]; exact x.ok
  have ne := ne_best s (bestL s f)
  have et : mLcL (.nm 10) mYes e_l_right_1 ((bestL s f).map (dQ s)) [some (.val (.loc n)), some (.val (dT s)), some (.val (.int (f : Int))), some (.val (.lst ((bestL s f).map (dQ s)))), none, none, none, none, none, none, none, none] S = .ok ((bestL s f).map fun r => D.str (qP s r).shown) S := lcL_map _ fun r hr => ⟨_, rfl, by
    obtain ⟨p, e2, x⟩ := plQ r hr
    rw [toP_dQ] at e2
    cases e2
    have : gReprV (dQ s r) S = .ok (.str (qP s r).shown) S := gReprV_ok (toP_dQ s r) (x.shownOk (by omega) (by omega))
    unfold e_l_right_1
    simp [this]⟩
  have e6 := fun S => spread_ok s f (by omega) (by omega) (by omega) hf S
  have ea := fun S => all_ok s.sum s.length hp.2 hh S
  -- the texts, and the first one
  have first : ∃ (m0 : Nat) (r0 : List Nat) (S1 : Store), m0 ≤ 9 ∧ 1 ≤ r0.length ∧ r0.length ≤ 4 ∧ r0.sum ≤ 9 ∧ Well S S1 n (b + 1) ∧ b_l_right [some (.val (.loc n)), some (.val (dT s)), some (.val (.int (f : Int))), none, none, none, none, none, none, none, none, none] S = (mSeq (mSet 6 (mCall m_p_spread 2 [] (aCons (mVar 1) (aCons (mVar 2) aNil))))
    (mSeq (mSet 7 (mLst (mLc (iSeq (mCall m_l_all_shares 2 [] (aCons (mV hSum (mVar 1)) (aCons (mB1 gLen (mVar 1)) aNil)))) (.nm 11) [11] mYes e_l_right_2)))
    (mSeq (mFor (.nm 8) (iSeq (mLst (n2 gCatL (mLst (n2 gCatL (mLst (n2 gCatL (mLst (n2 gCatL (mVar 3) (mCall m_l_odd 2 [] (aCons (mVar 0) (aCons (mVar 5) aNil))))) (mCall m_l_odd 2 [] (aCons (mVar 0) (aCons (mTup (aCons (mC (.int 1)) (aCons (mVar 1) aNil))) aNil))))) (mLst (mDisp (aCons (mVar 6) aNil))))) (mVar 7))))
    b_l_right_3)
    (mRet (m2 gEqA (mB1 gReprV (mCallK m_p_shows_spread 3 0 3 (pickIx [2, 1, 0]) aNil (aCons (mVar 6) (aCons (mVar 2) (aCons (mVar 1) aNil))))) (mC (.str "True"))))))) [some (.val (.loc n)), some (.val (dT s)), some (.val (.int (f : Int))), some (.val (.lst ((bestL s f).map (dQ s)))), some (.val (.lst ((rights s f).map .str))), some (.val (.tup [.int (m0 : Int), .tup (dL r0)])), none, none, none, none, none, none] S1 := by
    have z1 : 1 ≤ PySem.sizeLine := by decide
    have z2 : 2 ≤ PySem.sizeLine := by decide
    by_cases c : bestL s f = []
    · refine ⟨0, s, S, by omega, hh.1, hh.2, hp.2, hw.mono (by omega), ?_⟩
      have er : rights s f = [("None" : Str)] := by unfold rights; rw [if_pos c]
      rw [c] at e1 ne
      rw [er, c]
      unfold b_l_right
      simp only [mSeq_eq]
      simp only [bind_ok_eq, bind_bad_eq, mVar_eq, mC_eq, m2_eq, mNil_eq, mPass_eq, mSeq_eq, mSet_eq, mRet_eq, mDrop_eq, mIf_eq, mB_eq, isB_eq, mAndT_eq, mOrT_eq, mNotT_eq, mAnd_eq, mOr_eq, mNot_eq, mIfE_eq, mChain_eq, aNil_eq, aCons_eq, mTup_eq, mDisp_eq, mLst_eq, mLoc_eq, mOwnL_eq, mCall_eq, mCallK_eq, mAsg_eq, mFor_eq, iSeq_eq, iSeqD_lst, iSeqD_tup, iLst_eq, seqD_lst, iLoc_eq, locD_eq, iScr_eq, scrD_eq, iRange1_eq, iRange2_eq, iEnumM_eq, mLc_eq, mYes_eq, mQ_eq, mQL_eq, mA_eq, mB1_eq, hLen_eq, hTup_eq, hList_eq, hAbs_eq, hInt_eq, hIntB_eq, hMax2_eq, hMin2_eq, gNeg_eq, gI_eq, gI0_eq, gIx_tup, gIx_lst, gIx_scr, mSetC_eq, mApp_eq, mAppC_eq, qOwn_eq, gLen_tup, gLen_lst, gLen_scr, mDNewK_eq, mDGet2_eq, mDPut_eq, mDSet_eq, dictAt_eq, dictR_eq, keyD_int, keyD_str, mPar_eq, sNil_eq, sVal_eq, sOwnL_eq, setSl_nil, setSl_cons, setD_nil, setD_cons, pat_nm, pat_tp, pats_nil, pats_cons, wipeM_nil, wipeM_cons, forL_nil, lcL_nil, n2_eq, atI0, atI1, atI2, gNe_strs, gEq_strs, gNe_ints, gEq_ints, sz_1, sz_2, sz_3, sz_4, sz_5, sz_6, sz_7, sz_8, sz_9, sz_10, sz_11, sz_12, sz_13, sz_14, sz_15, sz_16, sz_17, sz_18, sz_19, sz_20, mLock_eq, nLock_eq, dictVar_eq, iKeysF_eq, keyV_inl, mRest_eq, restAt_eq, mExt_eq, iTup_eq, tupD_tup, mRetO_eq, gIsB_eq, gNotB_eq, gIsN_non, gIsN_int, gIsN_bl, gIsN_str, gIsN_tup, gIsN_lst, gIsN_loc, gNotN_non, gNotN_int, gNotN_bl, gNotN_str, gNotN_tup, gNotN_lst, gNotN_loc, iZip_eq, mAsg2_eq, mAug_eq, hSortedR_eq, mV_eq, mVL_eq, anyD_lst, anyD_tup, anyD_scr, anyD_loc, mIxO_eq, mSetO_eq, oNone_eq, oSome_eq, mSlT_eq, mSlQ_eq, mTruQ_eq, iRg1_eq, iRg2_eq, mNNew_eq, dictT_eq, mNGet1_eq, mNGet2_eq, gNGet_eq, gNIn_eq, putT_eq, setT_eq, mNPut_eq, mNSet_eq, mDGet1_eq, aStar_eq, mDCopy_eq, gDIn_eq, mIns_eq, mRevQ_eq, mKeysL_eq, mItemsL_eq, mDPop_eq, mBad_eq, mAsgS_eq, mAsgSS_eq, hStrI_eq, gReprA_loc, gReprA_tup, gReprA_lst, gReprA_non, gReprA_bl, gReprA_int, gReprA_str, mRevT_eq, Nat.zero_le, Nat.zero_add, Nat.reduceAdd, and_self, mDef_eq, List.getElem?_cons_zero, List.getElem?_cons_succ, List.set, List.length_cons, List.length_nil, List.map_cons, List.map_nil, List.replicate, List.cons_append, List.nil_append, List.append_nil, if_true, if_false, ite_true, ite_false, Bool.false_eq_true, Bool.true_eq_false, Bool.not_true, Bool.not_false, List.zip_cons_cons, List.zip_nil_left, e1, ne, List.isEmpty_nil, Bool.not_true, z1, z2]
      rfl
    · obtain ⟨d, S1, e2, a1, b1, w1⟩ := take_ok (k := ((bestL s f).length : Int)) hw (by omega) (by have := List.length_pos_iff.mpr c; omega) (by omega)
      obtain ⟨j, hj, rfl⟩ : ∃ j : Nat, j < (bestL s f).length ∧ d = (j : Int) := ⟨d.toNat, by omega, by omega⟩
      have hmem := List.getElem_mem hj
      obtain ⟨h1, h2, h3⟩ := hbl _ hmem
      refine ⟨movedN s (bestL s f)[j], (bestL s f)[j], S1, h3, by omega, by omega, by omega, w1, ?_⟩
      have er : (bestL s f).map (fun r => D.str (qP s r).shown) = (rights s f).map .str := by
        unfold rights; rw [if_neg c, List.map_map]; rfl
      rw [er] at et
      have hi : (bestL s f).isEmpty = false := by
        cases q : bestL s f with
        | nil => exact absurd q c
        | cons x l => rfl
      rw [hi] at ne
      have zr : (rights s f).length ≤ PySem.sizeLine := by unfold rights; rw [if_neg c, List.length_map]; exact zb
      have eat : atI ((bestL s f).map (dQ s)) ((j : Nat) : Int) = some (.tup [.int ((movedN s (bestL s f)[j] : Nat) : Int), .tup (dL (bestL s f)[j])]) := by
        refine atI_nat ?_
        rw [List.getElem?_map, List.getElem?_eq_getElem hj]; rfl
      unfold b_l_right
      simp only [mSeq_eq]
      simp only [bind_ok_eq, bind_bad_eq, mVar_eq, mC_eq, m2_eq, mNil_eq, mPass_eq, mSeq_eq, mSet_eq, mRet_eq, mDrop_eq, mIf_eq, mB_eq, isB_eq, mAndT_eq, mOrT_eq, mNotT_eq, mAnd_eq, mOr_eq, mNot_eq, mIfE_eq, mChain_eq, aNil_eq, aCons_eq, mTup_eq, mDisp_eq, mLst_eq, mLoc_eq, mOwnL_eq, mCall_eq, mCallK_eq, mAsg_eq, mFor_eq, iSeq_eq, iSeqD_lst, iSeqD_tup, iLst_eq, seqD_lst, iLoc_eq, locD_eq, iScr_eq, scrD_eq, iRange1_eq, iRange2_eq, iEnumM_eq, mLc_eq, mYes_eq, mQ_eq, mQL_eq, mA_eq, mB1_eq, hLen_eq, hTup_eq, hList_eq, hAbs_eq, hInt_eq, hIntB_eq, hMax2_eq, hMin2_eq, gNeg_eq, gI_eq, gI0_eq, gIx_tup, gIx_lst, gIx_scr, mSetC_eq, mApp_eq, mAppC_eq, qOwn_eq, gLen_tup, gLen_lst, gLen_scr, mDNewK_eq, mDGet2_eq, mDPut_eq, mDSet_eq, dictAt_eq, dictR_eq, keyD_int, keyD_str, mPar_eq, sNil_eq, sVal_eq, sOwnL_eq, setSl_nil, setSl_cons, setD_nil, setD_cons, pat_nm, pat_tp, pats_nil, pats_cons, wipeM_nil, wipeM_cons, forL_nil, lcL_nil, n2_eq, atI0, atI1, atI2, gNe_strs, gEq_strs, gNe_ints, gEq_ints, sz_1, sz_2, sz_3, sz_4, sz_5, sz_6, sz_7, sz_8, sz_9, sz_10, sz_11, sz_12, sz_13, sz_14, sz_15, sz_16, sz_17, sz_18, sz_19, sz_20, mLock_eq, nLock_eq, dictVar_eq, iKeysF_eq, keyV_inl, mRest_eq, restAt_eq, mExt_eq, iTup_eq, tupD_tup, mRetO_eq, gIsB_eq, gNotB_eq, gIsN_non, gIsN_int, gIsN_bl, gIsN_str, gIsN_tup, gIsN_lst, gIsN_loc, gNotN_non, gNotN_int, gNotN_bl, gNotN_str, gNotN_tup, gNotN_lst, gNotN_loc, iZip_eq, mAsg2_eq, mAug_eq, hSortedR_eq, mV_eq, mVL_eq, anyD_lst, anyD_tup, anyD_scr, anyD_loc, mIxO_eq, mSetO_eq, oNone_eq, oSome_eq, mSlT_eq, mSlQ_eq, mTruQ_eq, iRg1_eq, iRg2_eq, mNNew_eq, dictT_eq, mNGet1_eq, mNGet2_eq, gNGet_eq, gNIn_eq, putT_eq, setT_eq, mNPut_eq, mNSet_eq, mDGet1_eq, aStar_eq, mDCopy_eq, gDIn_eq, mIns_eq, mRevQ_eq, mKeysL_eq, mItemsL_eq, mDPop_eq, mBad_eq, mAsgS_eq, mAsgSS_eq, hStrI_eq, gReprA_loc, gReprA_tup, gReprA_lst, gReprA_non, gReprA_bl, gReprA_int, gReprA_str, mRevT_eq, Nat.zero_le, Nat.zero_add, Nat.reduceAdd, and_self, mDef_eq, List.getElem?_cons_zero, List.getElem?_cons_succ, List.set, List.length_cons, List.length_nil, List.map_cons, List.map_nil, List.replicate, List.cons_append, List.nil_append, List.append_nil, if_true, if_false, ite_true, ite_false, Bool.false_eq_true, Bool.true_eq_false, Bool.not_true, Bool.not_false, List.zip_cons_cons, List.zip_nil_left, e1, ne, Bool.not_false, et, List.length_map, zr, e2, eat, gIx_lst]
      try rfl
  obtain ⟨m0, r0, S1, hm0, hr0, hr1, hs0, w1, eb⟩ := first
  obtain ⟨ts1, S2, k1, o1, l1, th1, hk1, hk1', w2⟩ := odd_ok (b := b + 1) ⟨⟨Nat.le_refl _, fun _ _ _ => rfl⟩, w1.2⟩ (by omega) m0 r0 hm0 ⟨hr0, hr1⟩ hs0
  obtain ⟨ts2, S3, k2, o2, l2, th2, hk2, hk2', w3⟩ := odd_ok (b := b + 1 + 1) ⟨⟨Nat.le_refl _, fun _ _ _ => rfl⟩, w2.2⟩ (by omega) 1 s (by omega) hh hp.2
  have wS3 : Well S S3 n (b + 3) := (w3.from (w2.from w1)).mono (by omega)
  have en : k1 ≠ n := by have := w1.lt; omega
  have q1 : S3[k1]? = some (.dK []) := w3.at en hk1
  have every := lcL_map (p := .nm 11) (me := e_l_right_2) (enc := dT) (f := fun r => D.tup [.int (m0 : Int), dT r]) (ρ := [some (.val (.loc n)), some (.val (dT s)), some (.val (.int (f : Int))), some (.val (.lst ((bestL s f).map (dQ s)))), some (.val (.lst ((rights s f).map .str))), some (.val (.tup [.int (m0 : Int), .tup (dL r0)])), some (.val (dO (spreadN s f))), none, none, none, none, none]) (S := S1) (allN s.sum s.length) (fun r hr => ⟨_, rfl, by
    unfold e_l_right_2
    simp⟩)
  have hal := all_len hp.2 hh.2
  have hall := all_row s.sum s.length hh.1
  have za : (allN s.sum s.length).length ≤ PySem.sizeLine := small_le (by omega)
  have told := told_right hp.1 hh.1 hf
  have thT : ThS S3 (dO (spreadN s f)) := by
    rcases (right_best hp.1 hh.1 hf _).mp told with ⟨_, e⟩ | ⟨r, hr, e⟩
    · rw [e]; exact .inr (Pl.non.mono (by omega) (by omega))
    · rw [e]; exact .inr (plQ r hr)
  have thAll : ∀ t ∈ ((bestL s f).map (dQ s) ++ ts1 ++ ts2 ++ [dO (spreadN s f)] ++ (allN s.sum s.length).map fun r => D.tup [.int (m0 : Int), dT r]), ThS S3 t := fun t ht => by
    rcases List.mem_append.mp ht with ht | ht
    · rcases List.mem_append.mp ht with ht | ht
      · rcases List.mem_append.mp ht with ht | ht
        · rcases List.mem_append.mp ht with ht | ht
          · obtain ⟨r, hr, e⟩ := List.mem_map.mp ht
            rw [← e]; exact .inr (plQ r hr)
          · rcases th1 t ht with e | h
            · exact .inl ⟨k1, e, q1⟩
            · exact .inr h
        · rcases th2 t ht with e | h
          · exact .inl ⟨k2, e, hk2⟩
          · exact .inr h
      · rw [List.mem_singleton.mp ht]; exact thT
    · obtain ⟨r, hr, e⟩ := List.mem_map.mp ht
      obtain ⟨h1, h2⟩ := hall r hr
      rw [← e]; exact .inr (pl_pair (by omega) (by omega) (by omega))
  obtain ⟨y8, y9, e8⟩ := things_ok hp hh hf (S := S3) hR (some (.val (.loc n))) (some (.val (.lst ((bestL s f).map (dQ s))))) (some (.val (.tup [.int (m0 : Int), .tup (dL r0)]))) (some (.val (dO (spreadN s f)))) (some (.val (.lst ((allN s.sum s.length).map fun r => D.tup [.int (m0 : Int), dT r])))) none none _ none none thAll
  obtain ⟨bb, e9, hbb⟩ := shows_ok s f (by omega) (by omega) (by omega) hf _ S3 (deep_of thT)
  rw [hbb.mpr told] at e9
  have eT : gReprV (.bl true) S3 = .ok (.str "True") S3 := repr_nice (d := .bl true) ⟨rfl, by simp [nodesD], by simp [depthD]⟩ S3
  have pk : pickIx [2, 1, 0] [] [dO (spreadN s f), .int (f : Int), dT s] = [dT s, .int (f : Int), dO (spreadN s f)] := rfl
  have c1 : ((bestL s f).map (dQ s)).length + ts1.length ≤ PySem.sizeLine := small_le (by rw [List.length_map]; omega)
  have c2 : ((bestL s f).map (dQ s) ++ ts1).length + ts2.length ≤ PySem.sizeLine := small_le (by rw [List.length_append, List.length_map]; omega)
  have c3 : ((bestL s f).map (dQ s) ++ ts1 ++ ts2).length + [dO (spreadN s f)].length ≤ PySem.sizeLine := small_le (by rw [List.length_append, List.length_append, List.length_map, List.length_singleton]; omega)
  have c4 : ((bestL s f).map (dQ s) ++ ts1 ++ ts2 ++ [dO (spreadN s f)]).length + ((allN s.sum s.length).map fun r => D.tup [.int (m0 : Int), dT r]).length ≤ PySem.sizeLine := small_le (by rw [List.length_append, List.length_append, List.length_append, List.length_map, List.length_map, List.length_singleton]; omega)
  have g1 : gCatL (.lst ((bestL s f).map (dQ s))) (.lst ts1) S2 = .ok ((bestL s f).map (dQ s) ++ ts1) S2 := by rw [catL_if, if_pos c1]
  have g2 : gCatL (.lst ((bestL s f).map (dQ s) ++ ts1)) (.lst ts2) S3 = .ok ((bestL s f).map (dQ s) ++ ts1 ++ ts2) S3 := by rw [catL_if, if_pos c2]
  have g3 : gCatL (.lst ((bestL s f).map (dQ s) ++ ts1 ++ ts2)) (.lst [dO (spreadN s f)]) S3 = .ok ((bestL s f).map (dQ s) ++ ts1 ++ ts2 ++ [dO (spreadN s f)]) S3 := by rw [catL_if, if_pos c3]
  have g4 : gCatL (.lst ((bestL s f).map (dQ s) ++ ts1 ++ ts2 ++ [dO (spreadN s f)])) (.lst ((allN s.sum s.length).map fun r => D.tup [.int (m0 : Int), dT r])) S3 = .ok ((bestL s f).map (dQ s) ++ ts1 ++ ts2 ++ [dO (spreadN s f)] ++ (allN s.sum s.length).map fun r => D.tup [.int (m0 : Int), dT r]) S3 := by rw [catL_if, if_pos c4]
  have z1 : 1 ≤ PySem.sizeLine := by decide
  have o2' : m_l_odd [.loc n, .tup [.int 1, dT s]] S2 = .ok (.lst ts2) S3 := o2
  have eB : b_l_right [some (.val (.loc n)), some (.val (dT s)), some (.val (.int (f : Int))), none, none, none, none, none, none, none, none, none] S = .ok (.rt (.bl true)) S3 := by
    rw [eb]
    have every' : mLcL (.nm 11) mYes e_l_right_2 (dLs (allN s.sum s.length)) [some (.val (.loc n)), some (.val (dT s)), some (.val (.int (f : Int))), some (.val (.lst ((bestL s f).map (dQ s)))), some (.val (.lst ((rights s f).map .str))), some (.val (.tup [.int (m0 : Int), .tup (dL r0)])), some (.val (dO (spreadN s f))), none, none, none, none, none] S1 = _ := every
    simp only [bind_ok_eq, bind_bad_eq, mVar_eq, mC_eq, m2_eq, mNil_eq, mPass_eq, mSeq_eq, mSet_eq, mRet_eq, mDrop_eq, mIf_eq, mB_eq, isB_eq, mAndT_eq, mOrT_eq, mNotT_eq, mAnd_eq, mOr_eq, mNot_eq, mIfE_eq, mChain_eq, aNil_eq, aCons_eq, mTup_eq, mDisp_eq, mLst_eq, mLoc_eq, mOwnL_eq, mCall_eq, mCallK_eq, mAsg_eq, mFor_eq, iSeq_eq, iSeqD_lst, iSeqD_tup, iLst_eq, seqD_lst, iLoc_eq, locD_eq, iScr_eq, scrD_eq, iRange1_eq, iRange2_eq, iEnumM_eq, mLc_eq, mYes_eq, mQ_eq, mQL_eq, mA_eq, mB1_eq, hLen_eq, hTup_eq, hList_eq, hAbs_eq, hInt_eq, hIntB_eq, hMax2_eq, hMin2_eq, gNeg_eq, gI_eq, gI0_eq, gIx_tup, gIx_lst, gIx_scr, mSetC_eq, mApp_eq, mAppC_eq, qOwn_eq, gLen_tup, gLen_lst, gLen_scr, mDNewK_eq, mDGet2_eq, mDPut_eq, mDSet_eq, dictAt_eq, dictR_eq, keyD_int, keyD_str, mPar_eq, sNil_eq, sVal_eq, sOwnL_eq, setSl_nil, setSl_cons, setD_nil, setD_cons, pat_nm, pat_tp, pats_nil, pats_cons, wipeM_nil, wipeM_cons, forL_nil, lcL_nil, n2_eq, atI0, atI1, atI2, gNe_strs, gEq_strs, gNe_ints, gEq_ints, sz_1, sz_2, sz_3, sz_4, sz_5, sz_6, sz_7, sz_8, sz_9, sz_10, sz_11, sz_12, sz_13, sz_14, sz_15, sz_16, sz_17, sz_18, sz_19, sz_20, mLock_eq, nLock_eq, dictVar_eq, iKeysF_eq, keyV_inl, mRest_eq, restAt_eq, mExt_eq, iTup_eq, tupD_tup, mRetO_eq, gIsB_eq, gNotB_eq, gIsN_non, gIsN_int, gIsN_bl, gIsN_str, gIsN_tup, gIsN_lst, gIsN_loc, gNotN_non, gNotN_int, gNotN_bl, gNotN_str, gNotN_tup, gNotN_lst, gNotN_loc, iZip_eq, mAsg2_eq, mAug_eq, hSortedR_eq, mV_eq, mVL_eq, anyD_lst, anyD_tup, anyD_scr, anyD_loc, mIxO_eq, mSetO_eq, oNone_eq, oSome_eq, mSlT_eq, mSlQ_eq, mTruQ_eq, iRg1_eq, iRg2_eq, mNNew_eq, dictT_eq, mNGet1_eq, mNGet2_eq, gNGet_eq, gNIn_eq, putT_eq, setT_eq, mNPut_eq, mNSet_eq, mDGet1_eq, aStar_eq, mDCopy_eq, gDIn_eq, mIns_eq, mRevQ_eq, mKeysL_eq, mItemsL_eq, mDPop_eq, mBad_eq, mAsgS_eq, mAsgSS_eq, hStrI_eq, gReprA_loc, gReprA_tup, gReprA_lst, gReprA_non, gReprA_bl, gReprA_int, gReprA_str, mRevT_eq, Nat.zero_le, Nat.zero_add, Nat.reduceAdd, and_self, mDef_eq, List.getElem?_cons_zero, List.getElem?_cons_succ, List.set, List.length_cons, List.length_nil, List.map_cons, List.map_nil, List.replicate, List.cons_append, List.nil_append, List.append_nil, if_true, if_false, ite_true, ite_false, Bool.false_eq_true, Bool.true_eq_false, Bool.not_true, Bool.not_false, List.zip_cons_cons, List.zip_nil_left, e6, ea, any_dT, sum_dL, len_dT, every', List.length_map, za, o1, g1, o2', g2, z1, g3, g4, e8, pk, e9, eT, decide_true]
  refine ⟨S3, ?_, wS3⟩
  unfold m_l_right
  simp only [bind_ok_eq, bind_bad_eq, mVar_eq, mC_eq, m2_eq, mNil_eq, mPass_eq, mSeq_eq, mSet_eq, mRet_eq, mDrop_eq, mIf_eq, mB_eq, isB_eq, mAndT_eq, mOrT_eq, mNotT_eq, mAnd_eq, mOr_eq, mNot_eq, mIfE_eq, mChain_eq, aNil_eq, aCons_eq, mTup_eq, mDisp_eq, mLst_eq, mLoc_eq, mOwnL_eq, mCall_eq, mCallK_eq, mAsg_eq, mFor_eq, iSeq_eq, iSeqD_lst, iSeqD_tup, iLst_eq, seqD_lst, iLoc_eq, locD_eq, iScr_eq, scrD_eq, iRange1_eq, iRange2_eq, iEnumM_eq, mLc_eq, mYes_eq, mQ_eq, mQL_eq, mA_eq, mB1_eq, hLen_eq, hTup_eq, hList_eq, hAbs_eq, hInt_eq, hIntB_eq, hMax2_eq, hMin2_eq, gNeg_eq, gI_eq, gI0_eq, gIx_tup, gIx_lst, gIx_scr, mSetC_eq, mApp_eq, mAppC_eq, qOwn_eq, gLen_tup, gLen_lst, gLen_scr, mDNewK_eq, mDGet2_eq, mDPut_eq, mDSet_eq, dictAt_eq, dictR_eq, keyD_int, keyD_str, mPar_eq, sNil_eq, sVal_eq, sOwnL_eq, setSl_nil, setSl_cons, setD_nil, setD_cons, pat_nm, pat_tp, pats_nil, pats_cons, wipeM_nil, wipeM_cons, forL_nil, lcL_nil, n2_eq, atI0, atI1, atI2, gNe_strs, gEq_strs, gNe_ints, gEq_ints, sz_1, sz_2, sz_3, sz_4, sz_5, sz_6, sz_7, sz_8, sz_9, sz_10, sz_11, sz_12, sz_13, sz_14, sz_15, sz_16, sz_17, sz_18, sz_19, sz_20, mLock_eq, nLock_eq, dictVar_eq, iKeysF_eq, keyV_inl, mRest_eq, restAt_eq, mExt_eq, iTup_eq, tupD_tup, mRetO_eq, gIsB_eq, gNotB_eq, gIsN_non, gIsN_int, gIsN_bl, gIsN_str, gIsN_tup, gIsN_lst, gIsN_loc, gNotN_non, gNotN_int, gNotN_bl, gNotN_str, gNotN_tup, gNotN_lst, gNotN_loc, iZip_eq, mAsg2_eq, mAug_eq, hSortedR_eq, mV_eq, mVL_eq, anyD_lst, anyD_tup, anyD_scr, anyD_loc, mIxO_eq, mSetO_eq, oNone_eq, oSome_eq, mSlT_eq, mSlQ_eq, mTruQ_eq, iRg1_eq, iRg2_eq, mNNew_eq, dictT_eq, mNGet1_eq, mNGet2_eq, gNGet_eq, gNIn_eq, putT_eq, setT_eq, mNPut_eq, mNSet_eq, mDGet1_eq, aStar_eq, mDCopy_eq, gDIn_eq, mIns_eq, mRevQ_eq, mKeysL_eq, mItemsL_eq, mDPop_eq, mBad_eq, mAsgS_eq, mAsgSS_eq, hStrI_eq, gReprA_loc, gReprA_tup, gReprA_lst, gReprA_non, gReprA_bl, gReprA_int, gReprA_str, mRevT_eq, Nat.zero_le, Nat.zero_add, Nat.reduceAdd, and_self, mDef_eq, List.getElem?_cons_zero, List.getElem?_cons_succ, List.set, List.length_cons, List.length_nil, List.map_cons, List.map_nil, List.replicate, List.cons_append, List.nil_append, List.append_nil, if_true, if_false, ite_true, ite_false, Bool.false_eq_true, Bool.true_eq_false, Bool.not_true, Bool.not_false, List.zip_cons_cons, List.zip_nil_left, eB]
end K60
set_option maxRecDepth 100000
set_option maxHeartbeats 4000000
namespace K60
open Mo L2 PySem Pm
theorem drawn_turn {Z S : Store} {n : Nat} {b : Int} (hw : Well Z S n b) (hb : b < 2 ^ 19) (s : List Nat) (h : Nat) (hs : s.length = h) (hh : 1 ≤ h ∧ h ≤ 4) (hsum : s.sum < 100) (x2 x4 x5 : Option Slot) :
    ∃ s' y5 S', b_l_drawn_2 [some (.val (.loc n)), some (.val (.int (h : Int))), x2, some (.own (.lst (dL s))), x4, x5] S = .ok (.nx [some (.val (.loc n)), some (.val (.int (h : Int))), x2, some (.own (.lst (dL s'))), x4, y5]) S' ∧ s'.length = h ∧ s'.sum = s.sum + 1 ∧ Well Z S' n (b + 3) := by
  obtain ⟨d1, S1, e1, a1, b1, w1⟩ := take_ok (k := (h : Int)) hw (by omega) (by omega) (by omega)
  have f1 : gSubI (.int (h : Int)) (.int 1) S1 = .ok (.int ((h - 1 : Nat) : Int)) S1 := sub_nat S1 (by omega)
  obtain ⟨d3, S3, e3, hd3, w3⟩ := of_ok (l := [.int 0, .int d1, .int ((h - 1 : Nat) : Int)]) w1 (by omega) (by simp) (by simp)
  obtain ⟨j, ej, hj⟩ : ∃ j : Nat, d3 = .int (j : Int) ∧ j < h := by
    simp only [List.mem_cons, List.not_mem_nil, or_false] at hd3
    rcases hd3 with e | e | e
    · exact ⟨0, e, by omega⟩
    · exact ⟨d1.toNat, by rw [e, Int.toNat_of_nonneg a1], by omega⟩
    · exact ⟨h - 1, e, by omega⟩
  subst ej
  have hjs : j < s.length := by omega
  have q1 := at_dL s j hjs
  have q2 : ixN (dL s).length (j : Int) = some j := ixN_nat (by rw [dL_len]; exact hjs)
  have q3 : gAddI (.int ((s[j] : Nat) : Int)) (.int 1) S3 = .ok (.int ((s[j] + 1 : Nat) : Int)) S3 := add_nat S3 (by omega)
  have q4 := set_dL s j (s[j] + 1)
  refine ⟨s.set j (s[j] + 1), some (.val (.int (j : Int))), S3, ?_, by rw [List.length_set, hs], sum_set s j hjs, w3.mono (by omega)⟩
  unfold b_l_drawn_2
  simp only [bind_ok_eq, bind_bad_eq, mVar_eq, mC_eq, m2_eq, mNil_eq, mPass_eq, mSeq_eq, mSet_eq, mRet_eq, mDrop_eq, mIf_eq, mB_eq, isB_eq, mAndT_eq, mOrT_eq, mNotT_eq, mAnd_eq, mOr_eq, mNot_eq, mIfE_eq, mChain_eq, aNil_eq, aCons_eq, mTup_eq, mDisp_eq, mLst_eq, mLoc_eq, mOwnL_eq, mCall_eq, mCallK_eq, mAsg_eq, mFor_eq, iSeq_eq, iSeqD_lst, iSeqD_tup, iLst_eq, seqD_lst, iLoc_eq, locD_eq, iScr_eq, scrD_eq, iEnumM_eq, mLc_eq, mYes_eq, mQ_eq, mQL_eq, mA_eq, mB1_eq, hLen_eq, hTup_eq, hList_eq, hAbs_eq, hInt_eq, hIntB_eq, gNeg_eq, gIx_tup, gIx_lst, gIx_scr, gIx_loc, mSetC_eq, putC_eq, mApp_eq, mAppC_eq, qOwn_eq, gLen_tup, gLen_lst, gLen_scr, mDNewK_eq, mDGet2_eq, mDPut_eq, mDSet_eq, dictAt_eq, dictR_eq, keyD_int, keyD_str, mPar_eq, sNil_eq, sVal_eq, sOwnL_eq, setSl_nil, setSl_cons, setD_nil, setD_cons, pat_nm, pat_tp, pats_nil, pats_cons, wipeM_nil, wipeM_cons, forL_nil, lcL_nil, n2_eq, atI0, atI1, atI2, gNe_strs, gEq_strs, gNe_ints, gEq_ints, sz_1, sz_2, sz_3, sz_4, sz_5, sz_6, sz_7, sz_8, sz_9, sz_10, sz_11, sz_12, sz_13, sz_14, sz_15, sz_16, sz_17, sz_18, sz_19, sz_20, mLock_eq, nLock_eq, dictVar_eq, iKeysF_eq, keyV_inl, mRest_eq, restAt_eq, mExt_eq, iTup_eq, tupD_tup, mRetO_eq, gIsB_eq, gNotB_eq, gIsN_non, gIsN_int, gIsN_bl, gIsN_str, gIsN_tup, gIsN_lst, gIsN_loc, gNotN_non, gNotN_int, gNotN_bl, gNotN_str, gNotN_tup, gNotN_lst, gNotN_loc, mAsg2_eq, mAug_eq, hSortedR_eq, mV_eq, mVL_eq, anyD_lst, anyD_tup, anyD_scr, anyD_loc, mIxO_eq, mSetO_eq, oNone_eq, oSome_eq, mSlT_eq, mSlQ_eq, mTruQ_eq, mNNew_eq, dictT_eq, mNGet1_eq, mNGet2_eq, gNGet_eq, gNIn_eq, putT_eq, setT_eq, mNPut_eq, mNSet_eq, mDGet1_eq, aStar_eq, mDCopy_eq, gDIn_eq, mIns_eq, mRevQ_eq, mKeysL_eq, mItemsL_eq, mDPop_eq, mBad_eq, mAsgS_eq, mAsgSS_eq, hStrI_eq, gReprA_loc, gReprA_tup, gReprA_lst, gReprA_non, gReprA_bl, gReprA_int, gReprA_str, mRevT_eq, Nat.zero_le, Nat.zero_add, Nat.reduceAdd, and_self, mDef_eq, List.getElem?_cons_zero, List.getElem?_cons_succ, List.set, List.length_cons, List.length_nil, List.map_cons, List.map_nil, List.replicate, List.cons_append, List.nil_append, List.append_nil, if_true, if_false, ite_true, ite_false, Bool.false_eq_true, Bool.true_eq_false, Bool.not_true, Bool.not_false, List.zip_cons_cons, List.zip_nil_left, e1, f1, e3, q1, q2, q3, q4]
theorem drawn_ok {Z S : Store} {n : Nat} {b : Int} (hw : Well Z S n b) (hb : b < 2 ^ 18) : ∃ s S', m_l_drawn [.loc n] S = .ok (dT s) S' ∧ (1 ≤ s.sum ∧ s.sum ≤ 9) ∧ (1 ≤ s.length ∧ s.length ≤ 4) ∧ Well Z S' n (b + 100) := by
  obtain ⟨d0, S0, e0, a0, b0, w0⟩ := take_ok (k := 4) hw (by omega) (by omega) (by omega)
  obtain ⟨d1, S1, e1, a1, b1, w1⟩ := take_ok (k := 7) w0 (by omega) (by omega) (by omega)
  obtain ⟨h, eh, hh⟩ : ∃ h : Nat, 1 + d0 = (h : Int) ∧ 1 ≤ h ∧ h ≤ 4 := ⟨(1 + d0).toNat, by omega, by omega, by omega⟩
  obtain ⟨p, ep, hp⟩ : ∃ p : Nat, 1 + d1 = (p : Int) ∧ 1 ≤ p ∧ p ≤ 9 := ⟨(1 + d1).toNat, by omega, by omega, by omega⟩
  have f1 : gAddI (.int 1) (.int d0) S0 = .ok (.int (h : Int)) S0 := add_nat S0 eh
  have f2 : gAddI (.int 1) (.int d1) S1 = .ok (.int (p : Int)) S1 := add_nat S1 ep
  have f3 : gRp (.lst [.int 0]) (.int (h : Int)) S1 = .ok (dL (List.replicate h 0)) S1 := by
    rw [gRep_nat _ h _ (by simp; omega) (by omega), flat_rep]
    unfold dL
    rw [List.map_replicate]
    rfl
  obtain ⟨ρ', S', e, ⟨s, y4, y5, rfl, hs1, hs2, hw'⟩⟩ := forL_inv (p := .nm 4) (mb := b_l_drawn_2) (enc := fun k : Nat => D.int (0 + (k : Nat))) (fun d ρ S' => ∃ s y4 y5, ρ = [some (.val (.loc n)), some (.val (.int (h : Int))), some (.val (.int (p : Int))), some (.own (.lst (dL s))), y4, y5] ∧ s.length = h ∧ s.sum = d.length ∧ Well Z S' n (b + 2 + 3 * d.length)) (List.range p) (ρ := [some (.val (.loc n)), some (.val (.int (h : Int))), some (.val (.int (p : Int))), some (.own (.lst (dL (List.replicate h 0)))), none, none]) (S := S1) ⟨_, _, _, rfl, by simp, by simp, w1.mono (by simp; omega)⟩ (by
    rintro d j r ρ S' e ⟨s, y4, y5, rfl, h1, h2, h3⟩
    have hd : d.length < p := by have := congrArg List.length e; simp at this; omega
    obtain ⟨s', z5, S2, e2, g1, g2, g3⟩ := drawn_turn h3 (by omega) s h h1 hh (by omega) (some (.val (.int (p : Int)))) (some (.val (.int (0 + (j : Nat))))) y5
    refine ⟨[(4, .int (0 + (j : Nat)))], _, S2, by simp, .inl e2, ⟨s', _, _, rfl, g1, by rw [g2, h2, List.length_append, List.length_singleton], g3.mono (by rw [List.length_append, List.length_singleton]; omega)⟩⟩)
  rw [List.length_range] at hs2 hw'
  have hr : i_l_drawn_1 [some (.val (.loc n)), some (.val (.int (h : Int))), some (.val (.int (p : Int))), some (.own (.lst (dL (List.replicate h 0)))), none, none] S1 = .ok ((List.range p).map fun k : Nat => D.int (0 + (k : Nat))) S1 := iRange1_nat (by simp only [bind_ok_eq, bind_bad_eq, mVar_eq, mC_eq, m2_eq, mNil_eq, mPass_eq, mSeq_eq, mSet_eq, mRet_eq, mDrop_eq, mIf_eq, mB_eq, isB_eq, mAndT_eq, mOrT_eq, mNotT_eq, mAnd_eq, mOr_eq, mNot_eq, mIfE_eq, mChain_eq, aNil_eq, aCons_eq, mTup_eq, mDisp_eq, mLst_eq, mLoc_eq, mOwnL_eq, mCall_eq, mCallK_eq, mAsg_eq, mFor_eq, iSeq_eq, iSeqD_lst, iSeqD_tup, iLst_eq, seqD_lst, iLoc_eq, locD_eq, iScr_eq, scrD_eq, iEnumM_eq, mLc_eq, mYes_eq, mQ_eq, mQL_eq, mA_eq, mB1_eq, hLen_eq, hTup_eq, hList_eq, hAbs_eq, hInt_eq, hIntB_eq, gNeg_eq, gIx_tup, gIx_lst, gIx_scr, gIx_loc, mSetC_eq, putC_eq, mApp_eq, mAppC_eq, qOwn_eq, gLen_tup, gLen_lst, gLen_scr, mDNewK_eq, mDGet2_eq, mDPut_eq, mDSet_eq, dictAt_eq, dictR_eq, keyD_int, keyD_str, mPar_eq, sNil_eq, sVal_eq, sOwnL_eq, setSl_nil, setSl_cons, setD_nil, setD_cons, pat_nm, pat_tp, pats_nil, pats_cons, wipeM_nil, wipeM_cons, forL_nil, lcL_nil, n2_eq, atI0, atI1, atI2, gNe_strs, gEq_strs, gNe_ints, gEq_ints, sz_1, sz_2, sz_3, sz_4, sz_5, sz_6, sz_7, sz_8, sz_9, sz_10, sz_11, sz_12, sz_13, sz_14, sz_15, sz_16, sz_17, sz_18, sz_19, sz_20, mLock_eq, nLock_eq, dictVar_eq, iKeysF_eq, keyV_inl, mRest_eq, restAt_eq, mExt_eq, iTup_eq, tupD_tup, mRetO_eq, gIsB_eq, gNotB_eq, gIsN_non, gIsN_int, gIsN_bl, gIsN_str, gIsN_tup, gIsN_lst, gIsN_loc, gNotN_non, gNotN_int, gNotN_bl, gNotN_str, gNotN_tup, gNotN_lst, gNotN_loc, mAsg2_eq, mAug_eq, hSortedR_eq, mV_eq, mVL_eq, anyD_lst, anyD_tup, anyD_scr, anyD_loc, mIxO_eq, mSetO_eq, oNone_eq, oSome_eq, mSlT_eq, mSlQ_eq, mTruQ_eq, mNNew_eq, dictT_eq, mNGet1_eq, mNGet2_eq, gNGet_eq, gNIn_eq, putT_eq, setT_eq, mNPut_eq, mNSet_eq, mDGet1_eq, aStar_eq, mDCopy_eq, gDIn_eq, mIns_eq, mRevQ_eq, mKeysL_eq, mItemsL_eq, mDPop_eq, mBad_eq, mAsgS_eq, mAsgSS_eq, hStrI_eq, gReprA_loc, gReprA_tup, gReprA_lst, gReprA_non, gReprA_bl, gReprA_int, gReprA_str, mRevT_eq, Nat.zero_le, Nat.zero_add, Nat.reduceAdd, and_self, mDef_eq, List.getElem?_cons_zero, List.getElem?_cons_succ, List.set, List.length_cons, List.length_nil, List.map_cons, List.map_nil, List.replicate, List.cons_append, List.nil_append, List.append_nil, if_true, if_false, ite_true, ite_false, Bool.false_eq_true, Bool.true_eq_false, Bool.not_true, Bool.not_false, List.zip_cons_cons, List.zip_nil_left]) (by omega)
  refine ⟨s, S', ?_, by omega, by omega, hw'.mono (by omega)⟩
  unfold m_l_drawn b_l_drawn
  simp only [bind_ok_eq, bind_bad_eq, mVar_eq, mC_eq, m2_eq, mNil_eq, mPass_eq, mSeq_eq, mSet_eq, mRet_eq, mDrop_eq, mIf_eq, mB_eq, isB_eq, mAndT_eq, mOrT_eq, mNotT_eq, mAnd_eq, mOr_eq, mNot_eq, mIfE_eq, mChain_eq, aNil_eq, aCons_eq, mTup_eq, mDisp_eq, mLst_eq, mLoc_eq, mOwnL_eq, mCall_eq, mCallK_eq, mAsg_eq, mFor_eq, iSeq_eq, iSeqD_lst, iSeqD_tup, iLst_eq, seqD_lst, iLoc_eq, locD_eq, iScr_eq, scrD_eq, iEnumM_eq, mLc_eq, mYes_eq, mQ_eq, mQL_eq, mA_eq, mB1_eq, hLen_eq, hTup_eq, hList_eq, hAbs_eq, hInt_eq, hIntB_eq, gNeg_eq, gIx_tup, gIx_lst, gIx_scr, gIx_loc, mSetC_eq, putC_eq, mApp_eq, mAppC_eq, qOwn_eq, gLen_tup, gLen_lst, gLen_scr, mDNewK_eq, mDGet2_eq, mDPut_eq, mDSet_eq, dictAt_eq, dictR_eq, keyD_int, keyD_str, mPar_eq, sNil_eq, sVal_eq, sOwnL_eq, setSl_nil, setSl_cons, setD_nil, setD_cons, pat_nm, pat_tp, pats_nil, pats_cons, wipeM_nil, wipeM_cons, forL_nil, lcL_nil, n2_eq, atI0, atI1, atI2, gNe_strs, gEq_strs, gNe_ints, gEq_ints, sz_1, sz_2, sz_3, sz_4, sz_5, sz_6, sz_7, sz_8, sz_9, sz_10, sz_11, sz_12, sz_13, sz_14, sz_15, sz_16, sz_17, sz_18, sz_19, sz_20, mLock_eq, nLock_eq, dictVar_eq, iKeysF_eq, keyV_inl, mRest_eq, restAt_eq, mExt_eq, iTup_eq, tupD_tup, mRetO_eq, gIsB_eq, gNotB_eq, gIsN_non, gIsN_int, gIsN_bl, gIsN_str, gIsN_tup, gIsN_lst, gIsN_loc, gNotN_non, gNotN_int, gNotN_bl, gNotN_str, gNotN_tup, gNotN_lst, gNotN_loc, mAsg2_eq, mAug_eq, hSortedR_eq, mV_eq, mVL_eq, anyD_lst, anyD_tup, anyD_scr, anyD_loc, mIxO_eq, mSetO_eq, oNone_eq, oSome_eq, mSlT_eq, mSlQ_eq, mTruQ_eq, mNNew_eq, dictT_eq, mNGet1_eq, mNGet2_eq, gNGet_eq, gNIn_eq, putT_eq, setT_eq, mNPut_eq, mNSet_eq, mDGet1_eq, aStar_eq, mDCopy_eq, gDIn_eq, mIns_eq, mRevQ_eq, mKeysL_eq, mItemsL_eq, mDPop_eq, mBad_eq, mAsgS_eq, mAsgSS_eq, hStrI_eq, gReprA_loc, gReprA_tup, gReprA_lst, gReprA_non, gReprA_bl, gReprA_int, gReprA_str, mRevT_eq, Nat.zero_le, Nat.zero_add, Nat.reduceAdd, and_self, mDef_eq, List.getElem?_cons_zero, List.getElem?_cons_succ, List.set, List.length_cons, List.length_nil, List.map_cons, List.map_nil, List.replicate, List.cons_append, List.nil_append, List.append_nil, if_true, if_false, ite_true, ite_false, Bool.false_eq_true, Bool.true_eq_false, Bool.not_true, Bool.not_false, List.zip_cons_cons, List.zip_nil_left, e0, f1, e1, f2, f3, hr, e]
  rfl
theorem law_turn {S : Store} {n : Nat} {b : Int} (hw : Well S S n b) (hb : b < 2 ^ 15) (ns k x3 x4 : Option Slot) : ∃ y4 S', b_p_law_3 [ns, k, some (.val (.loc n)), x3, x4] S = .ok (.nx [ns, k, some (.val (.loc n)), x3, y4]) S' ∧ Well S' S' n (b + 200) := by
  obtain ⟨s, S1, e1, hp, hh, w1⟩ := drawn_ok hw (by omega)
  obtain ⟨d, S2, e2, a2, b2, w2⟩ := take_ok (k := (s.length : Int)) w1 (by omega) (by omega) (by omega)
  obtain ⟨f, hf, rfl⟩ : ∃ j : Nat, j < s.length ∧ d = (j : Int) := ⟨d.toNat, by omega, by omega⟩
  obtain ⟨S3, e3, w3⟩ := right_ok w2.now (by omega) s f hp hh hf
  refine ⟨some (.val (dT s)), S3, ?_, w3.now.mono (by omega)⟩
  unfold b_p_law_3
  simp only [bind_ok_eq, bind_bad_eq, mVar_eq, mC_eq, m2_eq, mNil_eq, mPass_eq, mSeq_eq, mSet_eq, mRet_eq, mDrop_eq, mIf_eq, mB_eq, isB_eq, mAndT_eq, mOrT_eq, mNotT_eq, mAnd_eq, mOr_eq, mNot_eq, mIfE_eq, mChain_eq, aNil_eq, aCons_eq, mTup_eq, mDisp_eq, mLst_eq, mLoc_eq, mOwnL_eq, mCall_eq, mCallK_eq, mAsg_eq, mFor_eq, iSeq_eq, iSeqD_lst, iSeqD_tup, iLst_eq, seqD_lst, iLoc_eq, locD_eq, iScr_eq, scrD_eq, iEnumM_eq, mLc_eq, mYes_eq, mQ_eq, mQL_eq, mA_eq, mB1_eq, hLen_eq, hTup_eq, hList_eq, hAbs_eq, hInt_eq, hIntB_eq, gNeg_eq, gIx_tup, gIx_lst, gIx_scr, gIx_loc, mSetC_eq, putC_eq, mApp_eq, mAppC_eq, qOwn_eq, gLen_tup, gLen_lst, gLen_scr, mDNewK_eq, mDGet2_eq, mDPut_eq, mDSet_eq, dictAt_eq, dictR_eq, keyD_int, keyD_str, mPar_eq, sNil_eq, sVal_eq, sOwnL_eq, setSl_nil, setSl_cons, setD_nil, setD_cons, pat_nm, pat_tp, pats_nil, pats_cons, wipeM_nil, wipeM_cons, forL_nil, lcL_nil, n2_eq, atI0, atI1, atI2, gNe_strs, gEq_strs, gNe_ints, gEq_ints, sz_1, sz_2, sz_3, sz_4, sz_5, sz_6, sz_7, sz_8, sz_9, sz_10, sz_11, sz_12, sz_13, sz_14, sz_15, sz_16, sz_17, sz_18, sz_19, sz_20, mLock_eq, nLock_eq, dictVar_eq, iKeysF_eq, keyV_inl, mRest_eq, restAt_eq, mExt_eq, iTup_eq, tupD_tup, mRetO_eq, gIsB_eq, gNotB_eq, gIsN_non, gIsN_int, gIsN_bl, gIsN_str, gIsN_tup, gIsN_lst, gIsN_loc, gNotN_non, gNotN_int, gNotN_bl, gNotN_str, gNotN_tup, gNotN_lst, gNotN_loc, mAsg2_eq, mAug_eq, hSortedR_eq, mV_eq, mVL_eq, anyD_lst, anyD_tup, anyD_scr, anyD_loc, mIxO_eq, mSetO_eq, oNone_eq, oSome_eq, mSlT_eq, mSlQ_eq, mTruQ_eq, mNNew_eq, dictT_eq, mNGet1_eq, mNGet2_eq, gNGet_eq, gNIn_eq, putT_eq, setT_eq, mNPut_eq, mNSet_eq, mDGet1_eq, aStar_eq, mDCopy_eq, gDIn_eq, mIns_eq, mRevQ_eq, mKeysL_eq, mItemsL_eq, mDPop_eq, mBad_eq, mAsgS_eq, mAsgSS_eq, hStrI_eq, gReprA_loc, gReprA_tup, gReprA_lst, gReprA_non, gReprA_bl, gReprA_int, gReprA_str, mRevT_eq, Nat.zero_le, Nat.zero_add, Nat.reduceAdd, and_self, mDef_eq, List.getElem?_cons_zero, List.getElem?_cons_succ, List.set, List.length_cons, List.length_nil, List.map_cons, List.map_nil, List.replicate, List.cons_append, List.nil_append, List.append_nil, if_true, if_false, ite_true, ite_false, Bool.false_eq_true, Bool.true_eq_false, Bool.not_true, Bool.not_false, List.zip_cons_cons, List.zip_nil_left, e1, len_dT, e2, e3, isB_eq]
theorem law_round {S : Store} {ns : List Int} {k : Nat} (hk : k < 100) (x2 x3 x4 : Option Slot) :
    ∃ y2 y3 y4 S', b_p_law_4 [some (.val (.scr ns)), some (.val (.int k)), x2, x3, x4] S = .ok (.nx [some (.val (.scr ns)), some (.val (.int k)), y2, y3, y4]) S' := by
  obtain ⟨S1, e1, w1⟩ := box_ok ns k hk S
  obtain ⟨ρ', S', e4, ⟨y3, y4, rfl, _⟩⟩ := forL_inv (p := .nm 3) (mb := b_p_law_3) (enc := fun j : Nat => D.int (0 + (j : Nat))) (fun d ρ S' => ∃ y3 y4, ρ = [some (.val (.scr ns)), some (.val (.int k)), some (.val (.loc S.length)), y3, y4] ∧ Well S' S' S.length (200 * d.length)) (List.range 4) (ρ := [some (.val (.scr ns)), some (.val (.int k)), some (.val (.loc S.length)), x3, x4]) (S := S1) ⟨x3, x4, rfl, w1.now.mono (by simp)⟩ (by
    rintro d j r ρ S' e ⟨y3, y4, rfl, hw⟩
    have hd : d.length < 4 := by have := congrArg List.length e; simp at this; omega
    obtain ⟨z4, S2, e2, w2⟩ := law_turn hw (by omega) (some (.val (.scr ns))) (some (.val (.int k))) (some (.val (.int (0 + (j : Nat))))) y4
    exact ⟨[(3, .int (0 + (j : Nat)))], _, S2, by simp, .inl e2, ⟨_, _, rfl, w2.mono (by rw [List.length_append, List.length_singleton]; omega)⟩⟩)
  have hr : i_p_law_2 [some (.val (.scr ns)), some (.val (.int k)), some (.val (.loc S.length)), x3, x4] S1 = .ok ((List.range 4).map fun k : Nat => D.int (0 + (k : Nat))) S1 := iRange1_lit (j := 4) 4 (by simp only [bind_ok_eq, bind_bad_eq, mVar_eq, mC_eq, m2_eq, mNil_eq, mPass_eq, mSeq_eq, mSet_eq, mRet_eq, mDrop_eq, mIf_eq, mB_eq, isB_eq, mAndT_eq, mOrT_eq, mNotT_eq, mAnd_eq, mOr_eq, mNot_eq, mIfE_eq, mChain_eq, aNil_eq, aCons_eq, mTup_eq, mDisp_eq, mLst_eq, mLoc_eq, mOwnL_eq, mCall_eq, mCallK_eq, mAsg_eq, mFor_eq, iSeq_eq, iSeqD_lst, iSeqD_tup, iLst_eq, seqD_lst, iLoc_eq, locD_eq, iScr_eq, scrD_eq, iEnumM_eq, mLc_eq, mYes_eq, mQ_eq, mQL_eq, mA_eq, mB1_eq, hLen_eq, hTup_eq, hList_eq, hAbs_eq, hInt_eq, hIntB_eq, gNeg_eq, gIx_tup, gIx_lst, gIx_scr, gIx_loc, mSetC_eq, putC_eq, mApp_eq, mAppC_eq, qOwn_eq, gLen_tup, gLen_lst, gLen_scr, mDNewK_eq, mDGet2_eq, mDPut_eq, mDSet_eq, dictAt_eq, dictR_eq, keyD_int, keyD_str, mPar_eq, sNil_eq, sVal_eq, sOwnL_eq, setSl_nil, setSl_cons, setD_nil, setD_cons, pat_nm, pat_tp, pats_nil, pats_cons, wipeM_nil, wipeM_cons, forL_nil, lcL_nil, n2_eq, atI0, atI1, atI2, gNe_strs, gEq_strs, gNe_ints, gEq_ints, sz_1, sz_2, sz_3, sz_4, sz_5, sz_6, sz_7, sz_8, sz_9, sz_10, sz_11, sz_12, sz_13, sz_14, sz_15, sz_16, sz_17, sz_18, sz_19, sz_20, mLock_eq, nLock_eq, dictVar_eq, iKeysF_eq, keyV_inl, mRest_eq, restAt_eq, mExt_eq, iTup_eq, tupD_tup, mRetO_eq, gIsB_eq, gNotB_eq, gIsN_non, gIsN_int, gIsN_bl, gIsN_str, gIsN_tup, gIsN_lst, gIsN_loc, gNotN_non, gNotN_int, gNotN_bl, gNotN_str, gNotN_tup, gNotN_lst, gNotN_loc, mAsg2_eq, mAug_eq, hSortedR_eq, mV_eq, mVL_eq, anyD_lst, anyD_tup, anyD_scr, anyD_loc, mIxO_eq, mSetO_eq, oNone_eq, oSome_eq, mSlT_eq, mSlQ_eq, mTruQ_eq, mNNew_eq, dictT_eq, mNGet1_eq, mNGet2_eq, gNGet_eq, gNIn_eq, putT_eq, setT_eq, mNPut_eq, mNSet_eq, mDGet1_eq, aStar_eq, mDCopy_eq, gDIn_eq, mIns_eq, mRevQ_eq, mKeysL_eq, mItemsL_eq, mDPop_eq, mBad_eq, mAsgS_eq, mAsgSS_eq, hStrI_eq, gReprA_loc, gReprA_tup, gReprA_lst, gReprA_non, gReprA_bl, gReprA_int, gReprA_str, mRevT_eq, Nat.zero_le, Nat.zero_add, Nat.reduceAdd, and_self, mDef_eq, List.getElem?_cons_zero, List.getElem?_cons_succ, List.set, List.length_cons, List.length_nil, List.map_cons, List.map_nil, List.replicate, List.cons_append, List.nil_append, List.append_nil, if_true, if_false, ite_true, ite_false, Bool.false_eq_true, Bool.true_eq_false, Bool.not_true, Bool.not_false, List.zip_cons_cons, List.zip_nil_left]) rfl (by omega)
  refine ⟨some (.val (.loc S.length)), y3, y4, S', ?_⟩
  unfold b_p_law_4
  simp only [bind_ok_eq, bind_bad_eq, mVar_eq, mC_eq, m2_eq, mNil_eq, mPass_eq, mSeq_eq, mSet_eq, mRet_eq, mDrop_eq, mIf_eq, mB_eq, isB_eq, mAndT_eq, mOrT_eq, mNotT_eq, mAnd_eq, mOr_eq, mNot_eq, mIfE_eq, mChain_eq, aNil_eq, aCons_eq, mTup_eq, mDisp_eq, mLst_eq, mLoc_eq, mOwnL_eq, mCall_eq, mCallK_eq, mAsg_eq, mFor_eq, iSeq_eq, iSeqD_lst, iSeqD_tup, iLst_eq, seqD_lst, iLoc_eq, locD_eq, iScr_eq, scrD_eq, iEnumM_eq, mLc_eq, mYes_eq, mQ_eq, mQL_eq, mA_eq, mB1_eq, hLen_eq, hTup_eq, hList_eq, hAbs_eq, hInt_eq, hIntB_eq, gNeg_eq, gIx_tup, gIx_lst, gIx_scr, gIx_loc, mSetC_eq, putC_eq, mApp_eq, mAppC_eq, qOwn_eq, gLen_tup, gLen_lst, gLen_scr, mDNewK_eq, mDGet2_eq, mDPut_eq, mDSet_eq, dictAt_eq, dictR_eq, keyD_int, keyD_str, mPar_eq, sNil_eq, sVal_eq, sOwnL_eq, setSl_nil, setSl_cons, setD_nil, setD_cons, pat_nm, pat_tp, pats_nil, pats_cons, wipeM_nil, wipeM_cons, forL_nil, lcL_nil, n2_eq, atI0, atI1, atI2, gNe_strs, gEq_strs, gNe_ints, gEq_ints, sz_1, sz_2, sz_3, sz_4, sz_5, sz_6, sz_7, sz_8, sz_9, sz_10, sz_11, sz_12, sz_13, sz_14, sz_15, sz_16, sz_17, sz_18, sz_19, sz_20, mLock_eq, nLock_eq, dictVar_eq, iKeysF_eq, keyV_inl, mRest_eq, restAt_eq, mExt_eq, iTup_eq, tupD_tup, mRetO_eq, gIsB_eq, gNotB_eq, gIsN_non, gIsN_int, gIsN_bl, gIsN_str, gIsN_tup, gIsN_lst, gIsN_loc, gNotN_non, gNotN_int, gNotN_bl, gNotN_str, gNotN_tup, gNotN_lst, gNotN_loc, mAsg2_eq, mAug_eq, hSortedR_eq, mV_eq, mVL_eq, anyD_lst, anyD_tup, anyD_scr, anyD_loc, mIxO_eq, mSetO_eq, oNone_eq, oSome_eq, mSlT_eq, mSlQ_eq, mTruQ_eq, mNNew_eq, dictT_eq, mNGet1_eq, mNGet2_eq, gNGet_eq, gNIn_eq, putT_eq, setT_eq, mNPut_eq, mNSet_eq, mDGet1_eq, aStar_eq, mDCopy_eq, gDIn_eq, mIns_eq, mRevQ_eq, mKeysL_eq, mItemsL_eq, mDPop_eq, mBad_eq, mAsgS_eq, mAsgSS_eq, hStrI_eq, gReprA_loc, gReprA_tup, gReprA_lst, gReprA_non, gReprA_bl, gReprA_int, gReprA_str, mRevT_eq, Nat.zero_le, Nat.zero_add, Nat.reduceAdd, and_self, mDef_eq, List.getElem?_cons_zero, List.getElem?_cons_succ, List.set, List.length_cons, List.length_nil, List.map_cons, List.map_nil, List.replicate, List.cons_append, List.nil_append, List.append_nil, if_true, if_false, ite_true, ite_false, Bool.false_eq_true, Bool.true_eq_false, Bool.not_true, Bool.not_false, List.zip_cons_cons, List.zip_nil_left, e1, hr, e4]
theorem rounds_nat (n m : Nat) (hm : 1 ≤ m) (S : Store) : ∃ r : Nat, r ≤ m ∧ (∀ S', hMin2 [.int (m : Int), .int (n : Int)] S' = .ok (.int ((min m n : Nat) : Int)) S') ∧ (∀ S', hMax2 [.int 1, .int ((min m n : Nat) : Int)] S' = .ok (.int (r : Int)) S') := by
  refine ⟨max 1 (min m n), by omega, fun S' => min2 m n S', fun S' => ?_⟩
  exact max2 1 (min m n) S'
theorem law_true (ns : List Int) (h : ns.length ≤ 63) : ∃ S', m_p_law [.scr ns] [] = .ok (.bl true) S' := by
  obtain ⟨r, hr, q1, q2⟩ := rounds_nat ns.length 3 (by omega) []
  obtain ⟨ρ', S', e, ⟨y1, y2, y3, y4, rfl⟩⟩ := forL_inv (p := .nm 1) (mb := b_p_law_4) (enc := fun k : Nat => D.int (0 + (k : Nat))) (fun _ ρ _ => ∃ y1 y2 y3 y4, ρ = [some (.val (.scr ns)), y1, y2, y3, y4]) (List.range r) (ρ := [some (.val (.scr ns)), none, none, none, none]) (S := []) ⟨_, _, _, _, rfl⟩ (by
    rintro d k rr ρ S' e ⟨y1, y2, y3, y4, rfl⟩
    have hk : k < 100 := by
      have : k ∈ List.range r := by rw [e]; simp
      have := List.mem_range.mp this
      omega
    obtain ⟨z2, z3, z4, S2, e2⟩ := law_round (S := S') (ns := ns) hk y2 y3 y4
    refine ⟨[(1, .int (0 + (k : Nat)))], _, S2, by simp, .inl (Eq.trans ?_ e2), ⟨_, _, _, _, rfl⟩⟩
    rw [setD_cons, setD_nil, Int.zero_add]
    rfl)
  have hr : i_p_law_1 [some (.val (.scr ns)), none, none, none, none] [] = .ok ((List.range r).map fun k : Nat => D.int (0 + (k : Nat))) [] := iRange1_nat (by simp only [bind_ok_eq, bind_bad_eq, mVar_eq, mC_eq, m2_eq, mNil_eq, mPass_eq, mSeq_eq, mSet_eq, mRet_eq, mDrop_eq, mIf_eq, mB_eq, isB_eq, mAndT_eq, mOrT_eq, mNotT_eq, mAnd_eq, mOr_eq, mNot_eq, mIfE_eq, mChain_eq, aNil_eq, aCons_eq, mTup_eq, mDisp_eq, mLst_eq, mLoc_eq, mOwnL_eq, mCall_eq, mCallK_eq, mAsg_eq, mFor_eq, iSeq_eq, iSeqD_lst, iSeqD_tup, iLst_eq, seqD_lst, iLoc_eq, locD_eq, iScr_eq, scrD_eq, iEnumM_eq, mLc_eq, mYes_eq, mQ_eq, mQL_eq, mA_eq, mB1_eq, hLen_eq, hTup_eq, hList_eq, hAbs_eq, hInt_eq, hIntB_eq, gNeg_eq, gIx_tup, gIx_lst, gIx_scr, gIx_loc, mSetC_eq, putC_eq, mApp_eq, mAppC_eq, qOwn_eq, gLen_tup, gLen_lst, gLen_scr, mDNewK_eq, mDGet2_eq, mDPut_eq, mDSet_eq, dictAt_eq, dictR_eq, keyD_int, keyD_str, mPar_eq, sNil_eq, sVal_eq, sOwnL_eq, setSl_nil, setSl_cons, setD_nil, setD_cons, pat_nm, pat_tp, pats_nil, pats_cons, wipeM_nil, wipeM_cons, forL_nil, lcL_nil, n2_eq, atI0, atI1, atI2, gNe_strs, gEq_strs, gNe_ints, gEq_ints, sz_1, sz_2, sz_3, sz_4, sz_5, sz_6, sz_7, sz_8, sz_9, sz_10, sz_11, sz_12, sz_13, sz_14, sz_15, sz_16, sz_17, sz_18, sz_19, sz_20, mLock_eq, nLock_eq, dictVar_eq, iKeysF_eq, keyV_inl, mRest_eq, restAt_eq, mExt_eq, iTup_eq, tupD_tup, mRetO_eq, gIsB_eq, gNotB_eq, gIsN_non, gIsN_int, gIsN_bl, gIsN_str, gIsN_tup, gIsN_lst, gIsN_loc, gNotN_non, gNotN_int, gNotN_bl, gNotN_str, gNotN_tup, gNotN_lst, gNotN_loc, mAsg2_eq, mAug_eq, hSortedR_eq, mV_eq, mVL_eq, anyD_lst, anyD_tup, anyD_scr, anyD_loc, mIxO_eq, mSetO_eq, oNone_eq, oSome_eq, mSlT_eq, mSlQ_eq, mTruQ_eq, mNNew_eq, dictT_eq, mNGet1_eq, mNGet2_eq, gNGet_eq, gNIn_eq, putT_eq, setT_eq, mNPut_eq, mNSet_eq, mDGet1_eq, aStar_eq, mDCopy_eq, gDIn_eq, mIns_eq, mRevQ_eq, mKeysL_eq, mItemsL_eq, mDPop_eq, mBad_eq, mAsgS_eq, mAsgSS_eq, hStrI_eq, gReprA_loc, gReprA_tup, gReprA_lst, gReprA_non, gReprA_bl, gReprA_int, gReprA_str, mRevT_eq, Nat.zero_le, Nat.zero_add, Nat.reduceAdd, and_self, mDef_eq, List.getElem?_cons_zero, List.getElem?_cons_succ, List.set, List.length_cons, List.length_nil, List.map_cons, List.map_nil, List.replicate, List.cons_append, List.nil_append, List.append_nil, if_true, if_false, ite_true, ite_false, Bool.false_eq_true, Bool.true_eq_false, Bool.not_true, Bool.not_false, List.zip_cons_cons, List.zip_nil_left, gLen_scr]; rw [show hMin2 [.int 3, .int (ns.length : Int)] [] = _ from q1 []]; simp only [bind_ok_eq, bind_bad_eq, mVar_eq, mC_eq, m2_eq, mNil_eq, mPass_eq, mSeq_eq, mSet_eq, mRet_eq, mDrop_eq, mIf_eq, mB_eq, isB_eq, mAndT_eq, mOrT_eq, mNotT_eq, mAnd_eq, mOr_eq, mNot_eq, mIfE_eq, mChain_eq, aNil_eq, aCons_eq, mTup_eq, mDisp_eq, mLst_eq, mLoc_eq, mOwnL_eq, mCall_eq, mCallK_eq, mAsg_eq, mFor_eq, iSeq_eq, iSeqD_lst, iSeqD_tup, iLst_eq, seqD_lst, iLoc_eq, locD_eq, iScr_eq, scrD_eq, iEnumM_eq, mLc_eq, mYes_eq, mQ_eq, mQL_eq, mA_eq, mB1_eq, hLen_eq, hTup_eq, hList_eq, hAbs_eq, hInt_eq, hIntB_eq, gNeg_eq, gIx_tup, gIx_lst, gIx_scr, gIx_loc, mSetC_eq, putC_eq, mApp_eq, mAppC_eq, qOwn_eq, gLen_tup, gLen_lst, gLen_scr, mDNewK_eq, mDGet2_eq, mDPut_eq, mDSet_eq, dictAt_eq, dictR_eq, keyD_int, keyD_str, mPar_eq, sNil_eq, sVal_eq, sOwnL_eq, setSl_nil, setSl_cons, setD_nil, setD_cons, pat_nm, pat_tp, pats_nil, pats_cons, wipeM_nil, wipeM_cons, forL_nil, lcL_nil, n2_eq, atI0, atI1, atI2, gNe_strs, gEq_strs, gNe_ints, gEq_ints, sz_1, sz_2, sz_3, sz_4, sz_5, sz_6, sz_7, sz_8, sz_9, sz_10, sz_11, sz_12, sz_13, sz_14, sz_15, sz_16, sz_17, sz_18, sz_19, sz_20, mLock_eq, nLock_eq, dictVar_eq, iKeysF_eq, keyV_inl, mRest_eq, restAt_eq, mExt_eq, iTup_eq, tupD_tup, mRetO_eq, gIsB_eq, gNotB_eq, gIsN_non, gIsN_int, gIsN_bl, gIsN_str, gIsN_tup, gIsN_lst, gIsN_loc, gNotN_non, gNotN_int, gNotN_bl, gNotN_str, gNotN_tup, gNotN_lst, gNotN_loc, mAsg2_eq, mAug_eq, hSortedR_eq, mV_eq, mVL_eq, anyD_lst, anyD_tup, anyD_scr, anyD_loc, mIxO_eq, mSetO_eq, oNone_eq, oSome_eq, mSlT_eq, mSlQ_eq, mTruQ_eq, mNNew_eq, dictT_eq, mNGet1_eq, mNGet2_eq, gNGet_eq, gNIn_eq, putT_eq, setT_eq, mNPut_eq, mNSet_eq, mDGet1_eq, aStar_eq, mDCopy_eq, gDIn_eq, mIns_eq, mRevQ_eq, mKeysL_eq, mItemsL_eq, mDPop_eq, mBad_eq, mAsgS_eq, mAsgSS_eq, hStrI_eq, gReprA_loc, gReprA_tup, gReprA_lst, gReprA_non, gReprA_bl, gReprA_int, gReprA_str, mRevT_eq, Nat.zero_le, Nat.zero_add, Nat.reduceAdd, and_self, mDef_eq, List.getElem?_cons_zero, List.getElem?_cons_succ, List.set, List.length_cons, List.length_nil, List.map_cons, List.map_nil, List.replicate, List.cons_append, List.nil_append, List.append_nil, if_true, if_false, ite_true, ite_false, Bool.false_eq_true, Bool.true_eq_false, Bool.not_true, Bool.not_false, List.zip_cons_cons, List.zip_nil_left, q2]) (by omega)
  refine ⟨S', ?_⟩
  unfold m_p_law b_p_law
  simp only [bind_ok_eq, bind_bad_eq, mVar_eq, mC_eq, m2_eq, mNil_eq, mPass_eq, mSeq_eq, mSet_eq, mRet_eq, mDrop_eq, mIf_eq, mB_eq, isB_eq, mAndT_eq, mOrT_eq, mNotT_eq, mAnd_eq, mOr_eq, mNot_eq, mIfE_eq, mChain_eq, aNil_eq, aCons_eq, mTup_eq, mDisp_eq, mLst_eq, mLoc_eq, mOwnL_eq, mCall_eq, mCallK_eq, mAsg_eq, mFor_eq, iSeq_eq, iSeqD_lst, iSeqD_tup, iLst_eq, seqD_lst, iLoc_eq, locD_eq, iScr_eq, scrD_eq, iEnumM_eq, mLc_eq, mYes_eq, mQ_eq, mQL_eq, mA_eq, mB1_eq, hLen_eq, hTup_eq, hList_eq, hAbs_eq, hInt_eq, hIntB_eq, gNeg_eq, gIx_tup, gIx_lst, gIx_scr, gIx_loc, mSetC_eq, putC_eq, mApp_eq, mAppC_eq, qOwn_eq, gLen_tup, gLen_lst, gLen_scr, mDNewK_eq, mDGet2_eq, mDPut_eq, mDSet_eq, dictAt_eq, dictR_eq, keyD_int, keyD_str, mPar_eq, sNil_eq, sVal_eq, sOwnL_eq, setSl_nil, setSl_cons, setD_nil, setD_cons, pat_nm, pat_tp, pats_nil, pats_cons, wipeM_nil, wipeM_cons, forL_nil, lcL_nil, n2_eq, atI0, atI1, atI2, gNe_strs, gEq_strs, gNe_ints, gEq_ints, sz_1, sz_2, sz_3, sz_4, sz_5, sz_6, sz_7, sz_8, sz_9, sz_10, sz_11, sz_12, sz_13, sz_14, sz_15, sz_16, sz_17, sz_18, sz_19, sz_20, mLock_eq, nLock_eq, dictVar_eq, iKeysF_eq, keyV_inl, mRest_eq, restAt_eq, mExt_eq, iTup_eq, tupD_tup, mRetO_eq, gIsB_eq, gNotB_eq, gIsN_non, gIsN_int, gIsN_bl, gIsN_str, gIsN_tup, gIsN_lst, gIsN_loc, gNotN_non, gNotN_int, gNotN_bl, gNotN_str, gNotN_tup, gNotN_lst, gNotN_loc, mAsg2_eq, mAug_eq, hSortedR_eq, mV_eq, mVL_eq, anyD_lst, anyD_tup, anyD_scr, anyD_loc, mIxO_eq, mSetO_eq, oNone_eq, oSome_eq, mSlT_eq, mSlQ_eq, mTruQ_eq, mNNew_eq, dictT_eq, mNGet1_eq, mNGet2_eq, gNGet_eq, gNIn_eq, putT_eq, setT_eq, mNPut_eq, mNSet_eq, mDGet1_eq, aStar_eq, mDCopy_eq, gDIn_eq, mIns_eq, mRevQ_eq, mKeysL_eq, mItemsL_eq, mDPop_eq, mBad_eq, mAsgS_eq, mAsgSS_eq, hStrI_eq, gReprA_loc, gReprA_tup, gReprA_lst, gReprA_non, gReprA_bl, gReprA_int, gReprA_str, mRevT_eq, Nat.zero_le, Nat.zero_add, Nat.reduceAdd, and_self, mDef_eq, List.getElem?_cons_zero, List.getElem?_cons_succ, List.set, List.length_cons, List.length_nil, List.map_cons, List.map_nil, List.replicate, List.cons_append, List.nil_append, List.append_nil, if_true, if_false, ite_true, ite_false, Bool.false_eq_true, Bool.true_eq_false, Bool.not_true, Bool.not_false, List.zip_cons_cons, List.zip_nil_left, hr, e]
end K60
set_option maxRecDepth 100000
set_option maxHeartbeats 4000000
namespace K60
open PySem PySem.Spec PyProof.Rows L2 Mo Pm
theorem all_mk {l : PySem.W.OpenLaw} {w : World} {K : PySem.W.Frag} {h : Heap} {mg : Str → Option Value} {fa f0 f1 f2 f3 f4 f5 f6 f7 f8 f9 f10 f11 f12 f13 f14 f15 f16 f17 f18 : Addr} (X : K.In h) (G : h.Ns mainGlobals mg) (hfa : mg "law" = some (.ref fa))
    {od0 an0 od1 an1 od2 an2 od3 an3 od4 an4 od5 an5 od6 an6 od7 an7 od8 an8 od9 an9 od10 an10 od11 an11 od12 an12 od13 an13 od14 an14 od15 an15 od16 an16 od17 an17 od18 an18 : Option Addr} {sl0 sl1 sl2 sl3 sl4 sl5 sl6 sl7 sl8 sl9 sl10 sl11 sl12 sl13 sl14 sl15 sl16 sl17 sl18 : Array (Option Value)} {oc0 kV0 dc0 pm0 cd0 ct0 oc1 kV1 dc1 pm1 cd1 ct1 oc2 kV2 dc2 pm2 cd2 ct2 oc3 kV3 dc3 pm3 cd3 ct3 oc4 kV4 dc4 pm4 cd4 ct4 oc5 kV5 dc5 pm5 cd5 ct5 oc6 kV6 dc6 pm6 cd6 ct6 oc7 kV7 dc7 pm7 cd7 ct7 oc8 kV8 dc8 pm8 cd8 ct8 oc9 kV9 dc9 pm9 cd9 ct9 oc10 kV10 dc10 pm10 cd10 ct10 oc11 kV11 dc11 pm11 cd11 ct11 oc12 kV12 dc12 pm12 cd12 ct12 oc13 kV13 dc13 pm13 cd13 ct13 oc14 kV14 dc14 pm14 cd14 ct14 oc15 kV15 dc15 pm15 cd15 ct15 oc16 kV16 dc16 pm16 cd16 ct16 oc17 kV17 dc17 pm17 cd17 ct17 oc18 kV18 dc18 pm18 cd18 ct18 : Value}
    (a0 : PySem.W.nsIn K mainGlobals "is_from" = some (some (.ref f0))) (l0 : K.lookup f0 = some ⟨oc0, od0, .func (PySem.W.fnOf "is_from" "is_from" (defArgs s_p_is_from) (defBody s_p_is_from) (defScope s_p_is_from) .none kV0 dc0 pm0 an0 cd0 ct0), sl0⟩)
    (c0 : PySem.W.codeIn K cd0 "is_from" = true) (k0 : PySem.W.keepIn K (.ref f0) = true)
    (a1 : PySem.W.nsIn K mainGlobals "has_parts" = some (some (.ref f1))) (l1 : K.lookup f1 = some ⟨oc1, od1, .func (PySem.W.fnOf "has_parts" "has_parts" (defArgs s_p_has_parts) (defBody s_p_has_parts) (defScope s_p_has_parts) .none kV1 dc1 pm1 an1 cd1 ct1), sl1⟩)
    (c1 : PySem.W.codeIn K cd1 "has_parts" = true) (k1 : PySem.W.keepIn K (.ref f1) = true)
    (a2 : PySem.W.nsIn K mainGlobals "most_to_fall" = some (some (.ref f2))) (l2 : K.lookup f2 = some ⟨oc2, od2, .func (PySem.W.fnOf "most_to_fall" "most_to_fall" (defArgs s_p_most_to_fall) (defBody s_p_most_to_fall) (defScope s_p_most_to_fall) .none kV2 dc2 pm2 an2 cd2 ct2), sl2⟩)
    (c2 : PySem.W.codeIn K cd2 "most_to_fall" = true) (k2 : PySem.W.keepIn K (.ref f2) = true)
    (a3 : PySem.W.nsIn K mainGlobals "best_bound" = some (some (.ref f3))) (l3 : K.lookup f3 = some ⟨oc3, od3, .func (PySem.W.fnOf "best_bound" "best_bound" (defArgs s_p_best_bound) (defBody s_p_best_bound) (defScope s_p_best_bound) .none kV3 dc3 pm3 an3 cd3 ct3), sl3⟩)
    (c3 : PySem.W.codeIn K cd3 "best_bound" = true) (k3 : PySem.W.keepIn K (.ref f3) = true)
    (a4 : PySem.W.nsIn K mainGlobals "passed" = some (some (.ref f4))) (l4 : K.lookup f4 = some ⟨oc4, od4, .func (PySem.W.fnOf "passed" "passed" (defArgs s_p_passed) (defBody s_p_passed) (defScope s_p_passed) .none kV4 dc4 pm4 an4 cd4 ct4), sl4⟩)
    (c4 : PySem.W.codeIn K cd4 "passed" = true) (k4 : PySem.W.keepIn K (.ref f4) = true)
    (a5 : PySem.W.nsIn K mainGlobals "over" = some (some (.ref f5))) (l5 : K.lookup f5 = some ⟨oc5, od5, .func (PySem.W.fnOf "over" "over" (defArgs s_p_over) (defBody s_p_over) (defScope s_p_over) .none kV5 dc5 pm5 an5 cd5 ct5), sl5⟩)
    (c5 : PySem.W.codeIn K cd5 "over" = true) (k5 : PySem.W.keepIn K (.ref f5) = true)
    (a6 : PySem.W.nsIn K mainGlobals "room_over" = some (some (.ref f6))) (l6 : K.lookup f6 = some ⟨oc6, od6, .func (PySem.W.fnOf "room_over" "room_over" (defArgs s_p_room_over) (defBody s_p_room_over) (defScope s_p_room_over) .none kV6 dc6 pm6 an6 cd6 ct6), sl6⟩)
    (c6 : PySem.W.codeIn K cd6 "room_over" = true) (k6 : PySem.W.keepIn K (.ref f6) = true)
    (a7 : PySem.W.nsIn K mainGlobals "spread" = some (some (.ref f7))) (l7 : K.lookup f7 = some ⟨oc7, od7, .func (PySem.W.fnOf "spread" "spread" (defArgs s_p_spread) (defBody s_p_spread) (defScope s_p_spread) .none kV7 dc7 pm7 an7 cd7 ct7), sl7⟩)
    (c7 : PySem.W.codeIn K cd7 "spread" = true) (k7 : PySem.W.keepIn K (.ref f7) = true)
    (a8 : PySem.W.nsIn K mainGlobals "bears" = some (some (.ref f8))) (l8 : K.lookup f8 = some ⟨oc8, od8, .func (PySem.W.fnOf "bears" "bears" (defArgs s_p_bears) (defBody s_p_bears) (defScope s_p_bears) .none kV8 dc8 pm8 an8 cd8 ct8), sl8⟩)
    (c8 : PySem.W.codeIn K cd8 "bears" = true) (k8 : PySem.W.keepIn K (.ref f8) = true)
    (a9 : PySem.W.nsIn K mainGlobals "shows_spread" = some (some (.ref f9))) (l9 : K.lookup f9 = some ⟨oc9, od9, .func (PySem.W.fnOf "shows_spread" "shows_spread" (defArgs s_p_shows_spread) (defBody s_p_shows_spread) (defScope s_p_shows_spread) .none kV9 dc9 pm9 an9 cd9 ct9), sl9⟩)
    (c9 : PySem.W.codeIn K cd9 "shows_spread" = true) (k9 : PySem.W.keepIn K (.ref f9) = true)
    (a10 : PySem.W.nsIn K mainGlobals "_law_box" = some (some (.ref f10))) (l10 : K.lookup f10 = some ⟨oc10, od10, .func (PySem.W.fnOf "_law_box" "_law_box" (defArgs s_l_box) (defBody s_l_box) (defScope s_l_box) .none kV10 dc10 pm10 an10 cd10 ct10), sl10⟩)
    (c10 : PySem.W.codeIn K cd10 "_law_box" = true) (k10 : PySem.W.keepIn K (.ref f10) = true)
    (a11 : PySem.W.nsIn K mainGlobals "_law_take" = some (some (.ref f11))) (l11 : K.lookup f11 = some ⟨oc11, od11, .func (PySem.W.fnOf "_law_take" "_law_take" (defArgs s_l_take) (defBody s_l_take) (defScope s_l_take) .none kV11 dc11 pm11 an11 cd11 ct11), sl11⟩)
    (c11 : PySem.W.codeIn K cd11 "_law_take" = true) (k11 : PySem.W.keepIn K (.ref f11) = true)
    (a12 : PySem.W.nsIn K mainGlobals "_law_of" = some (some (.ref f12))) (l12 : K.lookup f12 = some ⟨oc12, od12, .func (PySem.W.fnOf "_law_of" "_law_of" (defArgs s_l_of) (defBody s_l_of) (defScope s_l_of) .none kV12 dc12 pm12 an12 cd12 ct12), sl12⟩)
    (c12 : PySem.W.codeIn K cd12 "_law_of" = true) (k12 : PySem.W.keepIn K (.ref f12) = true)
    (a13 : PySem.W.nsIn K mainGlobals "_law_all_shares" = some (some (.ref f13))) (l13 : K.lookup f13 = some ⟨oc13, od13, .func (PySem.W.fnOf "_law_all_shares" "_law_all_shares" (defArgs s_l_all_shares) (defBody s_l_all_shares) (defScope s_l_all_shares) .none kV13 dc13 pm13 an13 cd13 ct13), sl13⟩)
    (c13 : PySem.W.codeIn K cd13 "_law_all_shares" = true) (k13 : PySem.W.keepIn K (.ref f13) = true)
    (a14 : PySem.W.nsIn K mainGlobals "_law_best" = some (some (.ref f14))) (l14 : K.lookup f14 = some ⟨oc14, od14, .func (PySem.W.fnOf "_law_best" "_law_best" (defArgs s_l_best) (defBody s_l_best) (defScope s_l_best) .none kV14 dc14 pm14 an14 cd14 ct14), sl14⟩)
    (c14 : PySem.W.codeIn K cd14 "_law_best" = true) (k14 : PySem.W.keepIn K (.ref f14) = true)
    (a15 : PySem.W.nsIn K mainGlobals "_law_odd" = some (some (.ref f15))) (l15 : K.lookup f15 = some ⟨oc15, od15, .func (PySem.W.fnOf "_law_odd" "_law_odd" (defArgs s_l_odd) (defBody s_l_odd) (defScope s_l_odd) .none kV15 dc15 pm15 an15 cd15 ct15), sl15⟩)
    (c15 : PySem.W.codeIn K cd15 "_law_odd" = true) (k15 : PySem.W.keepIn K (.ref f15) = true)
    (a16 : PySem.W.nsIn K mainGlobals "_law_drawn" = some (some (.ref f16))) (l16 : K.lookup f16 = some ⟨oc16, od16, .func (PySem.W.fnOf "_law_drawn" "_law_drawn" (defArgs s_l_drawn) (defBody s_l_drawn) (defScope s_l_drawn) .none kV16 dc16 pm16 an16 cd16 ct16), sl16⟩)
    (c16 : PySem.W.codeIn K cd16 "_law_drawn" = true) (k16 : PySem.W.keepIn K (.ref f16) = true)
    (a17 : PySem.W.nsIn K mainGlobals "_law_right" = some (some (.ref f17))) (l17 : K.lookup f17 = some ⟨oc17, od17, .func (PySem.W.fnOf "_law_right" "_law_right" (defArgs s_l_right) (defBody s_l_right) (defScope s_l_right) .none kV17 dc17 pm17 an17 cd17 ct17), sl17⟩)
    (c17 : PySem.W.codeIn K cd17 "_law_right" = true) (k17 : PySem.W.keepIn K (.ref f17) = true)
    (a18 : PySem.W.nsIn K mainGlobals "law" = some (some (.ref f18))) (l18 : K.lookup f18 = some ⟨oc18, od18, .func (PySem.W.fnOf "law" "law" (defArgs s_p_law) (defBody s_p_law) (defScope s_p_law) .none kV18 dc18 pm18 an18 cd18 ct18), sl18⟩)
    (c18 : PySem.W.codeIn K cd18 "law" = true) (k18 : PySem.W.keepIn K (.ref f18) = true)
    (y_abs : PySem.W.nsIn K mainGlobals "abs" = some none) (y_all : PySem.W.nsIn K mainGlobals "all" = some none) (y_bool : PySem.W.nsIn K mainGlobals "bool" = some none) (y_int : PySem.W.nsIn K mainGlobals "int" = some none) (y_isinstance : PySem.W.nsIn K mainGlobals "isinstance" = some none) (y_len : PySem.W.nsIn K mainGlobals "len" = some none) (y_list : PySem.W.nsIn K mainGlobals "list" = some none) (y_max : PySem.W.nsIn K mainGlobals "max" = some none) (y_min : PySem.W.nsIn K mainGlobals "min" = some none) (y_range : PySem.W.nsIn K mainGlobals "range" = some none) (y_repr : PySem.W.nsIn K mainGlobals "repr" = some none) (y_sorted : PySem.W.nsIn K mainGlobals "sorted" = some none) (y_str : PySem.W.nsIn K mainGlobals "str" = some none) (y_sum : PySem.W.nsIn K mainGlobals "sum" = some none) (y_tuple : PySem.W.nsIn K mainGlobals "tuple" = some none) (y_zip : PySem.W.nsIn K mainGlobals "zip" = some none) :
    ∃ fd : FuncData, (∀ (s : Shared) (v : Value), BindsTo s fd ⟨[v], []⟩ [("_law_script", v)]) ∧ ∀ base : Heap, K.In base → base.Ns mainGlobals mg → FnG l.prog w K mg base CX0 6 fa fd ["_law_script"] (spM K 1 m_p_law) := by
  have e := hfa.symm.trans (PySem.W.mg_of X G a18)
  cases e
  have z_abs := PySem.W.mg_none_of X G y_abs
  have z_all := PySem.W.mg_none_of X G y_all
  have z_bool := PySem.W.mg_none_of X G y_bool
  have z_int := PySem.W.mg_none_of X G y_int
  have z_isinstance := PySem.W.mg_none_of X G y_isinstance
  have z_len := PySem.W.mg_none_of X G y_len
  have z_list := PySem.W.mg_none_of X G y_list
  have z_max := PySem.W.mg_none_of X G y_max
  have z_min := PySem.W.mg_none_of X G y_min
  have z_range := PySem.W.mg_none_of X G y_range
  have z_repr := PySem.W.mg_none_of X G y_repr
  have z_sorted := PySem.W.mg_none_of X G y_sorted
  have z_str := PySem.W.mg_none_of X G y_str
  have z_sum := PySem.W.mg_none_of X G y_sum
  have z_tuple := PySem.W.mg_none_of X G y_tuple
  have z_zip := PySem.W.mg_none_of X G y_zip
  have F_p_is_from := fun_mk (st := s_p_is_from) l0 c0 k0
  have B_p_is_from := F_p_is_from.binds (ps := ["thing", "least"]) fun _ _ _ _ _ _ us hl => match us, hl with | [_, _], _ => rfl
  have F_p_has_parts := fun_mk (st := s_p_has_parts) l1 c1 k1
  have B_p_has_parts := F_p_has_parts.binds (ps := ["thing", "many"]) fun _ _ _ _ _ _ us hl => match us, hl with | [_, _], _ => rfl
  have F_p_most_to_fall := fun_mk (st := s_p_most_to_fall) l2 c2 k2
  have B_p_most_to_fall := F_p_most_to_fall.binds (ps := ["shares"]) fun _ _ _ _ _ _ us hl => match us, hl with | [_], _ => rfl
  have F_p_best_bound := fun_mk (st := s_p_best_bound) l3 c3 k3
  have B_p_best_bound := F_p_best_bound.binds (ps := ["shares", "falls"]) fun _ _ _ _ _ _ us hl => match us, hl with | [_, _], _ => rfl
  have F_p_passed := fun_mk (st := s_p_passed) l4 c4 k4
  have B_p_passed := F_p_passed.binds (ps := ["shares", "bound", "moves"]) fun _ _ _ _ _ _ us hl => match us, hl with | [_, _, _], _ => rfl
  have F_p_over := fun_mk (st := s_p_over) l5 c5 k5
  have B_p_over := F_p_over.binds (ps := ["shares", "bound"]) fun _ _ _ _ _ _ us hl => match us, hl with | [_, _], _ => rfl
  have F_p_room_over := fun_mk (st := s_p_room_over) l6 c6 k6
  have B_p_room_over := F_p_room_over.binds (ps := ["shares", "falls", "bound"]) fun _ _ _ _ _ _ us hl => match us, hl with | [_, _, _], _ => rfl
  have F_p_spread := fun_mk (st := s_p_spread) l7 c7 k7
  have B_p_spread := F_p_spread.binds (ps := ["shares", "falls"]) fun _ _ _ _ _ _ us hl => match us, hl with | [_, _], _ => rfl
  have F_p_bears := fun_mk (st := s_p_bears) l8 c8 k8
  have B_p_bears := F_p_bears.binds (ps := ["shares", "falls"]) fun _ _ _ _ _ _ us hl => match us, hl with | [_, _], _ => rfl
  have F_p_shows_spread := fun_mk (st := s_p_shows_spread) l9 c9 k9
  have B_p_shows_spread := F_p_shows_spread.binds (ps := ["shares", "falls", "thing"]) fun _ _ _ _ _ _ us hl => match us, hl with | [_, _, _], _ => rfl
  have K_p_shows_spread_0_thing_falls_shares : Mix (PySem.W.fnOf "shows_spread" "shows_spread" (defArgs s_p_shows_spread) (defBody s_p_shows_spread) (defScope s_p_shows_spread) .none kV9 dc9 pm9 an9 cd9 ct9) ["shares", "falls", "thing"] ["thing", "falls", "shares"] 0 (pickIx [2, 1, 0]) := mix_of [2, 1, 0] fun us ws h1 h2 => match us, ws, h1, h2 with | [], [_, _, _], _, _ => rfl
  have F_l_box := fun_mk (st := s_l_box) l10 c10 k10
  have B_l_box := F_l_box.binds (ps := ["_law_script", "_law_k"]) fun _ _ _ _ _ _ us hl => match us, hl with | [_, _], _ => rfl
  have F_l_take := fun_mk (st := s_l_take) l11 c11 k11
  have B_l_take := F_l_take.binds (ps := ["_law_box_here", "_law_many"]) fun _ _ _ _ _ _ us hl => match us, hl with | [_, _], _ => rfl
  have F_l_of := fun_mk (st := s_l_of) l12 c12 k12
  have B_l_of := F_l_of.binds (ps := ["_law_box_here", "_law_some"]) fun _ _ _ _ _ _ us hl => match us, hl with | [_, _], _ => rfl
  have F_l_all_shares := fun_mk (st := s_l_all_shares) l13 c13 k13
  have B_l_all_shares := F_l_all_shares.binds (ps := ["_law_points", "_law_hands"]) fun _ _ _ _ _ _ us hl => match us, hl with | [_, _], _ => rfl
  have F_l_best := fun_mk (st := s_l_best) l14 c14 k14
  have B_l_best := F_l_best.binds (ps := ["_law_own_points", "_law_fallen"]) fun _ _ _ _ _ _ us hl => match us, hl with | [_, _], _ => rfl
  have F_l_odd := fun_mk (st := s_l_odd) l15 c15 k15
  have B_l_odd := F_l_odd.binds (ps := ["_law_box_here", "_law_one"]) fun _ _ _ _ _ _ us hl => match us, hl with | [_, _], _ => rfl
  have F_l_drawn := fun_mk (st := s_l_drawn) l16 c16 k16
  have B_l_drawn := F_l_drawn.binds (ps := ["_law_box_here"]) fun _ _ _ _ _ _ us hl => match us, hl with | [_], _ => rfl
  have F_l_right := fun_mk (st := s_l_right) l17 c17 k17
  have B_l_right := F_l_right.binds (ps := ["_law_box_here", "_law_own_points", "_law_fallen"]) fun _ _ _ _ _ _ us hl => match us, hl with | [_, _, _], _ => rfl
  have F_p_law := fun_mk (st := s_p_law) l18 c18 k18
  refine ⟨PySem.W.fnOf "law" "law" (defArgs s_p_law) (defBody s_p_law) (defScope s_p_law) .none kV18 dc18 pm18 an18 cd18 ct18, fun s v => .of_eq rfl, fun base _ _ => ?_⟩
  have C_p_is_from : Own l.prog w K mg base 1 2 "is_from" ["thing", "least"] f0 _ m_p_is_from := ⟨PySem.W.mg_of X G a0, k0, ok_p_is_from F_p_is_from z_bool z_int z_isinstance⟩
  have C_p_has_parts : Own l.prog w K mg base 1 2 "has_parts" ["thing", "many"] f1 _ m_p_has_parts := ⟨PySem.W.mg_of X G a1, k1, ok_p_has_parts F_p_has_parts z_isinstance z_len z_tuple⟩
  have C_p_most_to_fall : Own l.prog w K mg base 1 1 "most_to_fall" ["shares"] f2 _ m_p_most_to_fall := ⟨PySem.W.mg_of X G a2, k2, ok_p_most_to_fall F_p_most_to_fall z_sum⟩
  have C_p_best_bound : Own l.prog w K mg base 2 2 "best_bound" ["shares", "falls"] f3 _ m_p_best_bound := ⟨PySem.W.mg_of X G a3, k3, ok_p_best_bound F_p_best_bound C_p_most_to_fall B_p_most_to_fall z_len z_max z_min z_sorted z_sum⟩
  have C_p_passed : Own l.prog w K mg base 1 3 "passed" ["shares", "bound", "moves"] f4 _ m_p_passed := ⟨PySem.W.mg_of X G a4, k4, ok_p_passed F_p_passed z_max z_min z_tuple⟩
  have C_p_over : Own l.prog w K mg base 1 2 "over" ["shares", "bound"] f5 _ m_p_over := ⟨PySem.W.mg_of X G a5, k5, ok_p_over F_p_over z_max z_sum⟩
  have C_p_room_over : Own l.prog w K mg base 2 3 "room_over" ["shares", "falls", "bound"] f6 _ m_p_room_over := ⟨PySem.W.mg_of X G a6, k6, ok_p_room_over F_p_room_over C_p_most_to_fall B_p_most_to_fall⟩
  have C_p_spread : Own l.prog w K mg base 3 2 "spread" ["shares", "falls"] f7 _ m_p_spread := ⟨PySem.W.mg_of X G a7, k7, ok_p_spread F_p_spread C_p_best_bound B_p_best_bound C_p_over B_p_over C_p_passed B_p_passed C_p_room_over B_p_room_over z_max⟩
  have C_p_bears : Own l.prog w K mg base 2 2 "bears" ["shares", "falls"] f8 _ m_p_bears := ⟨PySem.W.mg_of X G a8, k8, ok_p_bears F_p_bears C_p_most_to_fall B_p_most_to_fall z_sorted z_sum⟩
  have C_p_shows_spread : Own l.prog w K mg base 4 3 "shows_spread" ["shares", "falls", "thing"] f9 _ m_p_shows_spread := ⟨PySem.W.mg_of X G a9, k9, ok_p_shows_spread F_p_shows_spread C_p_bears B_p_bears C_p_has_parts B_p_has_parts C_p_is_from B_p_is_from C_p_spread B_p_spread z_all z_len z_max z_sum z_zip⟩
  have C_l_box : Own l.prog w K mg base 1 2 "_law_box" ["_law_script", "_law_k"] f10 _ m_l_box := ⟨PySem.W.mg_of X G a10, k10, ok_l_box F_l_box z_abs z_len⟩
  have C_l_take : Own l.prog w K mg base 1 2 "_law_take" ["_law_box_here", "_law_many"] f11 _ m_l_take := ⟨PySem.W.mg_of X G a11, k11, ok_l_take F_l_take⟩
  have C_l_of : Own l.prog w K mg base 2 2 "_law_of" ["_law_box_here", "_law_some"] f12 _ m_l_of := ⟨PySem.W.mg_of X G a12, k12, ok_l_of F_l_of C_l_take B_l_take z_len⟩
  have C_l_all_shares : Own l.prog w K mg base 1 2 "_law_all_shares" ["_law_points", "_law_hands"] f13 _ m_l_all_shares := ⟨PySem.W.mg_of X G a13, k13, ok_l_all_shares F_l_all_shares z_range z_sum⟩
  have C_l_best : Own l.prog w K mg base 2 2 "_law_best" ["_law_own_points", "_law_fallen"] f14 _ m_l_best := ⟨PySem.W.mg_of X G a14, k14, ok_l_best F_l_best C_l_all_shares B_l_all_shares z_len z_max z_min z_sorted z_sum z_zip⟩
  have C_l_odd : Own l.prog w K mg base 2 2 "_law_odd" ["_law_box_here", "_law_one"] f15 _ m_l_odd := ⟨PySem.W.mg_of X G a15, k15, ok_l_odd F_l_odd C_l_take B_l_take z_len z_list z_sorted z_str z_sum z_tuple⟩
  have C_l_drawn : Own l.prog w K mg base 3 1 "_law_drawn" ["_law_box_here"] f16 _ m_l_drawn := ⟨PySem.W.mg_of X G a16, k16, ok_l_drawn F_l_drawn C_l_of B_l_of C_l_take B_l_take z_range z_tuple⟩
  have C_l_right : Own l.prog w K mg base 5 3 "_law_right" ["_law_box_here", "_law_own_points", "_law_fallen"] f17 _ m_l_right := ⟨PySem.W.mg_of X G a17, k17, ok_l_right F_l_right C_l_all_shares B_l_all_shares C_l_best B_l_best C_l_odd B_l_odd C_l_take B_l_take C_p_shows_spread B_p_shows_spread C_p_spread B_p_spread K_p_shows_spread_0_thing_falls_shares z_len z_repr z_sum⟩
  exact ok_p_law F_p_law C_l_box B_l_box C_l_drawn B_l_drawn C_l_right B_l_right C_l_take B_l_take z_len z_max z_min z_range
end K60
open PySem PySem.W PyProof.Rows
set_option maxHeartbeats 0 in
theorem PySem.Challenge.cw_ridingvotes_k60_spread_looked_at_holds : PySem.Challenge.rw_ridingvotes_k60_spread_looked_at.Holds := by
  w_on; o_law; k_head; (case hw => w_witness2)
  k_fill
  refine Mo.walk_g (l := PySem.Challenge.rw_ridingvotes_k60_spread_looked_at) (n := 63) (k := 6) (x := "_law_script") (m := K60.m_p_law) rfl (by decide) rfl ⟨rfl, by decide, by decide⟩ (fun w h Y => PySem.W.kIn_of Y) ?F (fun ns h => K60.law_true ns h)
  case F =>
    intro w mg fa h KX G hmg
    refine' K60.all_mk KX G hmg ?a0 ?l0 ?c0 ?k0 ?a1 ?l1 ?c1 ?k1 ?a2 ?l2 ?c2 ?k2 ?a3 ?l3 ?c3 ?k3 ?a4 ?l4 ?c4 ?k4 ?a5 ?l5 ?c5 ?k5 ?a6 ?l6 ?c6 ?k6 ?a7 ?l7 ?c7 ?k7 ?a8 ?l8 ?c8 ?k8 ?a9 ?l9 ?c9 ?k9 ?a10 ?l10 ?c10 ?k10 ?a11 ?l11 ?c11 ?k11 ?a12 ?l12 ?c12 ?k12 ?a13 ?l13 ?c13 ?k13 ?a14 ?l14 ?c14 ?k14 ?a15 ?l15 ?c15 ?k15 ?a16 ?l16 ?c16 ?k16 ?a17 ?l17 ?c17 ?k17 ?a18 ?l18 ?c18 ?k18 ?y_abs ?y_all ?y_bool ?y_int ?y_isinstance ?y_len ?y_list ?y_max ?y_min ?y_range ?y_repr ?y_sorted ?y_str ?y_sum ?y_tuple ?y_zip
    (case a0 => k_is); (case l0 => k_is); (case c0 => k_is); (case k0 => k_is); (case a1 => k_is); (case l1 => k_is); (case c1 => k_is); (case k1 => k_is); (case a2 => k_is); (case l2 => k_is); (case c2 => k_is); (case k2 => k_is); (case a3 => k_is); (case l3 => k_is); (case c3 => k_is); (case k3 => k_is); (case a4 => k_is); (case l4 => k_is); (case c4 => k_is); (case k4 => k_is); (case a5 => k_is); (case l5 => k_is); (case c5 => k_is); (case k5 => k_is); (case a6 => k_is); (case l6 => k_is); (case c6 => k_is); (case k6 => k_is); (case a7 => k_is); (case l7 => k_is); (case c7 => k_is); (case k7 => k_is); (case a8 => k_is); (case l8 => k_is); (case c8 => k_is); (case k8 => k_is); (case a9 => k_is); (case l9 => k_is); (case c9 => k_is); (case k9 => k_is); (case a10 => k_is); (case l10 => k_is); (case c10 => k_is); (case k10 => k_is); (case a11 => k_is); (case l11 => k_is); (case c11 => k_is); (case k11 => k_is); (case a12 => k_is); (case l12 => k_is); (case c12 => k_is); (case k12 => k_is); (case a13 => k_is); (case l13 => k_is); (case c13 => k_is); (case k13 => k_is); (case a14 => k_is); (case l14 => k_is); (case c14 => k_is); (case k14 => k_is); (case a15 => k_is); (case l15 => k_is); (case c15 => k_is); (case k15 => k_is); (case a16 => k_is); (case l16 => k_is); (case c16 => k_is); (case k16 => k_is); (case a17 => k_is); (case l17 => k_is); (case c17 => k_is); (case k17 => k_is); (case a18 => k_is); (case l18 => k_is); (case c18 => k_is); (case k18 => k_is); (case y_abs => k_is); (case y_all => k_is); (case y_bool => k_is); (case y_int => k_is); (case y_isinstance => k_is); (case y_len => k_is); (case y_list => k_is); (case y_max => k_is); (case y_min => k_is); (case y_range => k_is); (case y_repr => k_is); (case y_sorted => k_is); (case y_str => k_is); (case y_sum => k_is); (case y_tuple => k_is); (case y_zip => k_is)
