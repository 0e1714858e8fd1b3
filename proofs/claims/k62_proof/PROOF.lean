import PyProof.Rows.All
import HandS.ForMost
import KE.KeyNested
import HandS.SortInts
import HandS.Strs
import HandS.SetFor
import KE.GoesSet
import PyProof.TupleOfSeq
import KE.GoesNew
import KE.GoesEnum
import KE.GoesMore
import HandS.IsInst
import HandS.Small
import HandS.More
import HandS.Style
import HandS.TupAny
import HandS.FStr
import KE.DataEq
import HandS.RaiseMore
import HandS.SortKw
import KE.GoesEnumKw
import HandS.Conv
import HandS.TupLen
import KE.DataMinMax
import PyProof.Rows.TupReads
import PySem.Challenge.RW_dropframes_k62_whole_sames
set_option Elab.async false
set_option linter.all false
set_option maxRecDepth 100000
set_option maxHeartbeats 2000000
/-! Dicts by nested tuples of whole numbers, bools and None, over the hand layer: an object whose entries are told, the keys' tuples being tracked beside it. -/
namespace DL
open PySem PySem.Spec PyProof.Rows L2
abbrev NK := PySem.NestedKey
mutual
def noTxt : NK → Bool
  | .none => true
  | .num _ => true
  | .text _ => false
  | .tup ks => noTxts ks
def noTxts : List NK → Bool
  | [] => true
  | k :: ks => noTxt k && noTxts ks
end
mutual
theorem hash_w (w w' : World) : ∀ k : NK, noTxt k = true → k.hash w = k.hash w'
  | .none, _ => rfl
  | .num _, _ => rfl
  | .text _, h => by cases h
  | .tup ks, h => by
    simp only [NestedKey.hash]
    rw [hashes_w w w' ks h]
theorem hashes_w (w w' : World) : ∀ ks : List NK, noTxts ks = true → NestedKey.hashes w ks = NestedKey.hashes w' ks
  | [], _ => rfl
  | k :: ks, h => by
    have h' : noTxt k = true ∧ noTxts ks = true := by rw [← Bool.and_eq_true]; exact h
    simp only [NestedKey.hashes]
    rw [hash_w w w' k h'.1, hashes_w w w' ks h'.2]
end
/-! data as keys -/
def allS {α β : Type} (f : α → Option β) : List α → Option (List β)
  | [] => some []
  | d :: ds => (f d).bind fun a => (allS f ds).map fun l => a :: l
def toN : Nat → PyData → Option NK
  | _, .none => some .none
  | _, .bool b => some (.num (if b then 1 else 0))
  | _, .int i => some (.num i)
  | n + 1, .tuple ds => (allS (toN n) ds).map .tup
  | _, _ => none
def toNT : PyData → Option NK
  | .tuple ds => (allS (toN 7) ds).map .tup
  | _ => none
theorem allS_cons {α β : Type} {f : α → Option β} {d : α} {ds : List α} {l : List β} (h : allS f (d :: ds) = some l) : ∃ a m, f d = some a ∧ allS f ds = some m ∧ l = a :: m := by
  obtain ⟨a, e1, h⟩ := Option.bind_eq_some_iff.mp h
  obtain ⟨m, e2, h⟩ := Option.map_eq_some_iff.mp h
  exact ⟨a, m, e1, e2, h.symm⟩
theorem toN_ok : ∀ (n : Nat) (d : PyData) (k : NK), toN n d = some k → noTxt k = true ∧ k.depth ≤ n
  | n, .none, k, h => by cases n <;> (cases h; exact ⟨rfl, Nat.zero_le _⟩)
  | n, .bool b, k, h => by cases n <;> (cases h; exact ⟨rfl, Nat.zero_le _⟩)
  | n, .int b, k, h => by cases n <;> (cases h; exact ⟨rfl, Nat.zero_le _⟩)
  | 0, .tuple _, k, h => by cases h
  | n + 1, .tuple ds, k, h => by
    obtain ⟨ks, e, rfl⟩ := Option.map_eq_some_iff.mp (show (allS (toN n) ds).map NestedKey.tup = some k from h)
    have go : ∀ (ds : List PyData) (ks : List NK), allS (toN n) ds = some ks → noTxts ks = true ∧ NestedKey.depthAll ks ≤ n := by
      intro ds
      induction ds with
      | nil => intro ks h; cases h; exact ⟨rfl, Nat.zero_le _⟩
      | cons d ds ih =>
        intro ks h
        obtain ⟨a, m, e1, e2, rfl⟩ := allS_cons h
        obtain ⟨q1, q2⟩ := toN_ok n d a e1
        obtain ⟨r1, r2⟩ := ih m e2
        refine ⟨?_, ?_⟩
        · show (noTxt a && noTxts m) = true
          rw [q1, r1]; rfl
        · simp only [NestedKey.depthAll]
          omega
    obtain ⟨g1, g2⟩ := go ds ks e
    refine ⟨g1, ?_⟩
    simp only [NestedKey.depth]
    omega
  | 0, .str _, k, h => by cases h
  | n + 1, .str _, k, h => by cases h
  | 0, .list _, k, h => by cases h
  | n + 1, .list _, k, h => by cases h
  | 0, .dict _, k, h => by cases h
  | n + 1, .dict _, k, h => by cases h
theorem toNT_toN {d : PyData} {k : NK} (h : toNT d = some k) : toN 8 d = some k := by
  cases d with
  | tuple ds => exact h
  | _ => cases h
theorem toNT_ok {d : PyData} {k : NK} (h : toNT d = some k) : noTxt k = true ∧ k.depth ≤ 8 := toN_ok 8 d k (toNT_toN h)
/-! keys that are tracked -/
mutual
inductive KV1 (H : Hp) : NK → V → Prop
  | none : KV1 H .none .non
  | int (i : Int) : KV1 H (.num i) (.int i)
  | bl (b : Bool) : KV1 H (.num (if b then 1 else 0)) (.bl b)
  | tup {a : Addr} {vs : List V} {ks : List NK} : H a = some (.tup vs) → KVs H ks vs → KV1 H (.tup ks) (.ref a)
inductive KVs (H : Hp) : List NK → List V → Prop
  | nil : KVs H [] []
  | cons {k : NK} {v : V} {ks : List NK} {vs : List V} : KV1 H k v → KVs H ks vs → KVs H (k :: ks) (v :: vs)
end
mutual
theorem KV1.up {H H' : Hp} (e : ∀ b xs, H b = some (.tup xs) → H' b = some (.tup xs)) : ∀ {k : NK} {v : V}, KV1 H k v → KV1 H' k v
  | _, _, .none => .none
  | _, _, .int i => .int i
  | _, _, .bl b => .bl b
  | _, _, .tup h r => .tup (e _ _ h) (KVs.up e r)
theorem KVs.up {H H' : Hp} (e : ∀ b xs, H b = some (.tup xs) → H' b = some (.tup xs)) : ∀ {k : List NK} {v : List V}, KVs H k v → KVs H' k v
  | _, _, .nil => .nil
  | _, _, .cons h r => .cons (KV1.up e h) (KVs.up e r)
end
section
variable {P : Program} {w : World} {H : Hp} {h : Heap}
mutual
theorem kv_is (ok : HOk P w H h) : ∀ {k : NK} {v : V} {u : Value}, KV1 H k v → RelV v u → NestedIs h k u
  | _, _, u, .none, r => by
    obtain rfl : u = Value.none := r
    exact .none
  | _, _, u, .int i, r => by
    obtain ⟨t, rfl⟩ := r
    exact .int _ _
  | _, _, u, .bl b, r => by
    obtain rfl : u = Value.bool b := r
    exact .bool rfl
  | _, _, u, .tup (a := a) e kr, r => by
    obtain rfl : u = Value.ref a := r
    obtain ⟨_, its, r, o, h1, h2, n, h3⟩ := (show ObjOk P w H h a (.tup _) from ok a _ e)
    exact .tup h1 h2 h3 (by simpa using kvs_is ok kr r)
theorem kvs_is (ok : HOk P w H h) : ∀ {ks : List NK} {vs : List V} {us : List Value}, KVs H ks vs → Vals vs us → NestedAll h ks us
  | _, _, us, .nil, r => by cases r; exact .nil
  | _, _, us, .cons a b, r => by
    cases r with
    | cons r1 r2 => exact .cons (kv_is ok a r1) (kvs_is ok b r2)
end
end
/-! the object -/
def NRel (p : NK × Addr × V) (q : NK × Addr × Value) : Prop := p.1 = q.1 ∧ p.2.1 = q.2.1 ∧ RelV p.2.2 q.2.2
def NP (a : Addr) (xs : List (NK × Addr × V)) (h : Heap) : Prop :=
  xs.length ≤ sizeLine ∧ (a == sysModules) = false ∧ (∀ x ∈ xs, noTxt x.1 = true ∧ x.1.depth ≤ 8) ∧ ∃ vs : List (NK × Addr × Value), Paired NRel xs vs ∧
    ∃ o es ep, h.get? a = some o ∧ o.ExactDict ∧ o.data = .dict es ep ∧ (∀ w, es.toList = vs.map fun x => (⟨x.1.hash w, .ref x.2.1, x.2.2⟩ : DictEntry)) ∧ (vs.map (·.1)).Nodup
abbrev NO (a : Addr) (xs : List (NK × Addr × V)) : HO := .ext (NP a xs)
theorem np_stay {a : Addr} {xs : List (NK × Addr × V)} {h1 h2 : Heap} (p : NP a xs h1) (k : ∀ o, h1.get? a = some o → h2.get? a = some o) : NP a xs h2 := by
  obtain ⟨z, y, n, vs, r, o, es, ep, e, c⟩ := p
  exact ⟨z, y, n, vs, r, o, es, ep, k _ e, c⟩
theorem no_new {P : Program} {w : World} {H : Hp} {h : Heap} {a : Addr} {xs : List (NK × Addr × V)} (p : NP a xs h) : ObjOk P w H h a (NO a xs) := by
  have ⟨_, _, _, _, _, o, _, _, e, _⟩ := p
  exact ⟨p, ⟨o, e⟩, fun _ _ q k => np_stay q k⟩
theorem nrel_len : ∀ {xs : List (NK × Addr × V)} {vs : List (NK × Addr × Value)}, Paired NRel xs vs → xs.length = vs.length := fun r => Paired.length r
def atX (xs : List (NK × Addr × V)) (k : NK) : Option V := (xs.find? fun x => decide (x.1 = k)).map (·.2.2)
def stN (k : NK) (v : V) (x : NK × Addr × V) : NK × Addr × V := if x.1 = k then (x.1, x.2.1, v) else x
def putX (xs : List (NK × Addr × V)) (k : NK) (b : Addr) (v : V) : List (NK × Addr × V) := if (atX xs k).isSome then xs.map (stN k v) else xs ++ [(k, b, v)]
theorem nrel_at {xs : List (NK × Addr × V)} {vs : List (NK × Addr × Value)} (r : Paired NRel xs vs) (k : NK) : RelO (atX xs k) ((atKey vs k).map (·.2)) := by
  induction r with
  | nil => exact True.intro
  | @cons p q ps qs h t ih =>
    obtain ⟨h1, _, h2⟩ := h
    by_cases e : p.1 = k
    · have e' : q.1 = k := h1.symm.trans e
      have b : atKey (q :: qs) k = some q.2 := by simp [atKey, List.find?_cons, e']
      have b' : atX (p :: ps) k = some p.2.2 := by simp [atX, List.find?_cons, e]
      rw [b, b']; exact h2
    · have e' : ¬ q.1 = k := fun z => e (h1.trans z)
      have b : atKey (q :: qs) k = atKey qs k := by simp [atKey, List.find?_cons, e']
      have b' : atX (p :: ps) k = atX ps k := by simp [atX, List.find?_cons, e]
      rw [b, b']; exact ih
theorem nrel_repl {xs : List (NK × Addr × V)} {vs : List (NK × Addr × Value)} (r : Paired NRel xs vs) (k : NK) {y : V} {u : Value} (ry : RelV y u) : Paired NRel (xs.map (stN k y)) (vs.map (PySem.putAt k u)) := by
  induction r with
  | nil => exact .nil
  | @cons p q ps qs h t ih =>
    rw [List.map_cons, List.map_cons]
    refine .cons ?_ ih
    obtain ⟨h1, h2, h3⟩ := h
    unfold stN PySem.putAt
    by_cases e : p.1 = k
    · rw [if_pos e, if_pos (h1.symm.trans e)]; exact ⟨h1, h2, ry⟩
    · rw [if_neg e, if_neg (fun z => e (h1.trans z))]; exact ⟨h1, h2, h3⟩
theorem nrel_put {xs : List (NK × Addr × V)} {vs : List (NK × Addr × Value)} (r : Paired NRel xs vs) (k : NK) {b : Addr} {y : V} {u : Value} (ry : RelV y u) : Paired NRel (putX xs k b y) (storedH vs k b u) := by
  have e : (atX xs k).isSome = (atKey vs k).isSome := by rw [(nrel_at r k).isSome_eq, Option.isSome_map]
  unfold putX storedH
  rw [e]
  by_cases q : (atKey vs k).isSome = true
  · rw [if_pos q, if_pos q]; exact nrel_repl r k ry
  · rw [if_neg q, if_neg q]; exact Paired.snoc r ⟨rfl, rfl, ry⟩
theorem putX_len (xs : List (NK × Addr × V)) (k : NK) (b : Addr) (v : V) : (putX xs k b v).length ≤ xs.length + 1 := by
  unfold putX
  split
  · rw [List.length_map]; omega
  · rw [List.length_append]; exact Nat.le_refl _
theorem putX_ok {xs : List (NK × Addr × V)} {k : NK} {b : Addr} {v : V} (hx : ∀ x ∈ xs, noTxt x.1 = true ∧ x.1.depth ≤ 8) (hk : noTxt k = true ∧ k.depth ≤ 8) : ∀ x ∈ putX xs k b v, noTxt x.1 = true ∧ x.1.depth ≤ 8 := by
  unfold putX
  split
  · intro x hm
    obtain ⟨y, hy, rfl⟩ := List.mem_map.mp hm
    unfold stN
    split
    · exact hx y hy
    · exact hx y hy
  · intro x hm
    rcases List.mem_append.mp hm with hm | hm
    · exact hx x hm
    · rw [List.mem_singleton.mp hm]; exact hk
theorem nrel_no {xs : List (NK × Addr × V)} {vs : List (NK × Addr × Value)} (r : Paired NRel xs vs) (hx : ∀ x ∈ xs, noTxt x.1 = true ∧ x.1.depth ≤ 8) : ∀ x ∈ vs, noTxt x.1 = true ∧ x.1.depth ≤ 8 := by
  induction r with
  | nil => intro x h; cases h
  | @cons p q ps qs h t ih =>
    intro x hm
    rcases List.mem_cons.mp hm with e | hm
    · rw [e, ← h.1]; exact hx p (List.mem_cons_self ..)
    · exact ih (fun y hy => hx y (List.mem_cons_of_mem _ hy)) x hm
section
variable {X : Cx} {pins : List (Addr × Obj)} {σ : L2.St} {H : Hp} {s : Shared} {a b : Addr} {v : V} {r : Value} {A : Around} {E : Value → Shared → Prop} {xs : List (NK × Addr × V)} {k : NK}
/-- the keys of a dict are tracked -/
def KsIn (H : Hp) (xs : List (NK × Addr × V)) : Prop := ∀ x ∈ xs, KV1 H x.1 (.ref x.2.1)
theorem n_of {h : Heap} {P : Program} {w : World} (ok : HOk P w H h) (np : NP a xs h) (ks : KsIn H xs) : xs.length ≤ sizeLine ∧ (a == sysModules) = false ∧ ∃ vs, Paired NRel xs vs ∧ h.DictOfH (nestedKind P w) a vs := by
  obtain ⟨z, y, n, vs, r, o, es, ep, e, c1, c2, c3, c4⟩ := np
  refine ⟨z, y, vs, r, o, es, ep, e, c1, c2, c3 w, ?_, c4⟩
  clear c4 c3 c2 c1 e z y
  induction r with
  | nil => intro x h; cases h
  | @cons p q ps qs h t ih =>
    intro x hm
    rcases List.mem_cons.mp hm with e | hm
    · rw [e]
      refine ⟨?_, ?_⟩
      · rw [← h.1, ← h.2.1]
        exact kv_is ok (ks p (List.mem_cons_self ..)) rfl
      · rw [← h.1]; exact (n p (List.mem_cons_self ..)).2
    · exact ih (fun y hy => ks y (List.mem_cons_of_mem _ hy)) (fun y hy => n y (List.mem_cons_of_mem _ hy)) x hm
theorem rd_np {P : Program} {w : World} {h : Heap} (ok : HOk P w H h) (e : Rd H a (NO a xs)) : NP a xs h := (show ObjOk P w H h a (NO a xs) from rd_of ok e).1
theorem n_room (hu : A.units + 64 < cLine) : (nestedKind X.prog X.w).room A.in1 := by
  show A.in1.units + 8 < cLine
  have : A.in1.units = A.units + 1 := rfl
  omega
theorem n_get {Q : Value → Shared → Prop} (hu : A.units + 64 < cLine) (I : Inv X pins σ H s) (e : Rd H a (NO a xs)) (ks : KsIn H xs) (kb : KV1 H k (.ref b)) (kd : k.depth ≤ 8) (hv : atX xs k = some v) (h : ∀ w' s', Inv X pins σ H s' → RelV v w' → Q w' s') : wpAny (model X.prog X.w) A (getItem (.ref a) (.ref b)) Q E s := by
  obtain ⟨z, hd, vs, rel, dd⟩ := n_of I.hok (rd_np I.hok e) ks
  obtain ⟨w', hw, rw'⟩ := RelO.some_of (v := v) (o := (atKey vs k).map (·.2)) (by rw [← hv]; exact nrel_at rel k)
  obtain ⟨p, hp, hp2⟩ := Option.map_eq_some_iff.mp hw
  refine wpAny_getItem_heap (n_room (X := X) hu) (show (nestedKind X.prog X.w).is s.heap k b from ⟨kv_is I.hok kb rfl, kd⟩) dd hp ?_
  rw [hp2]
  exact h w' _ (I.tok _) rw'
theorem n_in {Q : Value → Shared → Prop} (hu : A.units + 64 < cLine) (I : Inv X pins σ H s) (e : Rd H a (NO a xs)) (ks : KsIn H xs) (kb : KV1 H k (.ref b)) (kd : k.depth ≤ 8) (h : ∀ s', Inv X pins σ H s' → Q (.bool (atX xs k).isSome) s') : wpAny (model X.prog X.w) A (compareOp .In (.ref b) (.ref a)) Q E s := by
  obtain ⟨z, hd, vs, rel, dd⟩ := n_of I.hok (rd_np I.hok e) ks
  refine wpAny_in_heap (n_room (X := X) hu) (show (nestedKind X.prog X.w).is s.heap k b from ⟨kv_is I.hok kb rfl, kd⟩) hd dd ?_
  have q := (nrel_at rel k).isSome_eq
  rw [Option.isSome_map] at q
  rw [← q]
  exact h _ (I.tok _)
theorem n_nin {Q : Value → Shared → Prop} (hu : A.units + 64 < cLine) (I : Inv X pins σ H s) (e : Rd H a (NO a xs)) (ks : KsIn H xs) (kb : KV1 H k (.ref b)) (kd : k.depth ≤ 8) (h : ∀ s', Inv X pins σ H s' → Q (.bool (!(atX xs k).isSome)) s') : wpAny (model X.prog X.w) A (compareOp .NotIn (.ref b) (.ref a)) Q E s := by
  obtain ⟨z, hd, vs, rel, dd⟩ := n_of I.hok (rd_np I.hok e) ks
  refine wpAny_notIn_heap (n_room (X := X) hu) (show (nestedKind X.prog X.w).is s.heap k b from ⟨kv_is I.hok kb rfl, kd⟩) hd dd ?_
  have q := (nrel_at rel k).isSome_eq
  rw [Option.isSome_map] at q
  rw [← q]
  exact h _ (I.tok _)
theorem n_set {Q : Unit → Shared → Prop} (hu : A.units + 64 < cLine) (I : Inv X pins σ H s) (e : H a = some (NO a xs)) (ks : KsIn H xs) (kb : KV1 H k (.ref b)) (kd : noTxt k = true ∧ k.depth ≤ 8) (hl : xs.length < sizeLine) (rv : RelV v r)
    (h : ∀ s', Inv X pins σ (upd H a (NO a (putX xs k b v))) s' → Q () s') : wpAny (model X.prog X.w) A (setItem (.ref a) (.ref b) r) Q E s := by
  have np := rd_np I.hok (.inl e)
  obtain ⟨z, hd, vs, rel, dd⟩ := n_of I.hok np ks
  have hz : vs.length ≤ sizeLine := by rw [← Paired.length rel]; exact z
  have hl2 : (putX xs k b v).length ≤ sizeLine := by have := putX_len xs k b v; omega
  refine wpAny_setItem_heap (hsz := hz) (n_room (X := X) hu) (show (nestedKind X.prog X.w).is s.heap k b from ⟨kv_is I.hok kb rfl, kd.2⟩) dd fun h' dd' hs => h _ ?_
  obtain ⟨q, es, ep, hq, h2, h3, h4, _, h5⟩ := dd'
  have hk := putX_ok (v := v) (b := b) np.2.2.1 kd
  have rel2 := nrel_put rel k (b := b) rv
  have hv := nrel_no rel2 hk
  refine d_write I (by rw [e]; exact True.intro) hs ⟨q, hq⟩ (no_new ⟨hl2, hd, hk, _, rel2, q, es, ep, hq, h2, h3, fun w' => ?_, h5⟩)
  rw [h4]
  refine List.map_congr_left fun x hx => ?_
  show (⟨x.1.hash X.w, .ref x.2.1, x.2.2⟩ : DictEntry) = _
  rw [hash_w X.w w' x.1 (hv x hx).1]
theorem n_empty {P : Program} {w : World} {H : Hp} (h : Heap) (hb : sysModules < h.objs.size) : ObjOk P w H (h.push { cls := .type "dict", data := .dict #[] }) h.objs.size (NO h.objs.size []) :=
  no_new ⟨Nat.zero_le _, beq_eq_false_iff_ne.mpr (Ne.symm (Nat.ne_of_lt hb)), fun x h => (by cases h), [], .nil, _, #[], 0, Heap.get?_push_size _ rfl, ⟨rfl, rfl, rfl⟩, rfl, fun _ => rfl, List.nodup_nil⟩
def tDNewN : TE := fun _ H Q => ∀ p, H p = none → Q (.ref p) (upd H p (NO p []))
theorem pe_dnewN {pos : Pos} : PE X (.Dict [] [] pos) tDNewN := ⟨fun pins s σ H Q I h =>
  wpAny_Dict_empty ⟨.ref s.heap.objs.size, _, I.laid (a := s.heap.objs.size) (o := NO s.heap.objs.size []) (t' := s.toks) (fun _ _ q => Heap.get?_push_of_some _ q) (Nat.le_refl _) (n_empty s.heap I.big), rfl, h _ (I.hok.fresh (Nat.le_refl _))⟩⟩
theorem n_type (I : Inv X pins σ H s) (e : Rd H a (NO a xs)) : s.TypeIs (.ref a) "dict" := by
  obtain ⟨z, y, n, vs, r, o, es, ep, e, c1, _⟩ := rd_np I.hok e
  exact ⟨o, e, c1.1⟩
theorem np_len {h : Heap} (np : NP a xs h) : xs.length ≤ sizeLine := np.1
end
end DL
set_option Elab.async false
set_option linter.all false
set_option maxRecDepth 100000
set_option maxHeartbeats 2000000
/-! A layer of data over the hand layer: what an expression, a statement, a block does, told by plain data (PyData) by slot. -/
namespace DL
open PySem PySem.Spec PyProof.Rows L2

abbrev D := PyData
/-! ### data that stands -/
section
variable {K : PySem.W.Frag} {H H' : Hp}
theorem rd_mono (e : Same H H') {a : Addr} {o : HO} (h : Rd H a o) : Rd H' a o := by
  rcases h with h | ⟨u, h⟩
  · exact .inl (e _ _ h)
  · exact .inr ⟨u, e _ _ h⟩
theorem sqL_mono (e : Same H H') {a : Addr} {xs : List V} (h : SqL K H a xs) : SqL K H' a xs := by
  rcases h with h | h
  · exact .inl (rd_mono e h)
  · exact .inr h
theorem sqT_mono (e : Same H H') {a : Addr} {xs : List V} (h : H a = some (.tup xs)) : SqT K H' a xs := .of (e _ _ h)
/-- what stands for the script: a list that is read alone -/
def scrD (ds : List D) : D := .dict [(.none, .none), (.none, .list ds)]
/-- a key as data -/
def kD0 : L2.Key → D
  | .inl i => .int i
  | .inr x => .str x
/-- a dict by tuples, as data -/
abbrev dctD (es : List (D × D)) : D := .dict ((.bool true, .none) :: es)
/-- dicts by nested tuples, and by whole numbers and texts, as data -/
abbrev ndD (es : List (D × D)) : D := .dict ((.bool false, .none) :: es)
abbrev mdD (es : List (D × D)) : D := .dict ((.bool true, .bool true) :: es)
mutual
inductive Rp (K : PySem.W.Frag) (H : Hp) : V → D → Prop
  | non : Rp K H .non .none
  | bl (b : Bool) : Rp K H (.bl b) (.bool b)
  | int (i : Int) : Rp K H (.int i) (.int i)
  | str (x : Str) : Rp K H (.str x) (.str x)
  | lst {a : Addr} {xs : List V} {ds : List D} : H a = some (.lst xs) → Rps K H xs ds → Rp K H (.ref a) (.list ds)
  | tup {a : Addr} {xs : List V} {ds : List D} : H a = some (.tup xs) → Rps K H xs ds → Rp K H (.ref a) (.tuple ds)
  | scr {a : Addr} {xs : List V} {ds : List D} : SqL K H a xs → Rps K H xs ds → Rp K H (.ref a) (.dict [(.none, .none), (.none, .list ds)])
  | dct {a : Addr} {o : Obj} {vvs : List (List L2.Key × V)} {es : List (D × D)} : H a = some (.frz o (.dT vvs)) → es.map (·.1) = vvs.map (fun p => PyData.tuple (p.1.map kD0)) → Rps K H (vvs.map (·.2)) (es.map (·.2)) → Rp K H (.ref a) (.dict ((.bool true, .none) :: es))
  | dcn {a : Addr} {o : Obj} {xs : List (NK × Addr × V)} {es : List (D × D)} : H a = some (.frz o (NO a xs)) → es.map (fun e => toNT e.1) = xs.map (fun x => some x.1) → Rps K H (xs.map fun x => V.ref x.2.1) (es.map (·.1)) → Rps K H (xs.map (·.2.2)) (es.map (·.2)) → Rp K H (.ref a) (.dict ((.bool false, .none) :: es))
  | dck {a : Addr} {o : Obj} {vvs : List (L2.Key × V)} {es : List (D × D)} : H a = some (.frz o (.dK vvs)) → es.map (·.1) = vvs.map (fun p => kD0 p.1) → Rps K H (vvs.map (·.2)) (es.map (·.2)) → Rp K H (.ref a) (.dict ((.bool true, .bool true) :: es))
inductive Rps (K : PySem.W.Frag) (H : Hp) : List V → List D → Prop
  | nil : Rps K H [] []
  | cons {v : V} {vs : List V} {d : D} {ds : List D} : Rp K H v d → Rps K H vs ds → Rps K H (v :: vs) (d :: ds)
end
mutual
theorem rp_mono0 (e : Same H H') : ∀ {v : V} {d : D}, Rp K H v d → Rp K H' v d
  | _, _, .non => .non
  | _, _, .bl b => .bl b
  | _, _, .int i => .int i
  | _, _, .str x => .str x
  | _, _, .lst hs ha => .lst (e _ _ hs) (rps_mono0 e ha)
  | _, _, .tup hs ha => .tup (e _ _ hs) (rps_mono0 e ha)
  | _, _, .scr hs ha => .scr (sqL_mono e hs) (rps_mono0 e ha)
  | _, _, .dct hs hk ha => .dct (e _ _ hs) hk (rps_mono0 e ha)
  | _, _, .dcn hs hk hb ha => .dcn (e _ _ hs) hk (rps_mono0 e hb) (rps_mono0 e ha)
  | _, _, .dck hs hk ha => .dck (e _ _ hs) hk (rps_mono0 e ha)
theorem rps_mono0 (e : Same H H') : ∀ {vs : List V} {ds : List D}, Rps K H vs ds → Rps K H' vs ds
  | _, _, .nil => .nil
  | _, _, .cons h1 h2 => .cons (rp_mono0 e h1) (rps_mono0 e h2)
end
theorem rp_mono (e : Same H H') (d : D) (v : V) (h : Rp K H v d) : Rp K H' v d := rp_mono0 e h
theorem rps_mono (e : Same H H') (ds : List D) (vs : List V) (h : Rps K H vs ds) : Rps K H' vs ds := rps_mono0 e h
mutual
theorem rp_dp : ∀ (d : D) (v : V), Rp K H v d → PyData.canLay0 d = true → Dp K H v d
  | .none, _, h, _ => by cases h; exact .non
  | .bool b, _, h, _ => by cases h; exact .bl b
  | .int i, _, h, _ => by cases h; exact .int i
  | .str x, _, h, _ => by cases h; exact .str x
  | .list ds, _, h, c => by
    cases h with
    | lst hs ha => exact .lst (.of hs) (rps_dp ds _ ha (by simpa only [PyData.canLay0] using c))
  | .tuple ds, _, h, c => by
    cases h with
    | tup hs ha => exact .tup (.of hs) (rps_dp ds _ ha (by simpa only [PyData.canLay0] using c))
  | .dict _, _, h, c => by simp only [PyData.canLay0] at c; cases c
theorem rps_dp : ∀ (ds : List D) (vs : List V), Rps K H vs ds → PyData.canLayAll0 ds = true → DpAll K H vs ds
  | [], _, h, _ => by cases h; exact .nil
  | d :: ds, _, h, c => by
    cases h with
    | cons h1 h2 =>
      have c' : PyData.canLay0 d = true ∧ PyData.canLayAll0 ds = true := by simpa only [PyData.canLayAll0, Bool.and_eq_true] using c
      exact .cons (rp_dp d _ h1 c'.1) (rps_dp ds _ h2 c'.2)
end
theorem Rps.length : ∀ {ds : List D} {vs : List V}, Rps K H vs ds → vs.length = ds.length
  | [], _, h => by cases h; rfl
  | d :: ds, _, h => by
    cases h with
    | cons h1 h2 => simp [Rps.length h2]
theorem Rps.get : ∀ {ds : List D} {vs : List V}, Rps K H vs ds → ∀ {i : Nat} {d : D}, ds[i]? = some d → ∃ v, vs[i]? = some v ∧ Rp K H v d
  | [], _, h, i, d, e => by simp at e
  | d :: ds, _, h, 0, d', e => by
    cases h with
    | cons h1 h2 => simp at e; subst e; exact ⟨_, rfl, h1⟩
  | d :: ds, _, h, i + 1, d', e => by
    cases h with
    | cons h1 h2 =>
      obtain ⟨v, e1, e2⟩ := Rps.get h2 (i := i) (d := d') (by simpa using e)
      exact ⟨v, by simpa using e1, e2⟩
theorem Rps.getV : ∀ {ds : List D} {vs : List V}, Rps K H vs ds → ∀ {i : Nat} {v : V}, vs[i]? = some v → ∃ d, ds[i]? = some d ∧ Rp K H v d
  | [], _, h, i, v, e => by cases h; simp at e
  | d :: ds, _, h, 0, v, e => by
    cases h with
    | cons h1 h2 => simp at e; subst e; exact ⟨_, rfl, h1⟩
  | d :: ds, _, h, i + 1, v, e => by
    cases h with
    | cons h1 h2 =>
      obtain ⟨d', e1, e2⟩ := Rps.getV h2 (i := i) (v := v) (by simpa using e)
      exact ⟨d', by simpa using e1, e2⟩
theorem Rps.append : ∀ {ds es : List D} {vs ws : List V}, Rps K H vs ds → Rps K H ws es → Rps K H (vs ++ ws) (ds ++ es)
  | [], _, _, _, h, q => by cases h; exact q
  | d :: ds, _, _, _, h, q => by
    cases h with
    | cons h1 h2 => exact .cons h1 (Rps.append h2 q)
theorem Rps.set : ∀ {ds : List D} {vs : List V} {v : V} {d : D}, Rps K H vs ds → Rp K H v d → ∀ i, Rps K H (vs.set i v) (ds.set i d)
  | [], _, _, _, h, q, _ => by cases h; exact .nil
  | d :: ds, _, _, _, h, q, 0 => by
    cases h with
    | cons h1 h2 => exact .cons q h2
  | d :: ds, _, _, _, h, q, i + 1 => by
    cases h with
    | cons h1 h2 => exact .cons h1 (Rps.set h2 q i)
theorem Rps.take : ∀ {ds : List D} {vs : List V}, Rps K H vs ds → ∀ n, Rps K H (vs.take n) (ds.take n)
  | _, _, _, 0 => .nil
  | [], _, h, n + 1 => by cases h; exact .nil
  | d :: ds, _, h, n + 1 => by
    cases h with
    | cons h1 h2 => exact .cons h1 (Rps.take h2 n)
theorem Rps.drop : ∀ {ds : List D} {vs : List V}, Rps K H vs ds → ∀ n, Rps K H (vs.drop n) (ds.drop n)
  | _, _, h, 0 => h
  | [], _, h, n + 1 => by cases h; exact .nil
  | d :: ds, _, h, n + 1 => by
    cases h with
    | cons h1 h2 => exact Rps.drop h2 n
theorem Rps.ints : ∀ {ns : List Int} {vs : List V}, Rps K H vs (ns.map .int) → vs = ns.map V.int
  | [], _, h => by cases h; rfl
  | n :: ns, _, h => by
    cases h with
    | cons h1 h2 =>
      cases h1
      rw [Rps.ints h2]
      rfl
theorem Rps.of_ints : ∀ (ns : List Int), Rps K H (ns.map V.int) (ns.map .int)
  | [] => .nil
  | n :: ns => .cons (.int n) (Rps.of_ints ns)
theorem Rps.bools : ∀ {ns : List Bool} {vs : List V}, Rps K H vs (ns.map .bool) → vs = ns.map V.bl
  | [], _, h => by cases h; rfl
  | n :: ns, _, h => by
    cases h with
    | cons h1 h2 =>
      cases h1
      rw [Rps.bools h2]
      rfl
end

/-- entries of a dict by nested tuples: the object's, and the data -/
inductive NPair (K : PySem.W.Frag) (H : Hp) : List (NK × Addr × V) → List (D × D) → Prop
  | nil : NPair K H [] []
  | cons {x : NK × Addr × V} {p : D × D} {xs : List (NK × Addr × V)} {kvs : List (D × D)} : toNT p.1 = some x.1 → Rp K H (.ref x.2.1) p.1 → Rp K H x.2.2 p.2 → NPair K H xs kvs → NPair K H (x :: xs) (p :: kvs)
theorem NPair.mono {K : PySem.W.Frag} {H H' : Hp} (e : Same H H') {xs : List (NK × Addr × V)} {kvs : List (D × D)} (h : NPair K H xs kvs) : NPair K H' xs kvs := by
  induction h with
  | nil => exact .nil
  | cons a b c _ ih => exact .cons a (rp_mono e _ _ b) (rp_mono e _ _ c) ih
theorem NPair.data {K : PySem.W.Frag} {H : Hp} {xs : List (NK × Addr × V)} {kvs : List (D × D)} (h : NPair K H xs kvs) : kvs.map (fun e => toNT e.1) = xs.map (fun x => some x.1) ∧ Rps K H (xs.map fun x => V.ref x.2.1) (kvs.map (·.1)) ∧ Rps K H (xs.map (·.2.2)) (kvs.map (·.2)) := by
  induction h with
  | nil => exact ⟨rfl, .nil, .nil⟩
  | cons a b c _ ih =>
    obtain ⟨i1, i2, i3⟩ := ih
    simp only [List.map_cons]
    exact ⟨by rw [a, i1], .cons b i2, .cons c i3⟩
theorem NPair.of {K : PySem.W.Frag} {H : Hp} : ∀ {xs : List (NK × Addr × V)} {kvs : List (D × D)}, kvs.map (fun e => toNT e.1) = xs.map (fun x => some x.1) → Rps K H (xs.map fun x => V.ref x.2.1) (kvs.map (·.1)) → Rps K H (xs.map (·.2.2)) (kvs.map (·.2)) → NPair K H xs kvs
  | [], [], _, _, _ => .nil
  | [], _ :: _, h, _, _ => by cases h
  | _ :: _, [], h, _, _ => by cases h
  | x :: xs, p :: kvs, h, r1, r2 => by
    simp only [List.map_cons, List.cons.injEq] at h r1 r2
    cases r1 with
    | cons a b =>
      cases r2 with
      | cons c d => exact .cons h.1 a c (NPair.of h.2 b d)
/-! ### slots -/
/-- what is known of a slot: nothing; it holds data that never changes; a list of one's own (it may be changed; o: made here, b: lent by the caller) -/
inductive Own where
  | l (xs : List D)
  | k (kvs : List (L2.Key × D))
  | t (kvs : List (List L2.Key × D))
  | n (kvs : List (D × D))
inductive Sl where
  | u
  | d (x : D)
  | o (xs : List D)
  | b (a : Addr) (xs : List D)
  | m (kvs : List (L2.Key × D))
  | t (kvs : List (List L2.Key × D))
  | n (kvs : List (D × D))
/-- what an object of one's own is -/
def Own.At (K : PySem.W.Frag) (F : Hp) (a : Addr) (ho : HO) : Own → Prop
  | .l xs => ∃ vs, ho = .lst vs ∧ Rps K F vs xs
  | .k kvs => ∃ vvs : List (L2.Key × V), ho = .dK vvs ∧ vvs.map (·.1) = kvs.map (·.1) ∧ Rps K F (vvs.map (·.2)) (kvs.map (·.2))
  | .t kvs => ∃ vvs : List (List L2.Key × V), ho = .dT vvs ∧ vvs.map (·.1) = kvs.map (·.1) ∧ Rps K F (vvs.map (·.2)) (kvs.map (·.2))
  | .n kvs => ∃ xs : List (NK × Addr × V), ho = NO a xs ∧ NPair K F xs kvs
theorem Own.At.mono {K : PySem.W.Frag} {F F' : Hp} {a : Addr} {ho : HO} (f : Same F F') : ∀ {w : Own}, w.At K F a ho → w.At K F' a ho
  | .l _, ⟨vs, e, r⟩ => ⟨vs, e, rps_mono f _ _ r⟩
  | .k _, ⟨vs, e, q, r⟩ => ⟨vs, e, q, rps_mono f _ _ r⟩
  | .t _, ⟨vs, e, q, r⟩ => ⟨vs, e, q, rps_mono f _ _ r⟩
  | .n _, ⟨vs, e, r⟩ => ⟨vs, e, r.mono f⟩
theorem Own.At.mut {K : PySem.W.Frag} {F : Hp} {a : Addr} {ho : HO} : ∀ {w : Own}, w.At K F a ho → Mut (some ho)
  | .l _, ⟨_, e, _⟩ => by rw [e]; exact True.intro
  | .k _, ⟨_, e, _⟩ => by rw [e]; exact True.intro
  | .t _, ⟨_, e, _⟩ => by rw [e]; exact True.intro
  | .n _, ⟨_, e, _⟩ => by rw [e]; exact True.intro
theorem mut_up {G H : Hp} {b : Addr} (h : Same G H) (m : Mut (G b)) : Mut (H b) := by
  cases e : G b with
  | none => rw [e] at m; exact m.elim
  | some o => rw [h b o e]; rw [e] at m; exact m
theorem mut_ne {H : Hp} {b p : Addr} (hp : H p = none) (m : Mut (H b)) : b ≠ p := fun z => by
  rw [z, hp] at m
  exact m
def Sl.has : Sl → Option Own
  | .o xs => some (.l xs)
  | .b _ xs => some (.l xs)
  | .m kvs => some (.k kvs)
  | .t kvs => some (.t kvs)
  | .n kvs => some (.n kvs)
  | _ => none
def Sl.own : Sl → Option (List D)
  | .o xs => some xs
  | .b _ xs => some xs
  | _ => none
def Sl.put (xs : List D) : Sl → Sl
  | .b a _ => .b a xs
  | _ => .o xs
theorem Sl.put_own (xs : List D) (s : Sl) : (s.put xs).own = some xs := by cases s <;> rfl
theorem Sl.put_has (xs : List D) (s : Sl) : (s.put xs).has = some (.l xs) := by cases s <;> rfl
theorem Sl.own_has {s : Sl} {xs : List D} (h : s.own = some xs) : s.has = some (.l xs) := by
  cases s <;> first | (cases h; rfl) | cases h
/-- entry's tracked things: G (kept), F₀ (what of them was data); now: F (data), H -/
structure Ok (K : PySem.W.Frag) (F0 G F H : Hp) (σ : L2.St) (ρ : List Sl) : Prop where
  len : σ.length = ρ.length
  fh : Same F H
  gh : Same G H
  g0 : ∀ b, Mut (G b) → F b = F0 b
  dat : ∀ (i : Nat) (x : D), ρ[i]? = some (Sl.d x) → ∃ v, σ[i]? = some (some v) ∧ Rp K F v x
  bor : ∀ (i : Nat) (a : Addr) (xs : List D), ρ[i]? = some (Sl.b a xs) → σ[i]? = some (some (V.ref a))
  has : ∀ (i : Nat) (s : Sl) (xs : Own), ρ[i]? = some s → s.has = some xs → ∃ a ho, σ[i]? = some (some (.ref a)) ∧ H a = some ho ∧ F a = none ∧ G a = none ∧ xs.At K F a ho
  djh : ∀ (i j : Nat) (s t : Sl) (xs ys : Own) (a : Addr), ρ[i]? = some s → s.has = some xs → ρ[j]? = some t → t.has = some ys → σ[i]? = some (some (.ref a)) → σ[j]? = some (some (.ref a)) → i = j
theorem Ok.own {K : PySem.W.Frag} {F0 G F H : Hp} {σ : L2.St} {ρ : List Sl} (k : Ok K F0 G F H σ ρ) (i : Nat) (s : Sl) (xs : List D) (h1 : ρ[i]? = some s) (h2 : s.own = some xs) : ∃ a vs, σ[i]? = some (some (.ref a)) ∧ H a = some (.lst vs) ∧ F a = none ∧ G a = none ∧ Rps K F vs xs := by
  obtain ⟨a, ho, q1, q2, q3, q4, vs, rfl, q5⟩ := k.has i s _ h1 (Sl.own_has h2)
  exact ⟨a, vs, q1, q2, q3, q4, q5⟩
section
variable {K : PySem.W.Frag} {F0 G F H F' H' : Hp} {σ : L2.St} {ρ : List Sl}
/-- nothing but new things: data, and others -/
theorem Ok.grow (k : Ok K F0 G F H σ ρ) (f : Same F F') (h : Same H H') (fh : Same F' H') (new : ∀ b, Mut (H b) → F' b = F b) : Ok K F0 G F' H' σ ρ where
  len := k.len
  fh := fh
  gh := k.gh.trans h
  g0 := fun b hb => by rw [new b (mut_up k.gh hb), k.g0 b hb]
  dat := fun i x e => by
    obtain ⟨v, e1, e2⟩ := k.dat i x e
    exact ⟨v, e1, rp_mono f _ _ e2⟩
  bor := k.bor
  has := fun i s xs e1 e2 => by
    obtain ⟨a, vs, q1, q2, q3, q4, q5⟩ := k.has i s xs e1 e2
    exact ⟨a, vs, q1, h _ _ q2, by rw [new a (by rw [q2]; exact q5.mut), q3], q4, q5.mono f⟩
  djh := k.djh
theorem Ok.same (k : Ok K F0 G F H σ ρ) (h : Same H H') : Ok K F0 G F H' σ ρ := k.grow (Same.refl F) h (k.fh.trans h) fun _ _ => rfl
/-- a new object that is data -/
theorem Ok.laid {p : Addr} {o : HO} (k : Ok K F0 G F H σ ρ) (hp : H p = none) : Ok K F0 G (upd F p o) (upd H p o) σ ρ ∧ Same F (upd F p o) := by
  have fp : F p = none := by
    cases e : F p with
    | none => rfl
    | some u => rw [k.fh p u e] at hp; cases hp
  have s1 : Same F (upd F p o) := fun b u e => by
    rw [upd_ne (ne_of_none e fp)]
    exact e
  have s2 : Same H (upd H p o) := fun b u e => by
    rw [upd_ne (ne_of_none e hp)]
    exact e
  refine ⟨k.grow s1 s2 (fun b u e => ?_) fun b hb => ?_, s1⟩
  · by_cases hbp : b = p
    · subst hbp
      rw [upd_same] at e ⊢
      exact e
    · rw [upd_ne hbp] at e ⊢
      exact k.fh b u e
  · rw [upd_ne (mut_ne hp hb)]
/-- a new object that is none's yet -/
theorem Ok.loose {p : Addr} {o : HO} (k : Ok K F0 G F H σ ρ) (hp : H p = none) : Ok K F0 G F (upd H p o) σ ρ := k.same fun b u e => by
  rw [upd_ne (ne_of_none e hp)]
  exact e
end

/-! ### readings that say no more than the run itself -/
def cE (X : Cx) (e : Expr) : TE := fun σ H Q => ∀ (pins : List (Addr × Obj)) (s : Shared), Inv X pins σ H s → wpAny (model X.prog X.w) X.A (eval e X.env) (EP X pins σ Q) X.xe s
def cT (X : Cx) (e : Expr) : TT := fun σ H Q => ∀ (pins : List (Addr × Obj)) (s : Shared), Inv X pins σ H s → wpAny (model X.prog X.w) X.A (isTrue e X.env (eval e X.env)) (TP X pins σ Q) X.xe s
def cS (X : Cx) (st : Stmt) : TS := fun Dn σ H => ∀ (pins : List (Addr × Obj)) (s : Shared), Inv X pins σ H s → wpAny (model X.prog X.w) X.A (exec st X.env) (SP X pins Dn) X.xe s
def cSs (X : Cx) (st : List Stmt) : TS := fun Dn σ H => ∀ (pins : List (Addr × Obj)) (s : Shared), Inv X pins σ H s → wpAny (model X.prog X.w) X.A (execs st X.env) (SP X pins Dn) X.xe s
def cI (X : Cx) (tg iter : Expr) : TI := fun σ H R => ∀ (pins : List (Addr × Obj)) (s : Shared), Inv X pins σ H s → wpAny (model X.prog X.w) X.A (eval iter X.env) (fun v s1 => wpAny (model X.prog X.w) X.A (pyIter v) (PIE X pins σ tg R) X.xe s1) X.xe s
def cG (X : Cx) (tg : Expr) : TG := fun v σ H Q => ∀ (pins : List (Addr × Obj)) (s : Shared) (u : Value), Inv X pins σ H s → RelV v u → wpAny (model X.prog X.w) X.A (assign tg X.env u) (fun _ s' => ∃ σ' H', Inv X pins σ' H' s' ∧ Q σ' H') X.xe s
def cA (X : Cx) (es : List Expr) : TA := fun σ H Q => ∀ (pos : Pos) (pins : List (Addr × Obj)) (s : Shared), Inv X pins σ H s → wpAny (model X.prog X.w) X.A (spliced (backTo pos (starEach es X.env))) (AP X pins σ Q) X.xe s
section
variable {X : Cx}
theorem pcE (e : Expr) : PE X e (cE X e) := ⟨fun pins s _ _ _ I h => h pins s I⟩
theorem pcT (e : Expr) : PT X e (cT X e) := ⟨fun pins s _ _ _ I h => h pins s I⟩
theorem pcS (e : Stmt) : PS X e (cS X e) := ⟨fun pins s _ _ _ I h => h pins s I⟩
theorem pcSs (e : List Stmt) : PSs X e (cSs X e) := ⟨fun pins s _ _ _ I h => h pins s I⟩
theorem pcI (tg e : Expr) : PI X tg e (cI X tg e) := ⟨fun pins s _ _ _ I h => h pins s I⟩
theorem pcG (tg : Expr) : PG X tg (cG X tg) := ⟨fun pins s _ _ _ u _ I r h => h pins s u I r⟩
theorem pcA (es : List Expr) : PA X es (cA X es) := ⟨fun pos pins s _ _ _ I h => h pos pins s I⟩
end

/-! ### the judgements -/
/-- the expression gives the data d; the slots behind it are ρ' -/
def XE (X : Cx) (e : Expr) (ρ : List Sl) (d : D) (ρ' : List Sl) : Prop := ∀ (F0 G F H : Hp) (σ : L2.St), Ok X.K F0 G F H σ ρ → ∀ Q : VK,
  (∀ v F' H', Ok X.K F0 G F' H' σ ρ' → Same F F' → Rp X.K F' v d → Q v H') → cE X e σ H Q
/-- the expression gives a new list of one's own -/
def XO (X : Cx) (e : Expr) (ρ : List Sl) (xs : List D) (ρ' : List Sl) : Prop := ∀ (F0 G F H : Hp) (σ : L2.St), Ok X.K F0 G F H σ ρ → ∀ Q : VK,
  (∀ p vs F' H', Ok X.K F0 G F' H' σ ρ' → Same F F' → H' p = some (.lst vs) → F' p = none → G p = none → (∀ (i : Nat) (s : Sl) (ys : Own), ρ'[i]? = some s → s.has = some ys → σ[i]? ≠ some (some (V.ref p))) → Rps X.K F' vs xs → Q (.ref p) H') → cE X e σ H Q
def XT (X : Cx) (e : Expr) (ρ : List Sl) (b : Bool) (ρ' : List Sl) : Prop := ∀ (F0 G F H : Hp) (σ : L2.St), Ok X.K F0 G F H σ ρ → ∀ Q : Bool → Hp → Prop,
  (∀ F' H', Ok X.K F0 G F' H' σ ρ' → Same F F' → Q b H') → cT X e σ H Q
def XA (X : Cx) (es : List Expr) (ρ : List Sl) (ds : List D) (ρ' : List Sl) : Prop := ∀ (F0 G F H : Hp) (σ : L2.St), Ok X.K F0 G F H σ ρ → ∀ Q : List V → Hp → Prop,
  (∀ vs F' H', Ok X.K F0 G F' H' σ ρ' → Same F F' → Rps X.K F' vs ds → Q vs H') → cA X es σ H Q
inductive Out where
  | nx (ρ : List Sl)
  | rt (d : D) (ρ : List Sl)
  | bk (ρ : List Sl)
  | ct (ρ : List Sl)
/-- where an end is met -/
def Out.At (K : PySem.W.Frag) (F0 G F : Hp) (Dn : Ends) : Out → Prop
  | .nx ρ' => ∀ σ' F' H', Ok K F0 G F' H' σ' ρ' → Same F F' → Dn.nx σ' H'
  | .rt d ρ' => ∀ v σ' F' H', Ok K F0 G F' H' σ' ρ' → Same F F' → Rp K F' v d → Dn.rt v H'
  | .bk ρ' => ∀ σ' F' H', Ok K F0 G F' H' σ' ρ' → Same F F' → Dn.bk σ' H'
  | .ct ρ' => ∀ σ' F' H', Ok K F0 G F' H' σ' ρ' → Same F F' → Dn.ct σ' H'
def XS (X : Cx) (st : Stmt) (ρ : List Sl) (o : Out) : Prop := ∀ (F0 G F H : Hp) (σ : L2.St), Ok X.K F0 G F H σ ρ → ∀ Dn : Ends, o.At X.K F0 G F Dn → cS X st Dn σ H
def XSs (X : Cx) (st : List Stmt) (ρ : List Sl) (o : Out) : Prop := ∀ (F0 G F H : Hp) (σ : L2.St), Ok X.K F0 G F H σ ρ → ∀ Dn : Ends, o.At X.K F0 G F Dn → cSs X st Dn σ H
end DL
set_option Elab.async false
set_option linter.all false
set_option maxRecDepth 100000
set_option maxHeartbeats 2000000
namespace DL
open PySem PySem.Spec PyProof.Rows L2
/-- what a call may do: new things, data or none's -/
structure Gr (F H F' H' : Hp) : Prop where
  f : Same F F'
  h : Same H H'
  fh : Same F' H'
  new : ∀ b, Mut (H b) → F' b = F b
theorem Gr.refl {F H : Hp} (fh : Same F H) : Gr F H F H := ⟨Same.refl _, Same.refl _, fh, fun _ _ => rfl⟩
theorem Gr.laid {F H : Hp} {p : Addr} {o : HO} (fh : Same F H) (hp : H p = none) : Gr F H (upd F p o) (upd H p o) := by
  have fp : F p = none := by
    cases e : F p with
    | none => rfl
    | some u => rw [fh p u e] at hp; cases hp
  refine ⟨fun b u e => ?_, fun b u e => ?_, fun b u e => ?_, fun b hb => ?_⟩
  · rw [upd_ne (ne_of_none e fp)]; exact e
  · rw [upd_ne (ne_of_none e hp)]; exact e
  · by_cases hbp : b = p
    · subst hbp; rw [upd_same] at e ⊢; exact e
    · rw [upd_ne hbp] at e ⊢; exact fh b u e
  · rw [upd_ne (mut_ne hp hb)]
theorem Gr.loose {F H : Hp} {p : Addr} {o : HO} (fh : Same F H) (hp : H p = none) : Gr F H F (upd H p o) := by
  have s : Same H (upd H p o) := fun b u e => by
    rw [upd_ne (ne_of_none e hp)]; exact e
  exact ⟨Same.refl _, s, fh.trans s, fun _ _ => rfl⟩
theorem Gr.trans {F H F1 H1 F2 H2 : Hp} (a : Gr F H F1 H1) (b : Gr F1 H1 F2 H2) : Gr F H F2 H2 :=
  ⟨a.f.trans b.f, a.h.trans b.h, b.fh, fun c hc => by
    rw [b.new c (mut_up a.h hc), a.new c hc]⟩
theorem Ok.gr {K : PySem.W.Frag} {F0 G F H F' H' : Hp} {σ : L2.St} {ρ : List Sl} (k : Ok K F0 G F H σ ρ) (g : Gr F H F' H') : Ok K F0 G F' H' σ ρ := k.grow g.f g.h g.fh g.new
section
variable {X : Cx} {e a b c : Expr} {es : List Expr} {ρ ρ1 ρ2 ρ3 : List Sl} {d x y z : D} {ds : List D} {pos : Pos} {i j : Int}
theorem XE.of {te : TE} (h : PE X e te) (t : ∀ (F0 G F H : Hp) (σ : L2.St), Ok X.K F0 G F H σ ρ → ∀ Q : VK, (∀ v F' H', Ok X.K F0 G F' H' σ ρ1 → Same F F' → Rp X.K F' v d → Q v H') → te σ H Q) : XE X e ρ d ρ1 :=
  fun F0 G F H σ k Q q pins s I => h.run pins s σ H Q I (t F0 G F H σ k Q q)
theorem XT.of {bb : Bool} {tt : TT} (h : PT X e tt) (t : ∀ (F0 G F H : Hp) (σ : L2.St), Ok X.K F0 G F H σ ρ → ∀ Q : Bool → Hp → Prop, (∀ F' H', Ok X.K F0 G F' H' σ ρ1 → Same F F' → Q bb H') → tt σ H Q) : XT X e ρ bb ρ1 :=
  fun F0 G F H σ k Q q pins s I => h.run pins s σ H Q I (t F0 G F H σ k Q q)
theorem XS.of {st : Stmt} {o : Out} {ts : TS} (h : PS X st ts) (t : ∀ (F0 G F H : Hp) (σ : L2.St), Ok X.K F0 G F H σ ρ → ∀ Dn : Ends, o.At X.K F0 G F Dn → ts Dn σ H) : XS X st ρ o :=
  fun F0 G F H σ k Dn q pins s I => h.run pins s σ H Dn I (t F0 G F H σ k Dn q)
theorem XSs.of {st : List Stmt} {o : Out} {ts : TS} (h : PSs X st ts) (t : ∀ (F0 G F H : Hp) (σ : L2.St), Ok X.K F0 G F H σ ρ → ∀ Dn : Ends, o.At X.K F0 G F Dn → ts Dn σ H) : XSs X st ρ o :=
  fun F0 G F H σ k Dn q pins s I => h.run pins s σ H Dn I (t F0 G F H σ k Dn q)
theorem XE.is (h : XE X e ρ d ρ1) (q : d = x) : XE X e ρ x ρ1 := by rw [← q]; exact h
theorem XT.is {b1 b2 : Bool} (h : XT X e ρ b1 ρ1) (q : b1 = b2) : XT X e ρ b2 ρ1 := by rw [← q]; exact h

/-! ### names, constants -/
theorem xe_var (n : Nat) {nm : Str} (hr : ρ[n]? = some (Sl.d x) := by rfl) (hN : X.N[n]? = some nm := by rfl) (hv : Vis X.env.scope nm := by first | exact Or.inl rfl | exact Or.inr (Or.inl rfl) | exact Or.inr (Or.inr rfl))
    (hd : (nm == ("__debug__" : Str)) = false := by decide) (hcd : (nm == ("__classdict__" : Str)) = false := by decide) : XE X (.Name nm pos) ρ x ρ :=
  .of (pe_var hN hv hd hcd) fun F0 G F H σ k Q q => by
    obtain ⟨v, e1, e2⟩ := k.dat n x hr
    exact ⟨v, e1, q v F H k (Same.refl _) e2⟩
/-- a list of one's own, read as a whole: from now on it is data -/
theorem xe_varO (n : Nat) {nm : Str} {xs : List D} (hr : ρ[n]? = some (Sl.o xs) := by rfl) (hN : X.N[n]? = some nm := by rfl) (hv : Vis X.env.scope nm := by first | exact Or.inl rfl | exact Or.inr (Or.inl rfl) | exact Or.inr (Or.inr rfl))
    (hd : (nm == ("__debug__" : Str)) = false := by decide) (hcd : (nm == ("__classdict__" : Str)) = false := by decide) : XE X (.Name nm pos) ρ (.list xs) (ρ.set n (.d (.list xs))) :=
  .of (pe_var hN hv hd hcd) fun F0 G F H σ k Q q => by
    obtain ⟨p, vs, e1, e2, e3, e4, e5⟩ := k.own n _ xs hr rfl
    refine ⟨.ref p, e1, ?_⟩
    have s1 : Same F (upd F p (.lst vs)) := fun b u e => by rw [upd_ne (ne_of_none e e3)]; exact e
    have hn : n < ρ.length := (List.getElem?_eq_some_iff.mp hr).1
    refine q (.ref p) (upd F p (.lst vs)) H ⟨by rw [List.length_set]; exact k.len, fun b u e => ?_, k.gh, fun b hb => ?_, fun i y h => ?_, fun i a' ys h => ?_, fun i s ys h1 h2 => ?_, fun i j s t ys zs a h1 h2 h3 h4 => ?_⟩ s1 (.lst upd_same (rps_mono s1 _ _ e5))
    · by_cases hbp : b = p
      · subst hbp; rw [upd_same] at e; cases e; exact e2
      · rw [upd_ne hbp] at e; exact k.fh b u e
    · rw [upd_ne (mut_ne e4 hb)]; exact k.g0 b hb
    · by_cases hi : i = n
      · subst hi
        rw [List.getElem?_set_self hn] at h
        cases h
        exact ⟨.ref p, e1, .lst upd_same (rps_mono s1 _ _ e5)⟩
      · rw [List.getElem?_set_ne (Ne.symm hi)] at h
        obtain ⟨v, q1, q2⟩ := k.dat i y h
        exact ⟨v, q1, rp_mono s1 _ _ q2⟩
    · by_cases hi : i = n
      · subst hi
        rw [List.getElem?_set_self hn] at h
        cases h
      · rw [List.getElem?_set_ne (Ne.symm hi)] at h
        exact k.bor i a' ys h
    · by_cases hi : i = n
      · subst hi
        rw [List.getElem?_set_self hn] at h1
        cases h1
        cases h2
      · rw [List.getElem?_set_ne (Ne.symm hi)] at h1
        obtain ⟨a, ws, q1, q2, q3, q4, q5⟩ := k.has i s ys h1 h2
        have hap : a ≠ p := fun z => hi (k.djh i n s (.o xs) ys (.l xs) p h1 h2 hr rfl (by rw [q1, z]) e1)
        exact ⟨a, ws, q1, q2, by rw [upd_ne hap]; exact q3, q4, q5.mono s1⟩
    · by_cases hi : i = n
      · subst hi
        rw [List.getElem?_set_self hn] at h1
        cases h1; cases h2
      · by_cases hj : j = n
        · subst hj
          rw [List.getElem?_set_self hn] at h3
          cases h3; cases h4
        · rw [List.getElem?_set_ne (Ne.symm hi)] at h1
          rw [List.getElem?_set_ne (Ne.symm hj)] at h3
          exact k.djh i j s t ys zs a h1 h2 h3 h4
theorem xe_int {n : Nat} : XE X (.Constant (.int i) n pos) ρ (.int i) ρ := .of pe_int fun F0 G F H σ k Q q => q _ F H k (Same.refl _) (.int i)
theorem xe_bl {n : Nat} {k : Bool} : XE X (.Constant (.bool k) n pos) ρ (.bool k) ρ := .of pe_bl fun F0 G F H σ k' Q q => q _ F H k' (Same.refl _) (.bl k)
theorem xe_none {n : Nat} : XE X (.Constant .none n pos) ρ .none ρ := .of pe_non fun F0 G F H σ k Q q => q _ F H k (Same.refl _) .non
theorem xe_str {n : Nat} {s : Str} : XE X (.Constant (.str s) n pos) ρ (.str s) ρ := .of pe_str fun F0 G F H σ k Q q => q _ F H k (Same.refl _) (.str s)
theorem xe_globI {nm : Str} {t : Tok} (hg : Gl X nm) (hm : X.mg nm = some (.int i t)) (hd : (nm == ("__debug__" : Str)) = false := by decide) : XE X (.Name nm pos) ρ (.int i) ρ :=
  .of (pe_glob (v := .int i) hg hm ⟨t, rfl⟩ hd) fun F0 G F H σ k Q q => q _ F H k (Same.refl _) (.int i)

/-! ### operators by values -/
/-- what a two-place operation gives, nothing changed -/
def BR (X : Cx) (f : Value → Value → Sem Value) (x y z : D) : Prop := ∃ r : R2, OpR X f r ∧ ∀ (F H : Hp) (v w : V) (Q : VK), Same F H → Rp X.K F v x → Rp X.K F w y → (∀ u F' H', Gr F H F' H' → Rp X.K F' u z → Q u H') → r v w H Q
/-- .. a new list -/
def BRO (X : Cx) (f : Value → Value → Sem Value) (x y : D) (zs : List D) : Prop := ∃ r : R2, OpR X f r ∧ ∀ (F H : Hp) (v w : V) (Q : VK), Same F H → Rp X.K F v x → Rp X.K F w y → (∀ p vs, H p = none → Rps X.K F vs zs → Q (.ref p) (upd H p (.lst vs))) → r v w H Q
theorem BRO.br {f : Value → Value → Sem Value} {zs : List D} (h : BRO X f x y zs) : BR X f x y (.list zs) := by
  obtain ⟨r, o, g⟩ := h
  exact ⟨r, o, fun F H v w Q fh h1 h2 q => g F H v w Q fh h1 h2 fun p vs hp dv => by
    have gr : Gr F H (upd F p (.lst vs)) (upd H p (.lst vs)) := .laid fh hp
    exact q _ _ _ gr (.lst upd_same (rps_mono gr.f _ _ dv))⟩
/-- ints -/
theorem br_I {f : Value → Value → Sem Value} {C : Int → Int → Prop} {g : Int → Int → Int} (o : OpR X f (rI C fun i j => .int (g i j))) (hc : C i j) : BR X f (.int i) (.int j) (.int (g i j)) :=
  ⟨_, o, fun F H v w Q fh h1 h2 q => by
    cases h1; cases h2
    exact ⟨i, j, rfl, rfl, hc, q _ F H (.refl fh) (.int _)⟩⟩
theorem br_I0 {f : Value → Value → Sem Value} {g : Int → Int → Int} (o : OpR X f (rI0 fun i j => .int (g i j))) : BR X f (.int i) (.int j) (.int (g i j)) :=
  ⟨_, o, fun F H v w Q fh h1 h2 q => by
    cases h1; cases h2
    exact ⟨i, j, rfl, rfl, q _ F H (.refl fh) (.int _)⟩⟩
theorem br_B0 {f : Value → Value → Sem Value} {g : Int → Int → Bool} (o : OpR X f (rI0 fun i j => .bl (g i j))) : BR X f (.int i) (.int j) (.bool (g i j)) :=
  ⟨_, o, fun F H v w Q fh h1 h2 q => by
    cases h1; cases h2
    exact ⟨i, j, rfl, rfl, q _ F H (.refl fh) (.bl _)⟩⟩
theorem br_add : BR X (binaryOp .Add) (.int i) (.int j) (.int (i + j)) := br_I0 op_add
theorem br_sub : BR X (binaryOp .Sub) (.int i) (.int j) (.int (i - j)) := br_I0 op_sub
theorem br_mul (h : CMul i j) : BR X (binaryOp .Mult) (.int i) (.int j) (.int (i * j)) := br_I op_mul h
theorem br_fdiv (h : CDiv i j) : BR X (binaryOp .FloorDiv) (.int i) (.int j) (.int (i / j)) := br_I op_fdiv h
theorem br_mod (h : 0 < j) : BR X (binaryOp .Mod) (.int i) (.int j) (.int (i % j)) := br_I op_mod h
theorem br_pow (h : CPow i j) : BR X (binaryOp .Pow) (.int i) (.int j) (.int (i ^ j.toNat)) := br_I op_pow h
theorem br_lt : BR X (compareOp .Lt) (.int i) (.int j) (.bool (decide (i < j))) := br_B0 op_lt
theorem br_le : BR X (compareOp .LtE) (.int i) (.int j) (.bool (decide (i ≤ j))) := br_B0 op_le
theorem br_gt : BR X (compareOp .Gt) (.int i) (.int j) (.bool (decide (j < i))) := br_B0 op_gt
theorem br_ge : BR X (compareOp .GtE) (.int i) (.int j) (.bool (decide (j ≤ i))) := br_B0 op_ge
theorem dp_fun {K : PySem.W.Frag} {F : Hp} {v : V} (h : Rp K F v (.int i)) : v = .int i := by cases h; rfl
theorem br_eqI : BR X (compareOp .Eq) (.int i) (.int j) (.bool (decide (i = j))) :=
  ⟨_, op_eq, fun F H v w Q fh h1 h2 q => by
    cases h1; cases h2
    refine ⟨rfl, ?_⟩
    have e : decide (V.int i = V.int j) = decide (i = j) := by rw [dec_int, Bool.beq_eq_decide_eq]
    rw [e]
    exact q _ F H (.refl fh) (.bl _)⟩
theorem br_neI : BR X (compareOp .NotEq) (.int i) (.int j) (.bool (!decide (i = j))) :=
  ⟨_, op_ne, fun F H v w Q fh h1 h2 q => by
    cases h1; cases h2
    refine ⟨rfl, ?_⟩
    have e : decide (V.int i = V.int j) = decide (i = j) := by rw [dec_int, Bool.beq_eq_decide_eq]
    rw [e]
    exact q _ F H (.refl fh) (.bl _)⟩
theorem br_eqB {i j : Bool} : BR X (compareOp .Eq) (.bool i) (.bool j) (.bool (i == j)) :=
  ⟨_, op_eq, fun F H v w Q fh h1 h2 q => by
    cases h1; cases h2
    refine ⟨rfl, ?_⟩
    rw [dec_bl]
    exact q _ F H (.refl fh) (.bl _)⟩
theorem br_neB {i j : Bool} : BR X (compareOp .NotEq) (.bool i) (.bool j) (.bool (!(i == j))) :=
  ⟨_, op_ne, fun F H v w Q fh h1 h2 q => by
    cases h1; cases h2
    refine ⟨rfl, ?_⟩
    rw [dec_bl]
    exact q _ F H (.refl fh) (.bl _)⟩
/-- == of data of any form -/
theorem br_eqD (hu : X.A.units + 64 < cLine) (sx : SeqAt.shaped x = true) (sy : SeqAt.shaped y = true) : BR X (compareOp .Eq) x y (.bool (PyData.eqv x y)) :=
  ⟨_, op_eqD hu, fun F H v w Q fh h1 h2 q => ⟨x, y, rp_dp _ _ (rp_mono fh _ _ h1) (SeqAt.canLay_of_shaped sx), rp_dp _ _ (rp_mono fh _ _ h2) (SeqAt.canLay_of_shaped sy), sx, sy, q _ F H (.refl fh) (.bl _)⟩⟩
theorem br_neD (hu : X.A.units + 64 < cLine) (sx : SeqAt.shaped x = true) (sy : SeqAt.shaped y = true) : BR X (compareOp .NotEq) x y (.bool (!PyData.eqv x y)) :=
  ⟨_, op_neD hu, fun F H v w Q fh h1 h2 q => ⟨x, y, rp_dp _ _ (rp_mono fh _ _ h1) (SeqAt.canLay_of_shaped sx), rp_dp _ _ (rp_mono fh _ _ h2) (SeqAt.canLay_of_shaped sy), sx, sy, q _ F H (.refl fh) (.bl _)⟩⟩
def isNo : D → Bool
  | .none => true
  | _ => false
theorem dp_no {K : PySem.W.Frag} {F : Hp} {v : V} (h : Rp K F v x) : decide (v = V.non) = isNo x := by
  cases h <;> first | rfl | exact decide_eq_true rfl | exact decide_eq_false (fun z => by cases z)
theorem br_isN : BR X (compareOp .Is) x .none (.bool (isNo x)) :=
  ⟨_, op_isN, fun F H v w Q fh h1 h2 q => by
    cases h2
    exact ⟨rfl, by rw [dp_no h1]; exact q _ F H (.refl fh) (.bl _)⟩⟩
theorem br_notN : BR X (compareOp .IsNot) x .none (.bool (!isNo x)) :=
  ⟨_, op_notN, fun F H v w Q fh h1 h2 q => by
    cases h2
    exact ⟨rfl, by rw [dp_no h1]; exact q _ F H (.refl fh) (.bl _)⟩⟩
/-- lists glued -/
theorem bro_cat {xs ys : List D} (hz : xs.length + ys.length ≤ 1000000) : BRO X (binaryOp .Add) (.list xs) (.list ys) (xs ++ ys) :=
  ⟨_, op_cat, fun F H v w Q fh h1 h2 q => by
    cases h1 with
    | lst s1 a1 =>
      cases h2 with
      | lst s2 a2 =>
        refine ⟨_, _, _, _, rfl, rfl, fh _ _ s1, fh _ _ s2, ?_, fun p hp => q p _ hp (Rps.append a1 a2)⟩
        rw [Rps.length a1, Rps.length a2]
        exact Nat.le_trans hz (by decide)⟩

theorem xe_op {op : Operator} (h : BR X (binaryOp op) x y z) (ha : XE X a ρ x ρ1) (hb : XE X b ρ1 y ρ2) : XE X (.BinOp a op b pos) ρ z ρ2 := by
  obtain ⟨r, o, g⟩ := h
  exact .of (pe_op o (pcE a) (pcE b)) fun F0 G F H σ k Q q => ha F0 G F H σ k _ fun v F1 H1 k1 f1 d1 => hb F0 G F1 H1 σ k1 _ fun w F2 H2 k2 f2 d2 =>
    g F2 H2 v w Q k2.fh (rp_mono f2 _ _ d1) d2 fun u F3 H3 gr d3 => q u F3 H3 (k2.gr gr) ((f1.trans f2).trans gr.f) d3
theorem xe_un {i : Int} (ha : XE X a ρ (.int i) ρ1) : XE X (.UnaryOp .USub a pos) ρ (.int (-i)) ρ1 :=
  .of (pe_un un_neg (pcE a)) fun F0 G F H σ k Q q => ha F0 G F H σ k _ fun v F1 H1 k1 f1 d1 => ⟨i, dp_fun d1, q _ F1 H1 k1 f1 (.int _)⟩
theorem xe_cmp {op : CmpOp} (h : BR X (compareOp op) x y z) (ha : XE X a ρ x ρ1) (hb : XE X b ρ1 y ρ2) (hm : behindInMarks op b = false := by exact nomark _) : XE X (.Compare a [op] [b] pos) ρ z ρ2 := by
  obtain ⟨r, o, g⟩ := h
  exact .of (pe_cmpR o (pcE a) (pcE b) hm) fun F0 G F H σ k Q q => ha F0 G F H σ k _ fun v F1 H1 k1 f1 d1 => hb F0 G F1 H1 σ k1 _ fun w F2 H2 k2 f2 d2 =>
    g F2 H2 v w Q k2.fh (rp_mono f2 _ _ d1) d2 fun u F3 H3 gr d3 => q u F3 H3 (k2.gr gr) ((f1.trans f2).trans gr.f) d3
theorem xt_cmp {op : CmpOp} {bb : Bool} (h : BR X (compareOp op) x y (.bool bb)) (ha : XE X a ρ x ρ1) (hb : XE X b ρ1 y ρ2) (hm : behindInMarks op b = false := by exact nomark _) : XT X (.Compare a [op] [b] pos) ρ bb ρ2 := by
  obtain ⟨r, o, g⟩ := h
  exact .of (pt_cmpR o (pcE a) (pcE b) hm) fun F0 G F H σ k Q q => ha F0 G F H σ k _ fun v F1 H1 k1 f1 d1 => hb F0 G F1 H1 σ k1 _ fun w F2 H2 k2 f2 d2 =>
    g F2 H2 v w _ k2.fh (rp_mono f2 _ _ d1) d2 fun u F3 H3 gr d3 => by
      cases d3
      exact ⟨bb, rfl, q F3 H3 (k2.gr gr) ((f1.trans f2).trans gr.f)⟩
/-- a < b < c over plain things -/
theorem xe_chain {op op' : CmpOp} {k1 k2 : Bool} (h : BR X (compareOp op) x y (.bool k1)) (h' : BR X (compareOp op') y z (.bool k2)) (ha : XE X a ρ x ρ1) (hb : XE X b ρ1 y ρ2) (hc : XE X c ρ2 z ρ2) (hm2 : lastMarks [op, op'] [b, c] = false := by with_unfolding_all rfl) :
    XE X (.Compare a [op, op'] [b, c] pos) ρ (.bool (k1 && k2)) ρ2 := by
  obtain ⟨r, o, g⟩ := h
  obtain ⟨r', o', g'⟩ := h'
  exact .of (pe_chain o o' (pcE a) (pcE b) (pcE c) hm2) fun F0 G F H σ k Q q => ha F0 G F H σ k _ fun v F1 H1 kk1 f1 d1 => hb F0 G F1 H1 σ kk1 _ fun w F2 H2 kk2 f2 d2 =>
    g F2 H2 v w _ kk2.fh (rp_mono f2 _ _ d1) d2 fun u F3 H3 gr d3 => by
      cases d3
      refine ⟨k1, rfl, ?_⟩
      cases k1 with
      | true =>
        rw [if_pos rfl]
        refine hc F0 G F3 H3 σ (kk2.gr gr) _ fun u F4 H4 kk4 f4 d4 => ?_
        exact g' F4 H4 w u Q kk4.fh (rp_mono (gr.f.trans f4) _ _ d2) d4 fun u F5 H5 gr5 d5 => q u F5 H5 (kk4.gr gr5) ((((f1.trans f2).trans gr.f).trans f4).trans gr5.f) d5
      | false =>
        rw [if_neg Bool.false_ne_true]
        exact q _ F3 H3 (kk2.gr gr) ((f1.trans f2).trans gr.f) (.bl _)
/-! ### truth -/
theorem xt_val {bb : Bool} (h : XE X e ρ (.bool bb) ρ1) (he : ∀ whole, isTrue e X.env whole = (do let v ← whole; standAt e.pos; holding [v] (truthy v)) := by intro _; rfl) : XT X e ρ bb ρ1 :=
  .of (pt_val (pcE e) he) fun F0 G F H σ k Q q => h F0 G F H σ k _ fun v F1 H1 k1 f1 d1 => by
    cases d1
    exact ⟨bb, rfl, q F1 H1 k1 f1⟩
theorem xt_not {bb : Bool} (h : XT X a ρ bb ρ1) : XT X (.UnaryOp .Not a pos) ρ (!bb) ρ1 :=
  .of (pt_not (pcT a)) fun F0 G F H σ k Q q => h F0 G F H σ k _ fun F1 H1 k1 f1 => q F1 H1 k1 f1
theorem xe_not {bb : Bool} (h : XE X a ρ (.bool bb) ρ1) : XE X (.UnaryOp .Not a pos) ρ (.bool (!bb)) ρ1 :=
  .of (pe_not (pcE a)) fun F0 G F H σ k Q q => h F0 G F H σ k _ fun v F1 H1 k1 f1 d1 => by
    cases d1
    exact ⟨bb, rfl, q _ F1 H1 k1 f1 (.bl _)⟩
/-- and, or as tests: the slots stay (ρ1) whichever way -/
theorem xt_and {b1 b2 : Bool} (h1 : XT X a ρ b1 ρ1) (h2 : b1 = true → XT X b ρ1 b2 ρ2) (h3 : b1 = false → ρ2 = ρ1) : XT X (.BoolOp .And [a, b] pos) ρ (b1 && b2) ρ2 :=
  .of (PW.pt (pw_and (pcT a) (pw_and1 (pcT b)))) fun F0 G F H σ k Q q => h1 F0 G F H σ k _ fun F1 H1 k1 f1 => by
    cases b1 with
    | true =>
      rw [if_pos rfl]
      exact h2 rfl F0 G F1 H1 σ k1 _ fun F2 H2 k2 f2 => q F2 H2 k2 (f1.trans f2)
    | false =>
      rw [if_neg Bool.false_ne_true]
      exact q F1 H1 (by rw [h3 rfl]; exact k1) f1
theorem xt_or {b1 b2 : Bool} (h1 : XT X a ρ b1 ρ1) (h2 : b1 = false → XT X b ρ1 b2 ρ2) (h3 : b1 = true → ρ2 = ρ1) : XT X (.BoolOp .Or [a, b] pos) ρ (b1 || b2) ρ2 :=
  .of (PW.pt (pw_or (pcT a) (pw_or1 (pcT b)))) fun F0 G F H σ k Q q => h1 F0 G F H σ k _ fun F1 H1 k1 f1 => by
    cases b1 with
    | false =>
      rw [if_neg Bool.false_ne_true]
      exact h2 rfl F0 G F1 H1 σ k1 _ fun F2 H2 k2 f2 => q F2 H2 k2 (f1.trans f2)
    | true =>
      rw [if_pos rfl]
      exact q F1 H1 (by rw [h3 rfl]; exact k1) f1
theorem xe_one {op : BoolOp} (h : XE X a ρ x ρ1) : XE X (.BoolOp op [a] pos) ρ x ρ1 := .of (pe_one (pcE a)) fun F0 G F H σ k Q q => h F0 G F H σ k Q q
theorem xe_and {b1 : Bool} {rest : List Expr} (h1 : XE X a ρ (.bool b1) ρ1) (h2 : b1 = true → XE X (.BoolOp .And (b :: rest) pos) ρ1 z ρ2) (h3 : b1 = false → ρ2 = ρ1 ∧ z = .bool false) : XE X (.BoolOp .And (a :: b :: rest) pos) ρ z ρ2 :=
  .of (pe_and (pcE a) (pcE _)) fun F0 G F H σ k Q q => h1 F0 G F H σ k _ fun v F1 H1 k1 f1 d1 => by
    cases d1
    refine ⟨b1, rfl, ?_⟩
    cases b1 with
    | true =>
      rw [if_pos rfl]
      exact h2 rfl F0 G F1 H1 σ k1 _ fun v F2 H2 k2 f2 => q v F2 H2 k2 (f1.trans f2)
    | false =>
      rw [if_neg Bool.false_ne_true]
      exact q _ F1 H1 (by rw [(h3 rfl).1]; exact k1) f1 (by rw [(h3 rfl).2]; exact .bl _)
theorem xe_or {b1 : Bool} {rest : List Expr} (h1 : XE X a ρ (.bool b1) ρ1) (h2 : b1 = false → XE X (.BoolOp .Or (b :: rest) pos) ρ1 z ρ2) (h3 : b1 = true → ρ2 = ρ1 ∧ z = .bool true) : XE X (.BoolOp .Or (a :: b :: rest) pos) ρ z ρ2 :=
  .of (pe_or (pcE a) (pcE _)) fun F0 G F H σ k Q q => h1 F0 G F H σ k _ fun v F1 H1 k1 f1 d1 => by
    cases d1
    refine ⟨b1, rfl, ?_⟩
    cases b1 with
    | false =>
      rw [if_neg Bool.false_ne_true]
      exact h2 rfl F0 G F1 H1 σ k1 _ fun v F2 H2 k2 f2 => q v F2 H2 k2 (f1.trans f2)
    | true =>
      rw [if_pos rfl]
      exact q _ F1 H1 (by rw [(h3 rfl).1]; exact k1) f1 (by rw [(h3 rfl).2]; exact .bl _)
theorem xe_if {bb : Bool} (hc : XT X c ρ bb ρ1) (h1 : bb = true → XE X a ρ1 z ρ2) (h2 : bb = false → XE X b ρ1 z ρ2) : XE X (.IfExp c a b pos) ρ z ρ2 :=
  .of (pe_ifExp (pcT c) (pcE a) (pcE b)) fun F0 G F H σ k Q q => hc F0 G F H σ k _ fun F1 H1 k1 f1 => by
    cases bb with
    | true =>
      rw [if_pos rfl]
      exact h1 rfl F0 G F1 H1 σ k1 _ fun v F2 H2 k2 f2 => q v F2 H2 k2 (f1.trans f2)
    | false =>
      rw [if_neg Bool.false_ne_true]
      exact h2 rfl F0 G F1 H1 σ k1 _ fun v F2 H2 k2 f2 => q v F2 H2 k2 (f1.trans f2)
/-! ### argument lists, displays -/
theorem XA.of {ta : TA} (h : PA X es ta) (t : ∀ (F0 G F H : Hp) (σ : L2.St), Ok X.K F0 G F H σ ρ → ∀ Q : List V → Hp → Prop, (∀ vs F' H', Ok X.K F0 G F' H' σ ρ1 → Same F F' → Rps X.K F' vs ds → Q vs H') → ta σ H Q) : XA X es ρ ds ρ1 :=
  fun F0 G F H σ k Q q pos pins s I => h.run pos pins s σ H Q I (t F0 G F H σ k Q q)
theorem xa_nil : XA X [] ρ [] ρ := .of pa_nil fun F0 G F H σ k Q q => q [] F H k (Same.refl _) .nil
theorem xa_cons (h : XE X e ρ x ρ1) (t : XA X es ρ1 ds ρ2) (hs : starEach (e :: es) X.env = (false, eval e X.env) :: starEach es X.env := by rfl) : XA X (e :: es) ρ (x :: ds) ρ2 :=
  .of (pa_cons (pcE e) (pcA es) hs) fun F0 G F H σ k Q q => h F0 G F H σ k _ fun v F1 H1 k1 f1 d1 => t F0 G F1 H1 σ k1 _ fun vs F2 H2 k2 f2 d2 =>
    q (v :: vs) F2 H2 k2 (f1.trans f2) (.cons (rp_mono f2 _ _ d1) d2)
theorem XO.of {xs : List D} {te : TE} (h : PE X e te) (t : ∀ (F0 G F H : Hp) (σ : L2.St), Ok X.K F0 G F H σ ρ → ∀ Q : VK, (∀ p vs F1 H1, Ok X.K F0 G F1 H1 σ ρ1 → Same F F1 → H1 p = none → Rps X.K F1 vs xs → Q (.ref p) (upd H1 p (.lst vs))) → te σ H Q) : XO X e ρ xs ρ1 :=
  fun F0 G F H σ k Q q pins s I => h.run pins s σ H Q I (t F0 G F H σ k Q fun p vs F1 H1 k1 f1 hp dv => by
    refine q p vs F1 _ (k1.loose hp) f1 upd_same ?_ ?_ (fun i s ys e1 e2 z => ?_) dv
    · cases e : F1 p with
      | none => rfl
      | some u => rw [k1.fh p u e] at hp; cases hp
    · cases e : G p with
      | none => rfl
      | some u => rw [k1.gh p u e] at hp; cases hp
    · obtain ⟨a, ws, q1, q2, _⟩ := k1.has i s ys e1 e2
      rw [q1] at z
      cases z
      rw [hp] at q2
      cases q2)
/-- a new list of one's own, taken as data -/
theorem XO.xe {xs : List D} (h : XO X e ρ xs ρ1) : XE X e ρ (.list xs) ρ1 := fun F0 G F H σ k Q q => h F0 G F H σ k Q fun p vs F1 H1 k1 f1 hp fp gp ap dv => by
  have s1 : Same F1 (upd F1 p (.lst vs)) := fun b u e => by rw [upd_ne (ne_of_none e fp)]; exact e
  refine q (.ref p) (upd F1 p (.lst vs)) H1 ⟨k1.len, fun b u e => ?_, k1.gh, fun b hb => ?_, fun i y h => ?_, k1.bor, fun i s ys h1 h2 => ?_, k1.djh⟩ (f1.trans s1) (.lst upd_same (rps_mono s1 _ _ dv))
  · by_cases hbp : b = p
    · subst hbp; rw [upd_same] at e; cases e; exact hp
    · rw [upd_ne hbp] at e; exact k1.fh b u e
  · rw [upd_ne (mut_ne gp hb)]; exact k1.g0 b hb
  · obtain ⟨v, q1, q2⟩ := k1.dat i y h
    exact ⟨v, q1, rp_mono s1 _ _ q2⟩
  · obtain ⟨a, ws, q1, q2, q3, q4, q5⟩ := k1.has i s ys h1 h2
    have hap : a ≠ p := fun z => ap i s ys h1 h2 (by rw [q1, z])
    exact ⟨a, ws, q1, q2, by rw [upd_ne hap]; exact q3, q4, q5.mono s1⟩
theorem xo_lst (h : XA X es ρ ds ρ1) (hz : ds.length ≤ 100000) : XO X (.List es pos) ρ ds ρ1 :=
  .of (pe_lst (pcA es)) fun F0 G F H σ k Q q => h F0 G F H σ k _ fun vs F1 H1 k1 f1 d1 => ⟨by rw [Rps.length d1]; exact Nat.le_trans hz (by decide), fun p hp => q p vs F1 H1 k1 f1 hp d1⟩
theorem xe_lst (h : XA X es ρ ds ρ1) (hz : ds.length ≤ 100000) : XE X (.List es pos) ρ (.list ds) ρ1 := (xo_lst h hz).xe
theorem xe_tup {n : Nat} (h : XA X es ρ ds ρ1) (hz : ds.length ≤ 100000) : XE X (.Tuple es n pos) ρ (.tuple ds) ρ1 :=
  .of (pe_tup (pcA es)) fun F0 G F H σ k Q q => h F0 G F H σ k _ fun vs F1 H1 k1 f1 d1 => ⟨by rw [Rps.length d1]; exact Nat.le_trans hz (by decide), fun p hp => by
    have gr : Gr F1 H1 (upd F1 p (.tup vs)) (upd H1 p (.tup vs)) := .laid k1.fh hp
    exact q _ _ _ (k1.gr gr) (f1.trans gr.f) (.tup upd_same (rps_mono gr.f _ _ d1))⟩
theorem xo_op {op : Operator} {zs : List D} (h : BRO X (binaryOp op) x y zs) (ha : XE X a ρ x ρ1) (hb : XE X b ρ1 y ρ2) : XO X (.BinOp a op b pos) ρ zs ρ2 := by
  obtain ⟨r, o, g⟩ := h
  exact .of (pe_op o (pcE a) (pcE b)) fun F0 G F H σ k Q q => ha F0 G F H σ k _ fun v F1 H1 k1 f1 d1 => hb F0 G F1 H1 σ k1 _ fun w F2 H2 k2 f2 d2 =>
    g F2 H2 v w Q k2.fh (rp_mono f2 _ _ d1) d2 fun p vs hp dv => q p vs F2 H2 k2 (f1.trans f2) hp dv
end
end DL
set_option Elab.async false
set_option linter.all false
set_option maxRecDepth 100000
set_option maxHeartbeats 2000000
namespace DL
open PySem PySem.Spec PyProof.Rows L2
section
variable {X : Cx} {e a b c : Expr} {es : List Expr} {ρ ρ1 ρ2 ρ3 : List Sl} {d x y z : D} {ds : List D} {pos : Pos} {i j : Int}
/-! ### places -/
theorem atI_len {α β : Type} {xs : List α} {ys : List β} (h : xs.length = ys.length) (i : Int) : ixN xs.length i = ixN ys.length i := by rw [h]
theorem rps_at {K : PySem.W.Frag} {H : Hp} {vs : List V} (h : Rps K H vs ds) (e : atI ds i = some x) : ∃ v, atI vs i = some v ∧ Rp K H v x := by
  unfold atI at e ⊢
  rw [Rps.length h]
  cases q : ixN ds.length i with
  | none => rw [q] at e; cases e
  | some j =>
    rw [q] at e
    exact Rps.get h e
theorem atI_nat' {α : Type} {xs : List α} {n : Nat} {v : α} (h : xs[n]? = some v) : atI xs (n : Int) = some v := atI_nat h
/-- a tuple's item -/
theorem xe_ixT {xs : List D} (ha : XE X a ρ (.tuple xs) ρ1) (hb : XE X b ρ1 (.int i) ρ2) (hx : atI xs i = some x) (hs : PlainIx b := by exact fun _ _ => rfl) : XE X (.Subscript a b pos) ρ x ρ2 :=
  .of (pe_ix ix_tup (pcE a) (pcE b) hs) fun F0 G F H σ k Q q => ha F0 G F H σ k _ fun v F1 H1 k1 f1 d1 => hb F0 G F1 H1 σ k1 _ fun w F2 H2 k2 f2 d2 => by
    cases d1 with
    | tup s r =>
      cases d2
      obtain ⟨u, e1, e2⟩ := rps_at (rps_mono f2 _ _ r) hx
      exact ⟨_, _, i, u, rfl, rfl, sqT_mono (f2.trans k2.fh) s, e1, q u F2 H2 k2 (f1.trans f2) e2⟩
theorem xe_ixL {xs : List D} (ha : XE X a ρ (.list xs) ρ1) (hb : XE X b ρ1 (.int i) ρ2) (hx : atI xs i = some x) (hs : PlainIx b := by exact fun _ _ => rfl) : XE X (.Subscript a b pos) ρ x ρ2 :=
  .of (pe_ix ix_list (pcE a) (pcE b) hs) fun F0 G F H σ k Q q => ha F0 G F H σ k _ fun v F1 H1 k1 f1 d1 => hb F0 G F1 H1 σ k1 _ fun w F2 H2 k2 f2 d2 => by
    cases d1 with
    | lst s r =>
      cases d2
      obtain ⟨u, e1, e2⟩ := rps_at (rps_mono f2 _ _ r) hx
      exact ⟨_, _, i, u, rfl, rfl, .of (k2.fh _ _ (f2 _ _ s)), e1, q u F2 H2 k2 (f1.trans f2) e2⟩
/-- the script's item -/
theorem xe_ixS {xs : List D} (ha : XE X a ρ (scrD xs) ρ1) (hb : XE X b ρ1 (.int i) ρ2) (hx : atI xs i = some x) (hs : PlainIx b := by exact fun _ _ => rfl) : XE X (.Subscript a b pos) ρ x ρ2 :=
  .of (pe_ix ix_list (pcE a) (pcE b) hs) fun F0 G F H σ k Q q => ha F0 G F H σ k _ fun v F1 H1 k1 f1 d1 => hb F0 G F1 H1 σ k1 _ fun w F2 H2 k2 f2 d2 => by
    cases d1 with
    | scr s r =>
      cases d2
      obtain ⟨u, e1, e2⟩ := rps_at (rps_mono f2 _ _ r) hx
      exact ⟨_, _, i, u, rfl, rfl, sqL_mono (f2.trans k2.fh) s, e1, q u F2 H2 k2 (f1.trans f2) e2⟩
/-- an item of a list of one's own, by its name -/
theorem xe_ixO (n : Nat) {s : Sl} {xs : List D} {nm : Str} {p1 : Pos} (hb : XE X b ρ (.int i) ρ1) (hr : ρ1[n]? = some s) (hs : s.own = some xs) (hx : atI xs i = some x) (hN : X.N[n]? = some nm := by rfl) (hv : Vis X.env.scope nm := by first | exact Or.inl rfl | exact Or.inr (Or.inl rfl) | exact Or.inr (Or.inr rfl)) (h0 : ∃ s0 xs0, ρ[n]? = some s0 ∧ s0.own = some xs0 := by exact ⟨_, _, rfl, rfl⟩)
    (hd : (nm == ("__debug__" : Str)) = false := by decide) (hcd : (nm == ("__classdict__" : Str)) = false := by decide) (hp : PlainIx b := by exact fun _ _ => rfl) : XE X (.Subscript (.Name nm p1) b pos) ρ x ρ1 :=
  .of (pe_ix ix_list (pe_var hN hv hd hcd) (pcE b) hp) fun F0 G F H σ k Q q => by
    obtain ⟨s0, xs0, r0, o0⟩ := h0
    obtain ⟨p0, vs0, e0, _⟩ := k.own n s0 xs0 r0 o0
    refine ⟨.ref p0, e0, hb F0 G F H σ k _ fun w F2 H2 k2 f2 d2 => ?_⟩
    obtain ⟨p, vs, e1, e2, e3, e4, e5⟩ := k2.own n s xs hr hs
    rw [e0] at e1
    cases e1
    cases d2
    obtain ⟨u, q1, q2⟩ := rps_at e5 hx
    exact ⟨p0, vs, i, u, rfl, rfl, .of e2, q1, q u F2 H2 k2 f2 q2⟩
theorem rps_cut {K : PySem.W.Frag} {H : Hp} {vs : List V} (h : Rps K H vs ds) (lo hi : Option Int) : Rps K H (cutV vs lo hi) ((ds.drop (HT.sIx ds.length 0 lo)).take (HT.sIx ds.length ds.length hi - HT.sIx ds.length 0 lo)) := by
  unfold cutV
  rw [Rps.length h]
  exact Rps.take (Rps.drop h _) _

/-! ### calls by values -/
/-- what a call gives -/
def CR (X : Cx) (f : Value) (ds : List D) (z : D) : Prop := ∃ r : List V → Hp → VK → Prop, CallR X f r ∧ ∀ (F H : Hp) (vs : List V) (Q : VK), Same F H → Rps X.K F vs ds → (∀ u F' H', Gr F H F' H' → Rp X.K F' u z → Q u H') → r vs H Q
/-- .. a new list -/
def CRO (X : Cx) (f : Value) (ds : List D) (zs : List D) : Prop := ∃ r : List V → Hp → VK → Prop, CallR X f r ∧ ∀ (F H : Hp) (vs : List V) (Q : VK), Same F H → Rps X.K F vs ds → (∀ p ws F' H', Gr F H F' H' → H' p = none → Rps X.K F' ws zs → Q (.ref p) (upd H' p (.lst ws))) → r vs H Q
theorem CRO.cr {f : Value} {zs : List D} (h : CRO X f ds zs) : CR X f ds (.list zs) := by
  obtain ⟨r, o, g⟩ := h
  exact ⟨r, o, fun F H vs Q fh h1 q => g F H vs Q fh h1 fun p ws F1 H1 g1 hp dv => by
    have gr : Gr F1 H1 (upd F1 p (.lst ws)) (upd H1 p (.lst ws)) := .laid g1.fh hp
    exact q _ _ _ (g1.trans gr) (.lst upd_same (rps_mono gr.f _ _ dv))⟩
theorem xe_callB {id : String} {nm : Str} {p : Pos} (h : CR X (.builtin id) ds z) (hg : Gl X nm) (hm : X.mg nm = none) (hv : bootBuiltins nm = some (.builtin id)) (ha : XA X (e :: es) ρ ds ρ1) (hn : nm ≠ "__name__" := by decide) (hdb : (nm == ("__debug__" : Str)) = false := by decide) (he : starEach (e :: es) X.env = (false, eval e X.env) :: starEach es X.env := by rfl) (hpl : ((backTo pos (starEach es X.env)).any fun x => x.fst) = false := by rfl) : XE X (.Call (.Name nm p) (e :: es) [] pos) ρ z ρ1 := by
  obtain ⟨r, o, g⟩ := h
  exact .of (pe_callB o hg hm hv (pcA _) hn hdb he hpl) fun F0 G F H σ k Q q => ha F0 G F H σ k _ fun vs F1 H1 k1 f1 d1 => g F1 H1 vs Q k1.fh d1 fun u F2 H2 gr d2 => q u F2 H2 (k1.gr gr) (f1.trans gr.f) d2
theorem xe_callTy {T : String} {nm : Str} {p : Pos} (h : CR X (.type T) ds z) (hg : Gl X nm) (hm : X.mg nm = none) (hv : bootBuiltins nm = some (.type T)) (ha : XA X (e :: es) ρ ds ρ1) (hn : nm ≠ "__name__" := by decide) (hdb : (nm == ("__debug__" : Str)) = false := by decide) (he : starEach (e :: es) X.env = (false, eval e X.env) :: starEach es X.env := by rfl) (hpl : ((backTo pos (starEach es X.env)).any fun x => x.fst) = false := by rfl) : XE X (.Call (.Name nm p) (e :: es) [] pos) ρ z ρ1 := by
  obtain ⟨r, o, g⟩ := h
  exact .of (pe_callTy o hg hm hv (pcA _) hn hdb he hpl) fun F0 G F H σ k Q q => ha F0 G F H σ k _ fun vs F1 H1 k1 f1 d1 => g F1 H1 vs Q k1.fh d1 fun u F2 H2 gr d2 => q u F2 H2 (k1.gr gr) (f1.trans gr.f) d2
theorem xo_callB {id : String} {nm : Str} {p : Pos} {zs : List D} (h : CRO X (.builtin id) ds zs) (hg : Gl X nm) (hm : X.mg nm = none) (hv : bootBuiltins nm = some (.builtin id)) (ha : XA X (e :: es) ρ ds ρ1) (hn : nm ≠ "__name__" := by decide) (hdb : (nm == ("__debug__" : Str)) = false := by decide) (he : starEach (e :: es) X.env = (false, eval e X.env) :: starEach es X.env := by rfl) (hpl : ((backTo pos (starEach es X.env)).any fun x => x.fst) = false := by rfl) : XO X (.Call (.Name nm p) (e :: es) [] pos) ρ zs ρ1 := by
  obtain ⟨r, o, g⟩ := h
  exact .of (pe_callB o hg hm hv (pcA _) hn hdb he hpl) fun F0 G F H σ k Q q => ha F0 G F H σ k _ fun vs F1 H1 k1 f1 d1 => g F1 H1 vs Q k1.fh d1 fun u ws F2 H2 gr hu d2 => q u ws F2 H2 (k1.gr gr) (f1.trans gr.f) hu d2
theorem xo_callTy {T : String} {nm : Str} {p : Pos} {zs : List D} (h : CRO X (.type T) ds zs) (hg : Gl X nm) (hm : X.mg nm = none) (hv : bootBuiltins nm = some (.type T)) (ha : XA X (e :: es) ρ ds ρ1) (hn : nm ≠ "__name__" := by decide) (hdb : (nm == ("__debug__" : Str)) = false := by decide) (he : starEach (e :: es) X.env = (false, eval e X.env) :: starEach es X.env := by rfl) (hpl : ((backTo pos (starEach es X.env)).any fun x => x.fst) = false := by rfl) : XO X (.Call (.Name nm p) (e :: es) [] pos) ρ zs ρ1 := by
  obtain ⟨r, o, g⟩ := h
  exact .of (pe_callTy o hg hm hv (pcA _) hn hdb he hpl) fun F0 G F H σ k Q q => ha F0 G F H σ k _ fun vs F1 H1 k1 f1 d1 => g F1 H1 vs Q k1.fh d1 fun u ws F2 H2 gr hu d2 => q u ws F2 H2 (k1.gr gr) (f1.trans gr.f) hu d2
section
variable {K : PySem.W.Frag} {F H : Hp} {vs : List V}
theorem rps1 (h : Rps K F vs [x]) : ∃ v, vs = [v] ∧ Rp K F v x := by
  cases h with
  | cons h1 h2 => cases h2; exact ⟨_, rfl, h1⟩
theorem rps2 (h : Rps K F vs [x, y]) : ∃ v w, vs = [v, w] ∧ Rp K F v x ∧ Rp K F w y := by
  cases h with
  | cons h1 h2 =>
    obtain ⟨w, rfl, h3⟩ := rps1 h2
    exact ⟨_, _, rfl, h1, h3⟩
end
theorem cr_lenL {xs : List D} : CR X (.builtin "len") [.list xs] (.int xs.length) := ⟨_, call_len_seq, fun F H vs Q fh h q => by
  obtain ⟨v, rfl, h1⟩ := rps1 h
  cases h1 with
  | lst s r => exact ⟨_, _, rfl, .inl (.of (fh _ _ s)), by rw [Rps.length r]; exact q _ F H (.refl fh) (.int _)⟩⟩
theorem cr_lenT {xs : List D} : CR X (.builtin "len") [.tuple xs] (.int xs.length) := ⟨_, call_len_seq, fun F H vs Q fh h q => by
  obtain ⟨v, rfl, h1⟩ := rps1 h
  cases h1 with
  | tup s r => exact ⟨_, _, rfl, .inr (sqT_mono fh s), by rw [Rps.length r]; exact q _ F H (.refl fh) (.int _)⟩⟩
theorem cr_lenS {xs : List D} : CR X (.builtin "len") [scrD xs] (.int xs.length) := ⟨_, call_len_seq, fun F H vs Q fh h q => by
  obtain ⟨v, rfl, h1⟩ := rps1 h
  cases h1 with
  | scr s r => exact ⟨_, _, rfl, .inl (sqL_mono fh s), by rw [Rps.length r]; exact q _ F H (.refl fh) (.int _)⟩⟩
theorem cr_min2 (hc : X.calm = true) : CR X (.builtin "min") [.int i, .int j] (.int (if j < i then j else i)) := ⟨_, call_min2 hc, fun F H vs Q fh h q => by
  obtain ⟨v, w, rfl, h1, h2⟩ := rps2 h
  cases h1; cases h2
  exact ⟨i, j, rfl, q _ F H (.refl fh) (.int _)⟩⟩
theorem cr_max2 (hc : X.calm = true) : CR X (.builtin "max") [.int i, .int j] (.int (if j > i then j else i)) := ⟨_, call_max2 hc, fun F H vs Q fh h q => by
  obtain ⟨v, w, rfl, h1, h2⟩ := rps2 h
  cases h1; cases h2
  exact ⟨i, j, rfl, q _ F H (.refl fh) (.int _)⟩⟩
theorem cr_intI : CR X (.type "int") [.int i] (.int i) := ⟨_, call_int1, fun F H vs Q fh h q => by
  obtain ⟨v, rfl, h1⟩ := rps1 h
  cases h1
  exact .inl ⟨i, rfl, q _ F H (.refl fh) (.int _)⟩⟩
theorem cr_intB {k : Bool} : CR X (.type "int") [.bool k] (.int (if k then 1 else 0)) := ⟨_, call_int1, fun F H vs Q fh h q => by
  obtain ⟨v, rfl, h1⟩ := rps1 h
  cases h1
  exact .inr ⟨k, rfl, q _ F H (.refl fh) (.int _)⟩⟩
theorem cr_tupleL {xs : List D} : CR X (.type "tuple") [.list xs] (.tuple xs) := ⟨_, call_tuple_of, fun F H vs Q fh h q => by
  obtain ⟨v, rfl, h1⟩ := rps1 h
  cases h1 with
  | @lst a ws ds s r =>
    refine ⟨_, _, rfl, .inl ⟨.of (fh _ _ s), fun l hl => ?_⟩⟩
    have gr : Gr F H (upd F l (.tup ws)) (upd H l (.tup ws)) := .laid fh hl
    exact q _ _ _ gr (.tup upd_same (rps_mono gr.f _ _ r))⟩
theorem cr_tupleT {xs : List D} : CR X (.type "tuple") [.tuple xs] (.tuple xs) := ⟨_, call_tuple_of, fun F H vs Q fh h q => by
  obtain ⟨v, rfl, h1⟩ := rps1 h
  cases h1 with
  | tup s r => exact ⟨_, _, rfl, .inr ⟨sqT_mono fh s, q _ F H (.refl fh) (.tup s r)⟩⟩⟩
theorem cro_listT {xs : List D} : CRO X (.type "list") [.tuple xs] xs := ⟨_, call_list_of, fun F H vs Q fh h q => by
  obtain ⟨v, rfl, h1⟩ := rps1 h
  cases h1 with
  | tup s r => exact ⟨_, _, rfl, .inr (sqT_mono fh s), fun l hl => q l _ F H (.refl fh) hl r⟩⟩
theorem cro_listL {xs : List D} : CRO X (.type "list") [.list xs] xs := ⟨_, call_list_of, fun F H vs Q fh h q => by
  obtain ⟨v, rfl, h1⟩ := rps1 h
  cases h1 with
  | lst s r => exact ⟨_, _, rfl, .inl (.of (fh _ _ s)), fun l hl => q l _ F H (.refl fh) hl r⟩⟩
theorem crd_all {bs : List Bool} (hc : X.calm = true) : CR X (.builtin "all") [.list (bs.map .bool)] (.bool (bs.all id)) := ⟨_, cr_all hc, fun F H vs Q fh h q => by
  obtain ⟨v, rfl, h1⟩ := rps1 h
  cases h1 with
  | lst s r =>
    have e := Rps.bools r
    subst e
    exact ⟨_, bs, rfl, .of (fh _ _ s), q _ F H (.refl fh) (.bl _)⟩⟩
theorem crd_any {bs : List Bool} (hc : X.calm = true) : CR X (.builtin "any") [.list (bs.map .bool)] (.bool (bs.any id)) := ⟨_, cr_any hc, fun F H vs Q fh h q => by
  obtain ⟨v, rfl, h1⟩ := rps1 h
  cases h1 with
  | lst s r =>
    have e := Rps.bools r
    subst e
    exact ⟨_, bs, rfl, .of (fh _ _ s), q _ F H (.refl fh) (.bl _)⟩⟩
/-- the ascending list of some ints -/
def sortI (ns : List Int) : List Int := ns.mergeSort (fun a b => decide (a ≤ b))
theorem sortI_perm (ns : List Int) : (sortI ns).Perm ns := List.mergeSort_perm ns _
theorem sortI_sorted (ns : List Int) : (sortI ns).Pairwise (· ≤ ·) := by
  have h := List.pairwise_mergeSort (le := fun a b : Int => decide (a ≤ b)) (fun a b c h1 h2 => by simp at h1 h2 ⊢; omega) (fun a b => by simp; omega) ns
  exact h.imp fun h => by simpa using h
theorem sorted_one {xs ys : List Int} (p : xs.Perm ys) (hx : xs.Pairwise (· ≤ ·)) (hy : ys.Pairwise (· ≤ ·)) : xs = ys :=
  List.Perm.eq_of_pairwise (fun a b _ _ h1 h2 => by omega) hx hy p
theorem cro_sorted {ns : List Int} : CRO X (.builtin "sorted") [.list (ns.map .int)] ((sortI ns).map .int) := ⟨_, cr_sortedI, fun F H vs Q fh h q => by
  obtain ⟨v, rfl, h1⟩ := rps1 h
  cases h1 with
  | lst s r =>
    have e := Rps.ints r
    subst e
    refine ⟨_, ns, rfl, .of (fh _ _ s), fun ns' p pm so hp => ?_⟩
    have e : ns' = sortI ns := sorted_one (pm.trans (sortI_perm ns).symm) so (sortI_sorted ns)
    subst e
    exact q p _ F H (.refl fh) hp (Rps.of_ints _)⟩
end

/-! ### defs: what they promise -/
/-- all arguments data: the value, too -/
def spD (K : PySem.W.Frag) (n : Nat) (R : List D → D → Prop) : Sp := fun vs H Q _ => ∃ (F : Hp) (ds : List D) (d : D), vs.length = n ∧ Same F H ∧ Rps K F vs ds ∧ R ds d ∧
  ∀ v F' H', Gr F H F' H' → Rp K F' v d → Q v H'
/-- the first argument a list that the def may change, to rs' -/
def spB (K : PySem.W.Frag) (n : Nat) (R : List D → List D → D → List D → Prop) : Sp := fun vs H Q _ => ∃ (F : Hp) (a : Addr) (rv vs' : List V) (rs ds : List D) (d : D) (rs' : List D), vs.length = n ∧ vs = .ref a :: vs' ∧ Same F H ∧ F a = none ∧ H a = some (.lst rv) ∧ Rps K F rv rs ∧ Rps K F vs' ds ∧ R rs ds d rs' ∧
  ∀ v F' H' rv', Same F F' → Same F' H' → (∀ b o, b ≠ a → H b = some o → H' b = some o) → (∀ b, Mut (H b) → F' b = F b) → H' a = some (.lst rv') → Rps K F' rv' rs' → Rp K F' v d → Q v H'
section
variable {X : Cx} {e a b c : Expr} {es : List Expr} {ρ ρ1 ρ2 ρ3 : List Sl} {d x y z : D} {ds : List D} {pos : Pos} {i j : Int} {k : Nat} {f : Addr} {fd : FuncData} {ps : List Str} {nm : Str} {p : Pos}
theorem xe_call {n : Nat} {R : List D → D → Prop} (F : FnOk X.prog X.w X.K X.mg X.base CX0 k f fd ps (spD X.K n R)) (hr : Room k X.A) (hg : Gl X nm) (hm : X.mg nm = some (.ref f)) (hk : PySem.W.keepIn X.K (.ref f) = true) (hb : Binds X.K fd ps []) (ha : XA X (e :: es) ρ ds ρ1) (hR : R ds d) (hn : ds.length = n := by rfl) (hdb : (nm == ("__debug__" : Str)) = false := by decide) (he : starEach (e :: es) X.env = (false, eval e X.env) :: starEach es X.env := by rfl) (hpl : ((backTo pos (starEach es X.env)).any fun x => x.fst) = false := by rfl) : XE X (.Call (.Name nm p) (e :: es) [] pos) ρ d ρ1 :=
  .of (pe_call F hr hg hm hk hb .nil pass0 (pcA _) (he := he) (hpl := hpl) (hdb := hdb)) fun F0 G F H σ k Q q => ha F0 G F H σ k _ fun vs F1 H1 k1 f1 d1 => by
    show spD X.K n R (vs ++ []) H1 Q _
    rw [List.append_nil]
    exact ⟨F1, ds, d, by rw [Rps.length d1, hn], k1.fh, d1, hR, fun v F2 H2 gr d2 => q v F2 H2 (k1.gr gr) (f1.trans gr.f) d2⟩
/-- the first argument is a list of one's own (or a lent one), by its name -/
theorem xe_callO (n : Nat) {nm0 : Str} {p0 : Pos} {s : Sl} {rs rs' : List D} {m : Nat} {R : List D → List D → D → List D → Prop} (F : FnOk X.prog X.w X.K X.mg X.base CX0 k f fd ps (spB X.K m R)) (hr : Room k X.A) (hg : Gl X nm) (hm : X.mg nm = some (.ref f)) (hk : PySem.W.keepIn X.K (.ref f) = true) (hb : Binds X.K fd ps []) (ha : XA X es ρ ds ρ1)
    (hs : ρ1[n]? = some s) (ho : s.own = some rs) (hR : R rs ds d rs') (hm2 : ds.length + 1 = m := by rfl)
    (h0 : ∃ s0 xs0, ρ[n]? = some s0 ∧ s0.own = some xs0 := by exact ⟨_, _, rfl, rfl⟩) (hN : X.N[n]? = some nm0 := by rfl) (hv : Vis X.env.scope nm0 := by first | exact Or.inl rfl | exact Or.inr (Or.inl rfl) | exact Or.inr (Or.inr rfl)) (hd : (nm0 == ("__debug__" : Str)) = false := by decide) (hcd : (nm0 == ("__classdict__" : Str)) = false := by decide)
    (hst : starEach (.Name nm0 p0 :: es) X.env = (false, eval (.Name nm0 p0) X.env) :: starEach es X.env := by rfl) (hdb : (nm == ("__debug__" : Str)) = false := by decide) (hpl : ((backTo pos (starEach es X.env)).any fun x => x.fst) = false := by rfl) : XE X (.Call (.Name nm p) (.Name nm0 p0 :: es) [] pos) ρ d (ρ1.set n (s.put rs')) :=
  .of (pe_call F hr hg hm hk hb .nil pass0 (pa_cons (pe_var hN hv hd hcd) (pcA es) hst) (he := hst) (hpl := hpl) (hdb := hdb)) fun F0 G F H σ k Q q => by
    obtain ⟨s0, xs0, r0, o0⟩ := h0
    obtain ⟨p1, vs0, e0, _⟩ := k.own n s0 xs0 r0 o0
    refine ⟨.ref p1, e0, ha F0 G F H σ k _ fun vs F1 H1 k1 f1 d1 => ?_⟩
    obtain ⟨p2, rv, e1, e2, e3, e4, e5⟩ := k1.own n s rs hs ho
    rw [e0] at e1
    cases e1
    show spB X.K m R ((.ref p1 :: vs) ++ []) H1 Q _
    rw [List.append_nil]
    refine ⟨F1, p1, rv, vs, rs, ds, d, rs', by rw [List.length_cons, Rps.length d1, hm2], rfl, k1.fh, e3, e2, e5, d1, hR, fun v F2 H2 rv' f2 fh2 keep new e6 r6 d6 => ?_⟩
    have hn : n < ρ1.length := (List.getElem?_eq_some_iff.mp hs).1
    refine q v F2 H2 ⟨by rw [List.length_set]; exact k1.len, fh2, fun b o eb => ?_, fun b hb => ?_, fun i y h => ?_, fun i a' ys h => ?_, fun i s2 ys h1 h2 => ?_, fun i j s2 t ys zs a h1 h2 h3 h4 => ?_⟩ (f1.trans f2) d6
    · exact keep b o (fun z => by rw [z, e4] at eb; cases eb) (k1.gh b o eb)
    · rw [new b (mut_up k1.gh hb), k1.g0 b hb]
    · by_cases hi : i = n
      · subst hi
        rw [List.getElem?_set_self hn] at h
        have e := Option.some.inj h
        have := Sl.put_own rs' s
        rw [e] at this
        cases this
      · rw [List.getElem?_set_ne (Ne.symm hi)] at h
        obtain ⟨v, q1, q2⟩ := k1.dat i y h
        exact ⟨v, q1, rp_mono f2 _ _ q2⟩
    · by_cases hi : i = n
      · subst hi
        rw [List.getElem?_set_self hn] at h
        cases s with
        | b a'' zs => cases h; exact k1.bor i _ zs hs
        | _ => cases h
      · rw [List.getElem?_set_ne (Ne.symm hi)] at h
        exact k1.bor i a' ys h
    · by_cases hi : i = n
      · subst hi
        rw [List.getElem?_set_self hn] at h1
        cases h1
        rw [Sl.put_has] at h2
        cases h2
        exact ⟨p1, _, e0, e6, by rw [new p1 (by rw [e2]; exact True.intro), e3], e4, rv', rfl, r6⟩
      · rw [List.getElem?_set_ne (Ne.symm hi)] at h1
        obtain ⟨a, ws, q1, q2, q3, q4, q5⟩ := k1.has i s2 ys h1 h2
        have hap : a ≠ p1 := fun z => hi (k1.djh i n s2 s ys (.l rs) p1 h1 h2 hs (Sl.own_has ho) (by rw [q1, z]) e0)
        exact ⟨a, ws, q1, keep a _ hap q2, by rw [new a (by rw [q2]; exact q5.mut), q3], q4, q5.mono f2⟩
    · have back : ∀ {i : Nat} {s2 : Sl} {ys : Own}, (ρ1.set n (s.put rs'))[i]? = some s2 → s2.has = some ys → ∃ s3 ys3, ρ1[i]? = some s3 ∧ s3.has = some ys3 := fun {i s2 ys} h1 h2 => by
        by_cases hi : i = n
        · subst hi; exact ⟨s, _, hs, Sl.own_has ho⟩
        · rw [List.getElem?_set_ne (Ne.symm hi)] at h1
          exact ⟨s2, ys, h1, h2⟩
      obtain ⟨s3, ys3, b1, b2⟩ := back h1 h2
      obtain ⟨s4, ys4, b3, b4⟩ := back h3 h4
      exact k1.djh i j s3 s4 ys3 ys4 a b1 b2 b3 b4
end
end DL
set_option Elab.async false
set_option linter.all false
set_option maxRecDepth 100000
set_option maxHeartbeats 2000000
namespace DL
open PySem PySem.Spec PyProof.Rows L2
section
variable {K : PySem.W.Frag} {F0 G F H F' H' : Hp} {σ : L2.St} {ρ ρ' : List Sl}
/-! ### slots stored -/
theorem Ok.set {n : Nat} {v : V} {x : D} (k : Ok K F0 G F H σ ρ) (r : Rp K F v x) : Ok K F0 G F H (σ.set n (some v)) (ρ.set n (.d x)) where
  len := by rw [List.length_set, List.length_set]; exact k.len
  fh := k.fh
  gh := k.gh
  g0 := k.g0
  dat := fun i y e => by
    by_cases hi : i = n
    · subst hi
      have hn : i < ρ.length := by
        have := (List.getElem?_eq_some_iff.mp e).1
        rwa [List.length_set] at this
      rw [List.getElem?_set_self hn] at e
      cases e
      exact ⟨v, by rw [List.getElem?_set_self (by rw [k.len]; exact hn)], r⟩
    · rw [List.getElem?_set_ne (Ne.symm hi)] at e
      rw [List.getElem?_set_ne (Ne.symm hi)]
      exact k.dat i y e
  bor := fun i a ys e => by
    by_cases hi : i = n
    · subst hi
      have hn : i < ρ.length := by
        have := (List.getElem?_eq_some_iff.mp e).1
        rwa [List.length_set] at this
      rw [List.getElem?_set_self hn] at e
      cases e
    · rw [List.getElem?_set_ne (Ne.symm hi)] at e
      rw [List.getElem?_set_ne (Ne.symm hi)]
      exact k.bor i a ys e
  has := fun i s ys e o => by
    by_cases hi : i = n
    · subst hi
      have hn : i < ρ.length := by
        have := (List.getElem?_eq_some_iff.mp e).1
        rwa [List.length_set] at this
      rw [List.getElem?_set_self hn] at e
      cases e
      cases o
    · rw [List.getElem?_set_ne (Ne.symm hi)] at e
      rw [List.getElem?_set_ne (Ne.symm hi)]
      exact k.has i s ys e o
  djh := fun i j s t xs ys a h1 h2 h3 h4 h5 h6 => by
    have ne : ∀ {i : Nat} {s : Sl} {xs : Own}, (ρ.set n (.d x))[i]? = some s → s.has = some xs → i ≠ n := fun {i s xs} e o z => by
      subst z
      have hn : i < ρ.length := by
        have := (List.getElem?_eq_some_iff.mp e).1
        rwa [List.length_set] at this
      rw [List.getElem?_set_self hn] at e
      cases e
      cases o
    have n1 := ne h1 h2
    have n2 := ne h3 h4
    rw [List.getElem?_set_ne (Ne.symm n1)] at h1 h5
    rw [List.getElem?_set_ne (Ne.symm n2)] at h3 h6
    exact k.djh i j s t xs ys a h1 h2 h3 h4 h5 h6
theorem Ok.setW {n : Nat} {p : Addr} {ho : HO} {w : Own} {s' : Sl} (k : Ok K F0 G F H σ ρ) (hp : H p = some ho) (fp : F p = none) (gp : G p = none) (ap : ∀ (i : Nat) (s : Sl) (ys : Own), ρ[i]? = some s → s.has = some ys → σ[i]? ≠ some (some (V.ref p))) (r : w.At K F p ho) (hs' : s'.has = some w) (hb : ∀ a xs, s' ≠ .b a xs) :
    Ok K F0 G F H (σ.set n (some (.ref p))) (ρ.set n s') where
  len := by rw [List.length_set, List.length_set]; exact k.len
  fh := k.fh
  gh := k.gh
  g0 := k.g0
  dat := fun i y e => by
    by_cases hi : i = n
    · subst hi
      have hn : i < ρ.length := by
        have := (List.getElem?_eq_some_iff.mp e).1
        rwa [List.length_set] at this
      rw [List.getElem?_set_self hn] at e
      rw [Option.some.inj e] at hs'
      cases hs'
    · rw [List.getElem?_set_ne (Ne.symm hi)] at e
      rw [List.getElem?_set_ne (Ne.symm hi)]
      exact k.dat i y e
  bor := fun i a ys e => by
    by_cases hi : i = n
    · subst hi
      have hn : i < ρ.length := by
        have := (List.getElem?_eq_some_iff.mp e).1
        rwa [List.length_set] at this
      rw [List.getElem?_set_self hn] at e
      exact absurd (Option.some.inj e) (hb a ys)
    · rw [List.getElem?_set_ne (Ne.symm hi)] at e
      rw [List.getElem?_set_ne (Ne.symm hi)]
      exact k.bor i a ys e
  has := fun i s ys e o => by
    by_cases hi : i = n
    · subst hi
      have hn : i < ρ.length := by
        have := (List.getElem?_eq_some_iff.mp e).1
        rwa [List.length_set] at this
      rw [List.getElem?_set_self hn] at e
      rw [← Option.some.inj e, hs'] at o
      cases o
      exact ⟨p, ho, by rw [List.getElem?_set_self (by rw [k.len]; exact hn)], hp, fp, gp, r⟩
    · rw [List.getElem?_set_ne (Ne.symm hi)] at e
      rw [List.getElem?_set_ne (Ne.symm hi)]
      exact k.has i s ys e o
  djh := fun i j s t xs' ys a h1 h2 h3 h4 h5 h6 => by
    have at_n : ∀ {i : Nat} {s : Sl}, (ρ.set n s')[i]? = some s → i = n → ∀ {a : Addr}, (σ.set n (some (V.ref p)))[i]? = some (some (.ref a)) → a = p := fun {i s} e z a h => by
      subst z
      have hn : i < ρ.length := by
        have := (List.getElem?_eq_some_iff.mp e).1
        rwa [List.length_set] at this
      rw [List.getElem?_set_self (by rw [k.len]; exact hn)] at h
      cases h
      rfl
    by_cases n1 : i = n
    · by_cases n2 : j = n
      · rw [n1, n2]
      · have e := at_n h1 n1 h5
        subst e
        rw [List.getElem?_set_ne (Ne.symm n2)] at h3 h6
        exact absurd h6 (ap j t ys h3 h4)
    · by_cases n2 : j = n
      · have e := at_n h3 n2 h6
        subst e
        rw [List.getElem?_set_ne (Ne.symm n1)] at h1 h5
        exact absurd h5 (ap i s xs' h1 h2)
      · rw [List.getElem?_set_ne (Ne.symm n1)] at h1 h5
        rw [List.getElem?_set_ne (Ne.symm n2)] at h3 h6
        exact k.djh i j s t xs' ys a h1 h2 h3 h4 h5 h6
theorem Ok.setO {n : Nat} {p : Addr} {vs : List V} {xs : List D} (k : Ok K F0 G F H σ ρ) (hp : H p = some (.lst vs)) (fp : F p = none) (gp : G p = none) (ap : ∀ (i : Nat) (s : Sl) (ys : Own), ρ[i]? = some s → s.has = some ys → σ[i]? ≠ some (some (V.ref p))) (r : Rps K F vs xs) :
    Ok K F0 G F H (σ.set n (some (.ref p))) (ρ.set n (.o xs)) := k.setW (w := .l xs) hp fp gp ap ⟨vs, rfl, r⟩ rfl fun _ _ z => by cases z
/-- less known of some slots -/
def Weak (ρ ρ' : List Sl) : Prop := ρ'.length = ρ.length ∧ ∀ (i : Nat) (s : Sl), ρ'[i]? = some s → s = .u ∨ ρ[i]? = some s
theorem Weak.refl (ρ : List Sl) : Weak ρ ρ := ⟨rfl, fun _ _ h => .inr h⟩
theorem Weak.nil : Weak [] [] := Weak.refl _
theorem Weak.keep {s : Sl} (h : Weak ρ ρ') : Weak (s :: ρ) (s :: ρ') := ⟨by simp [h.1], fun i t e => by
  cases i with
  | zero => exact .inr e
  | succ i => exact h.2 i t (by simpa using e)⟩
theorem Weak.drop {s : Sl} (h : Weak ρ ρ') : Weak (s :: ρ) (.u :: ρ') := ⟨by simp [h.1], fun i t e => by
  cases i with
  | zero => simp at e; exact .inl e.symm
  | succ i => exact h.2 i t (by simpa using e)⟩
theorem Ok.weak (k : Ok K F0 G F H σ ρ) (h : Weak ρ ρ') : Ok K F0 G F H σ ρ' where
  len := by rw [h.1]; exact k.len
  fh := k.fh
  gh := k.gh
  g0 := k.g0
  dat := fun i x e => by
    rcases h.2 i _ e with z | z
    · cases z
    · exact k.dat i x z
  bor := fun i a xs e => by
    rcases h.2 i _ e with z | z
    · cases z
    · exact k.bor i a xs z
  has := fun i s xs e o => by
    rcases h.2 i _ e with z | z
    · subst z; cases o
    · exact k.has i s xs z o
  djh := fun i j s t xs ys a h1 h2 h3 h4 h5 h6 => by
    rcases h.2 i _ h1 with z | z
    · subst z; cases h2
    · rcases h.2 j _ h3 with z' | z'
      · subst z'; cases h4
      · exact k.djh i j s t xs ys a z h2 z' h4 h5 h6
/-- an object of one's own is changed -/
theorem Ok.writeW {n : Nat} {s s' : Sl} {a : Addr} {ho : HO} {w w' : Own} (k : Ok K F0 G F H σ ρ) (hs : ρ[n]? = some s) (ho1 : s.has = some w) (ha : σ[n]? = some (some (.ref a))) (hs' : s'.has = some w') (hb : ∀ a xs, s' = .b a xs → ∃ zs, s = .b a zs) (r : w'.At K F a ho) :
    Ok K F0 G F (upd H a ho) σ (ρ.set n s') := by
  obtain ⟨a', ws, e1, e2, e3, e4, e5⟩ := k.has n s w hs ho1
  rw [ha] at e1
  cases e1
  have hn : n < ρ.length := (List.getElem?_eq_some_iff.mp hs).1
  refine ⟨by rw [List.length_set]; exact k.len, fun b o e => ?_, fun b o e => ?_, k.g0, fun i x e => ?_, fun i a' ys h => ?_, fun i t ys h1 h2 => ?_, fun i j t1 t2 ys zs b h1 h2 h3 h4 h5 h6 => ?_⟩
  · rw [upd_ne (fun z => by rw [z, e3] at e; cases e)]; exact k.fh b o e
  · rw [upd_ne (fun z => by rw [z, e4] at e; cases e)]; exact k.gh b o e
  · by_cases hi : i = n
    · subst hi
      rw [List.getElem?_set_self hn] at e
      rw [Option.some.inj e] at hs'
      cases hs'
    · rw [List.getElem?_set_ne (Ne.symm hi)] at e
      exact k.dat i x e
  · by_cases hi : i = n
    · subst hi
      rw [List.getElem?_set_self hn] at h
      obtain ⟨zs, z⟩ := hb a' ys (Option.some.inj h)
      exact k.bor i _ zs (by rw [hs, z])
    · rw [List.getElem?_set_ne (Ne.symm hi)] at h
      exact k.bor i a' ys h
  · by_cases hi : i = n
    · subst hi
      rw [List.getElem?_set_self hn] at h1
      rw [← Option.some.inj h1, hs'] at h2
      cases h2
      exact ⟨a, ho, ha, upd_same, e3, e4, r⟩
    · rw [List.getElem?_set_ne (Ne.symm hi)] at h1
      obtain ⟨b, us, q1, q2, q3, q4, q5⟩ := k.has i t ys h1 h2
      have hba : b ≠ a := fun z => hi (k.djh i n t s ys w a h1 h2 hs ho1 (by rw [q1, z]) ha)
      exact ⟨b, us, q1, by rw [upd_ne hba]; exact q2, q3, q4, q5⟩
  · have back : ∀ {i : Nat} {s2 : Sl} {ys : Own}, (ρ.set n s')[i]? = some s2 → s2.has = some ys → ∃ s3 ys3, ρ[i]? = some s3 ∧ s3.has = some ys3 := fun {i s2 ys} h1 h2 => by
      by_cases hi : i = n
      · subst hi; exact ⟨s, w, hs, ho1⟩
      · rw [List.getElem?_set_ne (Ne.symm hi)] at h1
        exact ⟨s2, ys, h1, h2⟩
    obtain ⟨s3, ys3, b1, b2⟩ := back h1 h2
    obtain ⟨s4, ys4, b3, b4⟩ := back h3 h4
    exact k.djh i j s3 s4 ys3 ys4 b b1 b2 b3 b4 h5 h6
/-- a list of one's own is changed -/
theorem Ok.write {n : Nat} {s : Sl} {a : Addr} {vs : List V} {xs xs' : List D} (k : Ok K F0 G F H σ ρ) (hs : ρ[n]? = some s) (ho : s.own = some xs) (ha : σ[n]? = some (some (.ref a))) (r : Rps K F vs xs') :
    Ok K F0 G F (upd H a (.lst vs)) σ (ρ.set n (s.put xs')) := by
  refine k.writeW hs (Sl.own_has ho) ha (Sl.put_has xs' s) (fun a ys e => ?_) ⟨vs, rfl, r⟩
  cases s with
  | b a' zs => cases e; exact ⟨zs, rfl⟩
  | _ => cases e
end
section
variable {X : Cx} {e a b c : Expr} {es : List Expr} {ρ ρ' ρ1 ρ2 ρ3 : List Sl} {d x y z : D} {ds : List D} {pos : Pos} {i j : Int} {st : Stmt} {sts : List Stmt} {o : Out}
/-! ### statements -/
theorem xe_weak (h : XE X e ρ d ρ1) (q : Weak ρ1 ρ2) : XE X e ρ d ρ2 := fun F0 G F H σ k Q r => h F0 G F H σ k Q fun v F1 H1 k1 => r v F1 H1 (k1.weak q)
theorem xss_out (h : XSs X sts ρ (.nx ρ1)) (q : Weak ρ1 ρ2) : XSs X sts ρ (.nx ρ2) := fun F0 G F H σ k Dn r => h F0 G F H σ k Dn fun σ1 F1 H1 k1 => r σ1 F1 H1 (k1.weak q)
theorem xs_out (h : XS X st ρ (.nx ρ1)) (q : Weak ρ1 ρ2) : XS X st ρ (.nx ρ2) := fun F0 G F H σ k Dn r => h F0 G F H σ k Dn fun σ1 F1 H1 k1 => r σ1 F1 H1 (k1.weak q)
theorem xs_in (h : XS X st ρ1 o) (q : Weak ρ ρ1) : XS X st ρ o := fun F0 G F H σ k Dn r => h F0 G F H σ (k.weak q) Dn r
theorem xss_in (h : XSs X sts ρ1 o) (q : Weak ρ ρ1) : XSs X sts ρ o := fun F0 G F H σ k Dn r => h F0 G F H σ (k.weak q) Dn r
theorem Out.At.mono {K : PySem.W.Frag} {F0 G F F' : Hp} {Dn : Ends} {o : Out} (h : o.At K F0 G F Dn) (f : Same F F') : o.At K F0 G F' Dn := by
  cases o with
  | nx ρ => exact fun σ F1 H1 k g => h σ F1 H1 k (f.trans g)
  | rt d ρ => exact fun v σ F1 H1 k g => h v σ F1 H1 k (f.trans g)
  | bk ρ => exact fun σ F1 H1 k g => h σ F1 H1 k (f.trans g)
  | ct ρ => exact fun σ F1 H1 k g => h σ F1 H1 k (f.trans g)
theorem Out.At.nx_of {K : PySem.W.Frag} {F0 G F : Hp} {Dn : Ends} {f : L2.St → Hp → Prop} {o : Out} (h : o.At K F0 G F Dn) (ho : ∀ ρ, o ≠ .nx ρ) : o.At K F0 G F { Dn with nx := f } := by
  cases o with
  | nx ρ => exact absurd rfl (ho ρ)
  | rt d ρ => exact h
  | bk ρ => exact h
  | ct ρ => exact h
theorem xss_nil : XSs X [] ρ (.nx ρ) := .of pss_nil fun F0 G F H σ k Dn q => q σ F H k (Same.refl _)
theorem xss_cons (h1 : XS X st ρ (.nx ρ1)) (h2 : XSs X sts ρ1 o) : XSs X (st :: sts) ρ o :=
  .of (pss_cons (pcS st) (pcSs sts)) fun F0 G F H σ k Dn q => h1 F0 G F H σ k _ fun σ1 F1 H1 k1 f1 => h2 F0 G F1 H1 σ1 k1 Dn (q.mono f1)
theorem xss_stop (h1 : XS X st ρ o) (ho : ∀ ρ, o ≠ .nx ρ := by intro _ z; cases z) : XSs X (st :: sts) ρ o :=
  .of (pss_cons (pcS st) (pcSs sts)) fun F0 G F H σ k Dn q => h1 F0 G F H σ k _ (q.nx_of ho)
theorem xss_one (h1 : XS X st ρ o) : XSs X [st] ρ o := .of (pss_one (pcS st)) fun F0 G F H σ k Dn q => h1 F0 G F H σ k Dn q
theorem xs_ret (h : XE X e ρ d ρ1) : XS X (.Return (some e) pos) ρ (.rt d ρ1) :=
  .of (ps_ret (pcE e)) fun F0 G F H σ k Dn q => h F0 G F H σ k _ fun v F1 H1 k1 f1 d1 => q v σ F1 H1 k1 f1 d1
theorem xs_if {bb : Bool} {sa sb : List Stmt} (hc : XT X c ρ bb ρ1) (h1 : bb = true → XSs X sa ρ1 o) (h2 : bb = false → XSs X sb ρ1 o) : XS X (.If c sa sb pos) ρ o :=
  .of (ps_if (pcT c) (pcSs sa) (pcSs sb)) fun F0 G F H σ k Dn q => hc F0 G F H σ k _ fun F1 H1 k1 f1 => by
    cases bb with
    | true =>
      rw [if_pos rfl]
      exact h1 rfl F0 G F1 H1 σ k1 Dn (q.mono f1)
    | false =>
      rw [if_neg Bool.false_ne_true]
      exact h2 rfl F0 G F1 H1 σ k1 Dn (q.mono f1)
theorem xs_expr (h : XE X e ρ d ρ1) (hs : swapsWith e none pos.line X.env = pure false := by rfl) : XS X (.Expr e pos) ρ (.nx ρ1) :=
  .of (ps_expr (pcE e) hs) fun F0 G F H σ k Dn q => h F0 G F H σ k _ fun v F1 H1 k1 f1 d1 => q σ F1 H1 k1 f1
theorem xs_set (n : Nat) {nm : Str} {pos' : Pos} (hN : X.N.Nodup) (h : XE X e ρ d ρ1) (hi : X.N[n]? = some nm := by rfl) (hx : Loc X.env.scope nm := by first | exact Or.inl rfl | exact Or.inr rfl) (hs : swapsWith e (some (.Name nm pos')) pos.line X.env = pure false := by rfl)
    (hf : X.fn nm = true ∨ X.env.scope.names.lookup nm = some .local := by first | exact .inl rfl | exact .inr rfl | assumption) : XS X (.Assign [.Name nm pos'] e pos) ρ (.nx (ρ1.set n (.d d))) :=
  .of (ps_set hN hi hx (pcE e) hs hf) fun F0 G F H σ k Dn q => h F0 G F H σ k _ fun v F1 H1 k1 f1 d1 => q _ F1 H1 (k1.set d1) f1
theorem xs_setO (n : Nat) {nm : Str} {pos' : Pos} {xs : List D} (hN : X.N.Nodup) (h : XO X e ρ xs ρ1) (hi : X.N[n]? = some nm := by rfl) (hx : Loc X.env.scope nm := by first | exact Or.inl rfl | exact Or.inr rfl) (hs : swapsWith e (some (.Name nm pos')) pos.line X.env = pure false := by rfl)
    (hf : X.fn nm = true ∨ X.env.scope.names.lookup nm = some .local := by first | exact .inl rfl | exact .inr rfl | assumption) : XS X (.Assign [.Name nm pos'] e pos) ρ (.nx (ρ1.set n (.o xs))) :=
  .of (ps_set hN hi hx (pcE e) hs hf) fun F0 G F H σ k Dn q => h F0 G F H σ k _ fun p vs F1 H1 k1 f1 hp fp gp ap dv => q _ F1 H1 (k1.setO hp fp gp ap dv) f1
/-- a, b = e1, e2 -/
theorem xs_par (n m : Nat) {nm nm' : Str} {px py pt : Pos} {kt k2 : Nat} {pt2 : Pos} (hc : X.calm = true) (hN : X.N.Nodup) (ha : XE X a ρ x ρ1) (hb : XE X b ρ1 y ρ2) (hi : X.N[n]? = some nm := by rfl) (hj : X.N[m]? = some nm' := by rfl) (hij : n ≠ m := by decide)
    (hx : X.env.scope.names.lookup nm = some .local := by rfl) (hy : X.env.scope.names.lookup nm' = some .local := by rfl) (hs : starEach [a, b] X.env = (false, eval a X.env) :: starEach [b] X.env := by rfl) (hs' : starEach [b] X.env = (false, eval b X.env) :: starEach [] X.env := by rfl)
    (hw : swappedStores [.Tuple [.Name nm px, .Name nm' py] kt pt] (.Tuple [a, b] k2 pt2) X.env = pure (some [nm, nm']) := by rfl) :
    XS X (.Assign [.Tuple [.Name nm px, .Name nm' py] kt pt] (.Tuple [a, b] k2 pt2) pos) ρ (.nx ((ρ2.set n (.d x)).set m (.d y))) :=
  .of (ps_par hc hN hi hj hij hx hy (pa_cons (pcE a) (pa_cons (pcE b) pa_nil hs') hs) hw) fun F0 G F H σ k Dn q => ha F0 G F H σ k _ fun v F1 H1 k1 f1 d1 => hb F0 G F1 H1 σ k1 _ fun w F2 H2 k2 f2 d2 =>
    ⟨v, w, rfl, q _ F2 H2 ((k2.set (rp_mono f2 _ _ d1)).set d2) (f1.trans f2)⟩
/-- .. the second a list of one's own -/
theorem xs_parO (n m : Nat) {nm nm' : Str} {px py pt : Pos} {kt k2 : Nat} {pt2 : Pos} {ys : List D} (hc : X.calm = true) (hN : X.N.Nodup) (ha : XE X a ρ x ρ1) (hb : XO X b ρ1 ys ρ2) (hi : X.N[n]? = some nm := by rfl) (hj : X.N[m]? = some nm' := by rfl) (hij : n ≠ m := by decide)
    (hx : X.env.scope.names.lookup nm = some .local := by rfl) (hy : X.env.scope.names.lookup nm' = some .local := by rfl) (hs : starEach [a, b] X.env = (false, eval a X.env) :: starEach [b] X.env := by rfl) (hs' : starEach [b] X.env = (false, eval b X.env) :: starEach [] X.env := by rfl)
    (hw : swappedStores [.Tuple [.Name nm px, .Name nm' py] kt pt] (.Tuple [a, b] k2 pt2) X.env = pure (some [nm, nm']) := by rfl) :
    XS X (.Assign [.Tuple [.Name nm px, .Name nm' py] kt pt] (.Tuple [a, b] k2 pt2) pos) ρ (.nx ((ρ2.set n (.d x)).set m (.o ys))) :=
  .of (ps_par hc hN hi hj hij hx hy (pa_cons (pcE a) (pa_cons (pcE b) pa_nil hs') hs) hw) fun F0 G F H σ k Dn q => ha F0 G F H σ k _ fun v F1 H1 k1 f1 d1 => hb F0 G F1 H1 σ k1 _ fun p vs F2 H2 k2 f2 hp fp gp ap dv =>
    ⟨v, _, rfl, q _ F2 H2 ((k2.set (n := n) (rp_mono f2 _ _ d1)).setO hp fp gp (fun i s ys h1 h2 => by
      by_cases hin : i = n
      · subst hin
        have hn : i < ρ2.length := by
          have := (List.getElem?_eq_some_iff.mp h1).1
          rwa [List.length_set] at this
        rw [List.getElem?_set_self hn] at h1
        cases h1; cases h2
      · rw [List.getElem?_set_ne (Ne.symm hin)] at h1 ⊢
        exact ap i s ys h1 h2) dv) (f1.trans f2)⟩
/-- xs.append(e), xs one's own -/
theorem xs_append (n : Nat) {nm : Str} {s : Sl} {xs : List D} {p1 p2 p3 : Pos} (h : XE X e ρ x ρ1) (hr : ρ1[n]? = some s) (ho : s.own = some xs) (hz : xs.length < 1000000)
    (h0 : ∃ s0 xs0, ρ[n]? = some s0 ∧ s0.own = some xs0 := by exact ⟨_, _, rfl, rfl⟩) (hN : X.N[n]? = some nm := by rfl) (hv : Vis X.env.scope nm := by first | exact Or.inl rfl | exact Or.inr (Or.inl rfl) | exact Or.inr (Or.inr rfl))
    (hd : (nm == ("__debug__" : Str)) = false := by decide) (hcd : (nm == ("__classdict__" : Str)) = false := by decide) (hst : starEach [e] X.env = (false, eval e X.env) :: starEach [] X.env := by rfl)
    (hbm : ∀ (ta te : TE), PE X (.Name nm p1) ta → PE X e te → PE X (.Call (.Attribute (.Name nm p1) "append" p2) [e] [] p3) (tBM X.K "list" rAppend ta (tCons te tNil)) := by exact fun _ _ h1 h2 => pe_bm PySem.F.plainAttrs_list PySem.F.slot_list_append PySem.F.type_list_append mt_append h1 (pa_cons h2 pa_nil))
    (hs : swapsWith (.Call (.Attribute (.Name nm p1) "append" p2) [e] [] p3) none pos.line X.env = pure false := by rfl) : XS X (.Expr (.Call (.Attribute (.Name nm p1) "append" p2) [e] [] p3) pos) ρ (.nx (ρ1.set n (s.put (xs ++ [x])))) :=
  .of (ps_expr (hbm _ _ (pe_var hN hv hd hcd) (pcE e)) hs) fun F0 G F H σ k Dn q => by
    obtain ⟨s0, xs0, r0, o0⟩ := h0
    obtain ⟨p, vs0, e0, g0, _⟩ := k.own n s0 xs0 r0 o0
    refine ⟨.ref p, e0, .inl ⟨rfl, _, .of g0⟩, h F0 G F H σ k _ fun v F1 H1 k1 f1 d1 => ?_⟩
    obtain ⟨p', vs, e1, e2, e3, e4, e5⟩ := k1.own n s xs hr ho
    rw [e0] at e1
    cases e1
    refine ⟨p, vs, v, rfl, rfl, e2, by rw [Rps.length e5]; exact Nat.lt_of_lt_of_le hz (by decide), ?_⟩
    exact q σ F1 _ (k1.write hr ho e0 (Rps.append e5 (.cons d1 .nil))) f1
/-- xs[i] = e, xs one's own -/
theorem xs_setitem (n m : Nat) {nm : Str} {s : Sl} {xs : List D} {p1 p2 : Pos} (h : XE X e ρ x ρ1) (hb : XE X b ρ1 (.int i) ρ2) (hr : ρ2[n]? = some s) (ho : s.own = some xs) (hm : ixN xs.length i = some m)
    (h0 : ∃ s0 xs0, ρ1[n]? = some s0 ∧ s0.own = some xs0 := by exact ⟨_, _, rfl, rfl⟩) (hN : X.N[n]? = some nm := by rfl) (hv : Vis X.env.scope nm := by first | exact Or.inl rfl | exact Or.inr (Or.inl rfl) | exact Or.inr (Or.inr rfl))
    (hd : (nm == ("__debug__" : Str)) = false := by decide) (hcd : (nm == ("__classdict__" : Str)) = false := by decide)
    (hg : ∀ (ta tb : TE), PE X (.Name nm p1) ta → PE X b tb → PG X (.Subscript (.Name nm p1) b p2) (gSub ta tb rSetL) := by exact fun _ _ h1 h2 => pg_sub h1 h2 set_list)
    (hs : swapsWithSole [.Subscript (.Name nm p1) b p2] e pos.line X.env = pure false := by rfl) (hw : swappedStores [.Subscript (.Name nm p1) b p2] e X.env = pure none := by rfl)
    (h1 : (assignEach [.Subscript (.Name nm p1) b p2] X.env).map (·.2) = [assign (.Subscript (.Name nm p1) b p2) X.env] := by rfl) : XS X (.Assign [.Subscript (.Name nm p1) b p2] e pos) ρ (.nx (ρ2.set n (s.put (xs.set m x)))) :=
  .of (ps_asg (pcE e) (hg _ _ (pe_var hN hv hd hcd) (pcE b)) hs hw h1) fun F0 G F H σ k Dn q => h F0 G F H σ k _ fun v F1 H1 k1 f1 d1 => by
    obtain ⟨s0, xs0, r0, o0⟩ := h0
    obtain ⟨p, vs0, e0, g0, _⟩ := k1.own n s0 xs0 r0 o0
    refine ⟨.ref p, e0, hb F0 G F1 H1 σ k1 _ fun w F2 H2 k2 f2 d2 => ?_⟩
    cases d2
    obtain ⟨p', vs, e1, e2, e3, e4, e5⟩ := k2.own n s xs hr ho
    rw [e0] at e1
    cases e1
    refine ⟨p, vs, i, m, rfl, rfl, e2, by rw [Rps.length e5]; exact hm, ?_⟩
    exact q σ F2 _ (k2.write hr ho e0 (Rps.set e5 (rp_mono f2 _ _ d1) m)) (f1.trans f2)

/-! ### targets -/
/-- a target takes the data d; the slots vs alone may change -/
def XG (X : Cx) (tg : Expr) (vs : List Nat) (d : D) (ρ ρ' : List Sl) : Prop := ∀ (F0 G F H : Hp) (σ : L2.St) (v : V), Ok X.K F0 G F H σ ρ → Rp X.K F v d → ∀ Q : L2.St → Hp → Prop,
  (∀ σ', Ok X.K F0 G F H σ' ρ' → σ'.length = σ.length → (∀ i, i ∉ vs → σ'[i]? = σ[i]?) → Q σ' H) → cG X tg v σ H Q
theorem xg_name (n : Nat) {nm : Str} (hN : X.N.Nodup) (hi : X.N[n]? = some nm := by rfl) (hx : Loc X.env.scope nm := by first | exact Or.inl rfl | exact Or.inr rfl) (hf : X.fn nm = true ∨ X.env.scope.names.lookup nm = some .local := by first | exact .inl rfl | exact .inr rfl | assumption) :
    XG X (.Name nm pos) [n] d ρ (ρ.set n (.d d)) := fun F0 G F H σ v k r Q q pins s u I ru =>
  (pg_name hN hi hx hf).run pins s σ H v u Q I ru (q _ (k.set r) (by rw [List.length_set]) fun i hi => List.getElem?_set_ne (fun e => hi (by simp [e])))
def XGs (X : Cx) (es : List Expr) (vs : List Nat) (ds : List D) (ρ ρ' : List Sl) : Prop := ∃ t : TGs, PGs X es t ∧ ∀ (F0 G F H : Hp) (σ : L2.St) (ws : List V), Ok X.K F0 G F H σ ρ → Rps X.K F ws ds → ∀ Q : L2.St → Hp → Prop,
  (∀ σ', Ok X.K F0 G F H σ' ρ' → σ'.length = σ.length → (∀ i, i ∉ vs → σ'[i]? = σ[i]?) → Q σ' H) → t ws σ H Q
theorem xgs_nil : XGs X [] [] [] ρ ρ := ⟨_, pgs_nil, fun F0 G F H σ ws k r Q q => by
  cases r
  exact ⟨rfl, q σ k rfl fun _ _ => rfl⟩⟩
theorem xgs_cons {vs ws : List Nat} (h : XG X e vs x ρ ρ1) (t : XGs X es ws ds ρ1 ρ2) (hs : (assignEach (e :: es) X.env).map (·.2) = assign e X.env :: (assignEach es X.env).map (·.2) := by rfl) : XGs X (e :: es) (vs ++ ws) (x :: ds) ρ ρ2 := by
  obtain ⟨t, p, g⟩ := t
  refine ⟨_, pgs_cons (pcG e) p hs, fun F0 G F H σ us k r Q q => ?_⟩
  cases r with
  | cons r1 r2 =>
    refine ⟨_, _, rfl, h F0 G F H σ _ k r1 _ fun σ1 k1 l1 n1 => g F0 G F H σ1 _ k1 r2 Q fun σ2 k2 l2 n2 => q σ2 k2 (by rw [l2, l1]) fun i hi => ?_⟩
    rw [n2 i fun z => hi (List.mem_append_right _ z), n1 i fun z => hi (List.mem_append_left _ z)]
theorem xg_tup {k : Nat} {vs : List Nat} {n : Nat} (hc : X.calm = true) (h : XGs X es vs ds ρ ρ1) (hl : ds.length = n := by rfl) (hn : (assignEach es X.env).length = n := by rfl) (hst : (assignEach es X.env).findIdx? (·.1) = none := by rfl) : XG X (.Tuple es k pos) vs (.tuple ds) ρ ρ1 := by
  obtain ⟨t, p, g⟩ := h
  intro F0 G F H σ v k r Q q pins s u I ru
  refine (pg_tup hc p hn hst).run pins s σ H v u Q I ru ?_
  cases r with
  | tup s r => exact ⟨_, _, rfl, sqT_mono k.fh s, by rw [Rps.length r]; exact hl, g F0 G F H σ _ k r Q q⟩
theorem xs_asg {tg : Expr} {vs : List Nat} (h : XE X e ρ d ρ1) (hg : XG X tg vs d ρ1 ρ2) (hs : swapsWithSole [tg] e pos.line X.env = pure false := by rfl) (hw : swappedStores [tg] e X.env = pure none := by rfl)
    (h1 : (assignEach [tg] X.env).map (·.2) = [assign tg X.env] := by rfl) : XS X (.Assign [tg] e pos) ρ (.nx ρ2) :=
  .of (ps_asg (pcE e) (pcG tg) hs hw h1) fun F0 G F H σ k Dn q => h F0 G F H σ k _ fun v F1 H1 k1 f1 d1 => hg F0 G F1 H1 σ v k1 d1 _ fun σ1 k2 _ _ => q σ1 F1 H1 k2 f1

/-! ### what is walked -/
structure Yl (K : PySem.W.Frag) (J : It) (F : Hp) (xs : List D) : Prop where
  go : ∀ i H, Same F H → i < xs.length → J.go i H
  stop : ∀ H, Same F H → J.stop xs.length H
  yld : ∀ i H x H' F1, Same F F1 → Same F1 H → J.yld i H x H' → ∀ d, xs[i]? = some d → ∃ F2, Gr F1 H F2 H' ∧ Rp K F2 x d
def XI (X : Cx) (tg iter : Expr) (ρ : List Sl) (xs : List D) (ρ' : List Sl) : Prop := ∀ (F0 G F H : Hp) (σ : L2.St), Ok X.K F0 G F H σ ρ → ∀ R : It → Hp → Prop,
  (∀ J F' H', Ok X.K F0 G F' H' σ ρ' → Same F F' → Yl X.K J F' xs → R J H') → cI X tg iter σ H R
theorem XI.of {tg : Expr} {ti : TI} (h : PI X tg e ti) (t : ∀ (F0 G F H : Hp) (σ : L2.St), Ok X.K F0 G F H σ ρ → ∀ R : It → Hp → Prop, (∀ J F' H', Ok X.K F0 G F' H' σ ρ1 → Same F F' → Yl X.K J F' ds → R J H') → ti σ H R) : XI X tg e ρ ds ρ1 :=
  fun F0 G F H σ k R q pins s I => h.run pins s σ H R I (t F0 G F H σ k R q)
theorem atN {α : Type} {xs : List α} {i : Nat} (h : i < xs.length) : ∃ x, xs[i]? = some x := ⟨_, List.getElem?_eq_getElem h⟩
theorem xi_list {tg : Expr} (h : XE X e ρ (.list ds) ρ1) : XI X tg e ρ ds ρ1 :=
  .of (pi_list (pcE e)) fun F0 G F H σ k R q => h F0 G F H σ k _ fun v F1 H1 k1 f1 d1 => by
    cases d1 with
    | @lst a vs _ s r =>
      refine ⟨a, rfl, ⟨vs, .of (k1.fh _ _ s)⟩, q _ F1 H1 k1 f1 ⟨fun i H2 f2 hi => ?_, fun H2 f2 => ⟨vs, .of (f2 _ _ s), by rw [Rps.length r]; exact Nat.le_refl _⟩, fun i H2 x H3 F2 f2 f3 hy d hd => ?_⟩⟩
      · obtain ⟨y, hy⟩ := atN (xs := vs) (i := i) (by rw [Rps.length r]; exact hi)
        exact ⟨vs, y, .of (f2 _ _ s), hy⟩
      · obtain ⟨rfl, hy⟩ := hy
        obtain ⟨w, e1, e2⟩ := Rps.get r hd
        have := hy vs (.of (f3 _ _ (f2 _ _ s)))
        rw [e1] at this
        cases this
        exact ⟨F2, .refl f3, rp_mono f2 _ _ e2⟩
theorem xi_tup {tg : Expr} (h : XE X e ρ (.tuple ds) ρ1) : XI X tg e ρ ds ρ1 :=
  .of (pi_tup (pcE e)) fun F0 G F H σ k R q => h F0 G F H σ k _ fun v F1 H1 k1 f1 d1 => by
    cases d1 with
    | @tup a vs _ s r =>
      refine ⟨a, rfl, ⟨vs, sqT_mono k1.fh s⟩, q _ F1 H1 k1 f1 ⟨fun i H2 f2 hi => ?_, fun H2 f2 => ⟨vs, sqT_mono f2 s, by rw [Rps.length r]; exact Nat.le_refl _⟩, fun i H2 x H3 F2 f2 f3 hy d hd => ?_⟩⟩
      · obtain ⟨y, hy⟩ := atN (xs := vs) (i := i) (by rw [Rps.length r]; exact hi)
        exact ⟨vs, y, sqT_mono f2 s, hy⟩
      · obtain ⟨rfl, hy⟩ := hy
        obtain ⟨w, e1, e2⟩ := Rps.get r hd
        have := hy vs (sqT_mono (f2.trans f3) s)
        rw [e1] at this
        cases this
        exact ⟨F2, .refl f3, rp_mono f2 _ _ e2⟩
/-- lo, lo + 1, .. -/
def rangeD (lo : Int) (n : Nat) : List D := (List.range n).map fun i => .int (lo + (i : Nat))
theorem rangeD_len (lo : Int) (n : Nat) : (rangeD lo n).length = n := by simp [rangeD]
theorem rangeD_at {lo : Int} {n i : Nat} {d : D} (h : (rangeD lo n)[i]? = some d) : i < n ∧ d = .int (lo + (i : Nat)) := by
  unfold rangeD at h
  rw [List.getElem?_map, Option.map_eq_some_iff] at h
  obtain ⟨k, h1, h2⟩ := h
  obtain ⟨h3, h4⟩ := List.getElem?_eq_some_iff.mp h1
  rw [List.length_range] at h3
  rw [List.getElem_range] at h4
  subst h4
  exact ⟨h3, h2.symm⟩
theorem yl_range {K : PySem.W.Frag} {F : Hp} {lo : Int} {n : Nat} : Yl K (Itr lo n) F (rangeD lo n) :=
  ⟨fun i H _ hi => by rw [rangeD_len] at hi; exact hi, fun H _ => by rw [rangeD_len]; exact Nat.le_refl n, fun i H x H' F1 f1 f2 hy d hd => by
    obtain ⟨rfl, rfl⟩ := hy
    obtain ⟨h1, rfl⟩ := rangeD_at hd
    exact ⟨F1, .refl f2, .int _⟩⟩
theorem xi_range1 {tg : Expr} {p : Pos} (hg : Gl X "range") (hm : X.mg "range" = none) (h : XE X a ρ (.int i) ρ1) (hi : i < 1000000) (hz : -1000000 < i) (hs : starEach [a] X.env = [(false, eval a X.env)] := by rfl) (hst : starEach [a] X.env = (false, eval a X.env) :: starEach [] X.env := by rfl) : XI X tg (.Call (.Name "range" p) [a] [] pos) ρ (rangeD 0 i.toNat) ρ1 :=
  .of (pi_range1 hg hm (pa_cons (pcE a) pa_nil hst) hs) fun F0 G F H σ k R q => h F0 G F H σ k _ fun v F1 H1 k1 f1 d1 => by
    cases d1
    exact ⟨i, rfl, by omega, by omega, q _ F1 H1 k1 f1 yl_range⟩
theorem xi_range2 {tg : Expr} {p : Pos} (hg : Gl X "range") (hm : X.mg "range" = none) (h : XE X a ρ (.int i) ρ1) (h2 : XE X b ρ1 (.int j) ρ2) (hi : -1000000 < i ∧ i < 1000000 ∧ -1000000 < j ∧ j < 1000000) (hs : starEach [a, b] X.env = [(false, eval a X.env), (false, eval b X.env)] := by rfl) (hs2 : starEach [b] X.env = [(false, eval b X.env)] := by rfl)
    (hst : starEach [a, b] X.env = (false, eval a X.env) :: starEach [b] X.env := by rfl) (hst2 : starEach [b] X.env = (false, eval b X.env) :: starEach [] X.env := by rfl) : XI X tg (.Call (.Name "range" p) [a, b] [] pos) ρ (rangeD i (j - i).toNat) ρ2 :=
  .of (pi_range2 hg hm (pa_cons (pcE a) (pa_cons (pcE b) pa_nil hst2) hst) hs hs2) fun F0 G F H σ k R q => h F0 G F H σ k _ fun v F1 H1 k1 f1 d1 => h2 F0 G F1 H1 σ k1 _ fun w F2 H2 k2 f2 d2 => by
    cases d1
    cases d2
    exact ⟨i, j, rfl, ⟨by omega, by omega, by omega, by omega⟩, q _ F2 H2 k2 (f1.trans f2) yl_range⟩
/-! ### for -/
/-- the turns of a for over some items -/
inductive LR (X : Cx) (tg : Expr) (body : List Stmt) : List D → List Sl → Out → Prop
  | nil {ρ : List Sl} : LR X tg body [] ρ (.nx ρ)
  | next {x : D} {xs : List D} {vs : List Nat} {ρ ρ1 ρ2 : List Sl} {o : Out} : XG X tg vs x ρ ρ1 → XSs X body ρ1 (.nx ρ2) → LR X tg body xs ρ2 o → LR X tg body (x :: xs) ρ o
  | cont {x : D} {xs : List D} {vs : List Nat} {ρ ρ1 ρ2 : List Sl} {o : Out} : XG X tg vs x ρ ρ1 → XSs X body ρ1 (.ct ρ2) → LR X tg body xs ρ2 o → LR X tg body (x :: xs) ρ o
  | ret {x d : D} {xs : List D} {vs : List Nat} {ρ ρ1 ρ2 : List Sl} : XG X tg vs x ρ ρ1 → XSs X body ρ1 (.rt d ρ2) → LR X tg body (x :: xs) ρ (.rt d ρ2)
  | brk {x : D} {xs : List D} {vs : List Nat} {ρ ρ1 ρ2 : List Sl} : XG X tg vs x ρ ρ1 → XSs X body ρ1 (.bk ρ2) → LR X tg body (x :: xs) ρ (.nx ρ2)
theorem xs_for {tg : Expr} {body : List Stmt} (hp : PassesOwn (model X.prog X.w) X.A X.env X.xe) (hc : X.calm = true) (hi : XI X tg e ρ ds ρ1) (hl : LR X tg body ds ρ1 o) (hfs : ∀ x, foldedSetIterable e X.env x = pure x := by intro _; rfl) : XS X (.For tg e body [] pos) ρ o :=
  .of (ps_for hp hc (pcI tg e) (pcG tg) (pcSs body) hfs) fun F0 G F H σ k Dn q => hi F0 G F H σ k _ fun J F1 H1 k1 f1 yl => by
    refine ⟨fun i m σ H => m = ds.length - i ∧ i ≤ ds.length ∧ ∃ F2 ρ2, Ok X.K F0 G F2 H σ ρ2 ∧ Same F1 F2 ∧ LR X tg body (ds.drop i) ρ2 o, ⟨_, rfl, Nat.zero_le _, F1, ρ1, k1, Same.refl _, hl⟩, ?_⟩
    rintro i m σ H ⟨rfl, hle, F2, ρ2, k2, f2, lr⟩
    have q2 : o.At X.K F0 G F2 Dn := q.mono (f1.trans f2)
    by_cases hlt : i < ds.length
    · have hd : ds.drop i = ds[i] :: ds.drop (i + 1) := List.drop_eq_getElem_cons hlt
      rw [hd] at lr
      have hx : ds[i]? = some ds[i] := List.getElem?_eq_getElem hlt
      refine .inr ⟨yl.go i H (f2.trans k2.fh) hlt, _, fun σ' H' w => ⟨ds.length - (i + 1), by omega, w⟩, fun x H' hy => ?_⟩
      obtain ⟨F3, gr, r3⟩ := yl.yld i H x H' F2 f2 k2.fh hy _ hx
      have k3 := k2.gr gr
      have f3 : Same F1 F3 := f2.trans gr.f
      cases lr with
      | next g1 b1 l1 => exact g1 F0 G F3 H' σ x k3 r3 _ fun σ4 k4 _ _ => b1 F0 G F3 H' σ4 k4 _ fun σ5 F5 H5 k5 f5 => ⟨rfl, hlt, F5, _, k5, f3.trans f5, l1⟩
      | cont g1 b1 l1 => exact g1 F0 G F3 H' σ x k3 r3 _ fun σ4 k4 _ _ => b1 F0 G F3 H' σ4 k4 _ fun σ5 F5 H5 k5 f5 => ⟨rfl, hlt, F5, _, k5, f3.trans f5, l1⟩
      | ret g1 b1 => exact g1 F0 G F3 H' σ x k3 r3 _ fun σ4 k4 _ _ => b1 F0 G F3 H' σ4 k4 _ fun v σ5 F5 H5 k5 f5 d5 => q2 v σ5 F5 H5 k5 (gr.f.trans f5) d5
      | brk g1 b1 => exact g1 F0 G F3 H' σ x k3 r3 _ fun σ4 k4 _ _ => b1 F0 G F3 H' σ4 k4 _ fun σ5 F5 H5 k5 f5 => q2 σ5 F5 H5 k5 (gr.f.trans f5)
    · have hi : i = ds.length := by omega
      subst hi
      rw [List.drop_length] at lr
      cases lr
      exact .inl ⟨yl.stop H (f2.trans k2.fh), q2 σ F2 H k2 (Same.refl _)⟩
/-! ### while -/
inductive WR (X : Cx) (c : Expr) (body : List Stmt) : Nat → List Sl → Out → Prop
  | stop {n : Nat} {ρ ρ1 : List Sl} : XT X c ρ false ρ1 → WR X c body n ρ (.nx ρ1)
  | next {n : Nat} {ρ ρ1 ρ2 : List Sl} {o : Out} : XT X c ρ true ρ1 → XSs X body ρ1 (.nx ρ2) → WR X c body n ρ2 o → WR X c body (n + 1) ρ o
  | ret {n : Nat} {d : D} {ρ ρ1 ρ2 : List Sl} : XT X c ρ true ρ1 → XSs X body ρ1 (.rt d ρ2) → WR X c body n ρ (.rt d ρ2)
  | ct {n : Nat} {ρ ρ1 ρ2 : List Sl} {o : Out} : XT X c ρ true ρ1 → XSs X body ρ1 (.ct ρ2) → WR X c body n ρ2 o → WR X c body (n + 1) ρ o
  | bk {n : Nat} {ρ ρ1 ρ2 : List Sl} : XT X c ρ true ρ1 → XSs X body ρ1 (.bk ρ2) → WR X c body n ρ (.nx ρ2)
theorem xs_while {body : List Stmt} {n : Nat} (hp : PassesOwn (model X.prog X.w) X.A X.env X.xe) (h : WR X c body n ρ o) : XS X (.While c body [] pos) ρ o :=
  .of (ps_while hp (pcT c) (pcSs body)) fun F0 G F H σ k Dn q => by
    refine ⟨fun m σ H => ∃ F2 ρ2, Ok X.K F0 G F2 H σ ρ2 ∧ Same F F2 ∧ WR X c body m ρ2 o, ⟨n, F, ρ, k, Same.refl _, h⟩, ?_⟩
    rintro m σ H ⟨F2, ρ2, k2, f2, wr⟩
    have q2 : o.At X.K F0 G F2 Dn := q.mono f2
    cases wr with
    | stop t1 =>
      refine t1 F0 G F2 H σ k2 _ fun F3 H3 k3 f3 => ?_
      rw [if_neg Bool.false_ne_true]
      exact q2 σ F3 H3 k3 f3
    | @next m' _ _ _ _ t1 b1 w1 =>
      refine t1 F0 G F2 H σ k2 _ fun F3 H3 k3 f3 => ?_
      rw [if_pos rfl]
      refine ⟨_, fun σ' H' w => ⟨m', Nat.lt_succ_self _, w⟩, b1 F0 G F3 H3 σ k3 _ fun σ5 F5 H5 k5 f5 => ⟨F5, _, k5, (f2.trans f3).trans f5, w1⟩⟩
    | ret t1 b1 =>
      refine t1 F0 G F2 H σ k2 _ fun F3 H3 k3 f3 => ?_
      rw [if_pos rfl]
      exact ⟨fun _ _ => False, fun _ _ z => z.elim, b1 F0 G F3 H3 σ k3 _ fun v σ5 F5 H5 k5 f5 d5 => q2 v σ5 F5 H5 k5 (f3.trans f5) d5⟩
    | @ct m' _ _ _ _ t1 b1 w1 =>
      refine t1 F0 G F2 H σ k2 _ fun F3 H3 k3 f3 => ?_
      rw [if_pos rfl]
      refine ⟨_, fun σ' H' w => ⟨m', Nat.lt_succ_self _, w⟩, b1 F0 G F3 H3 σ k3 _ fun σ5 F5 H5 k5 f5 => ⟨F5, _, k5, (f2.trans f3).trans f5, w1⟩⟩
    | bk t1 b1 =>
      refine t1 F0 G F2 H σ k2 _ fun F3 H3 k3 f3 => ?_
      rw [if_pos rfl]
      exact ⟨fun _ _ => False, fun _ _ z => z.elim, b1 F0 G F3 H3 σ k3 _ fun σ5 F5 H5 k5 f5 => q2 σ5 F5 H5 k5 (f3.trans f5)⟩
end
end DL
set_option Elab.async false
set_option linter.all false
set_option maxRecDepth 100000
set_option maxHeartbeats 2000000
namespace DL
open PySem PySem.Spec PyProof.Rows L2
/-! ### comprehensions -/
theorem wipe_at {τ : L2.St} {i : Nat} : ∀ {vs : List Nat}, i ∈ vs → i < τ.length → (wipe τ vs)[i]? = some none
  | v :: vs, h, hl => by
    unfold wipe
    by_cases e : v = i
    · subst e
      rw [List.getElem?_set_self (by rw [wipe_length]; exact hl)]
    · rw [List.getElem?_set_ne e]
      exact wipe_at ((List.mem_cons.mp h).resolve_left (fun z => e z.symm)) hl
theorem wipe_ext {τ τ' : L2.St} {vs : List Nat} (hl : τ'.length = τ.length) (h : ∀ i, i ∉ vs → τ'[i]? = τ[i]?) : wipe τ' vs = wipe τ vs := by
  apply List.ext_getElem?
  intro i
  by_cases hi : i ∈ vs
  · by_cases hlt : i < τ.length
    · rw [wipe_at hi hlt, wipe_at hi (by rw [hl]; exact hlt)]
    · rw [List.getElem?_eq_none (by rw [wipe_length]; omega), List.getElem?_eq_none (by rw [wipe_length]; omega)]
  · rw [wipe_out hi, wipe_out hi]
    exact h i hi
theorem wipe_wipe (τ : L2.St) {vs ws : List Nat} (h : ∀ i ∈ ws, i ∈ vs) : wipe (wipe τ ws) vs = wipe τ vs := wipe_ext (wipe_length _ _) fun i hi => wipe_out fun z => hi (h i z)
def wipeS (ρ : List Sl) : List Nat → List Sl
  | [] => ρ
  | v :: vs => (wipeS ρ vs).set v .u
def Sl.kept : Option Sl → Sl
  | some (.d x) => .d x
  | _ => .u
/-- behind a block: its own names as they were ahead of it -/
def backS (ρ0 ρ : List Sl) : List Nat → List Sl
  | [] => ρ
  | v :: vs => (backS ρ0 ρ vs).set v (Sl.kept ρ0[v]?)
theorem backS_len (ρ0 ρ : List Sl) : ∀ vs : List Nat, (backS ρ0 ρ vs).length = ρ.length
  | [] => rfl
  | v :: vs => by unfold backS; rw [List.length_set, backS_len ρ0 ρ vs]
theorem backS_out {ρ0 ρ : List Sl} {i : Nat} : ∀ {vs : List Nat}, i ∉ vs → (backS ρ0 ρ vs)[i]? = ρ[i]?
  | [], _ => rfl
  | v :: vs, h => by
    have h1 : v ≠ i := fun e => h (by rw [e]; exact List.mem_cons_self)
    unfold backS
    rw [List.getElem?_set_ne h1]
    exact backS_out fun m => h (List.mem_cons_of_mem _ m)
theorem backS_at {ρ0 ρ : List Sl} {i : Nat} : ∀ {vs : List Nat}, i ∈ vs → i < ρ.length → (backS ρ0 ρ vs)[i]? = some (Sl.kept ρ0[i]?)
  | v :: vs, h, hl => by
    unfold backS
    by_cases e : v = i
    · subst e
      rw [List.getElem?_set_self (by rw [backS_len]; exact hl)]
    · rw [List.getElem?_set_ne e]
      exact backS_at ((List.mem_cons.mp h).resolve_left (fun z => e z.symm)) hl
section
variable {K : PySem.W.Frag} {F0 G F F1 H H1 : Hp} {σ : L2.St} {ρ ρ0 : List Sl}
theorem Ok.unset (k : Ok K F0 G F H σ ρ) (v : Nat) : Ok K F0 G F H (σ.set v none) (ρ.set v .u) := by
  have low : ∀ {i : Nat} {s : Sl}, (ρ.set v .u)[i]? = some s → s ≠ .u → i ≠ v ∧ ρ[i]? = some s := fun {i s} e n => by
    by_cases hi : i = v
    · subst hi
      have hn : i < ρ.length := by
        have := (List.getElem?_eq_some_iff.mp e).1
        rwa [List.length_set] at this
      rw [List.getElem?_set_self hn] at e
      exact absurd (Option.some.inj e).symm n
    · rw [List.getElem?_set_ne (Ne.symm hi)] at e
      exact ⟨hi, e⟩
  have nu : ∀ {s : Sl} {xs : Own}, s.has = some xs → s ≠ .u := fun {s xs} o z => by subst z; cases o
  refine ⟨by rw [List.length_set, List.length_set]; exact k.len, k.fh, k.gh, k.g0, fun i x e => ?_, fun i a xs e => ?_, fun i s xs e o => ?_, fun i j s t xs ys a h1 h2 h3 h4 h5 h6 => ?_⟩
  · obtain ⟨n, e⟩ := low e (by intro z; cases z)
    rw [List.getElem?_set_ne (Ne.symm n)]
    exact k.dat i x e
  · obtain ⟨n, e⟩ := low e (by intro z; cases z)
    rw [List.getElem?_set_ne (Ne.symm n)]
    exact k.bor i a xs e
  · obtain ⟨n, e⟩ := low e (nu o)
    rw [List.getElem?_set_ne (Ne.symm n)]
    exact k.has i s xs e o
  · obtain ⟨n1, e1⟩ := low h1 (nu h2)
    obtain ⟨n2, e2⟩ := low h3 (nu h4)
    rw [List.getElem?_set_ne (Ne.symm n1)] at h5
    rw [List.getElem?_set_ne (Ne.symm n2)] at h6
    exact k.djh i j s t xs ys a e1 h2 e2 h4 h5 h6
theorem Ok.wipe (k : Ok K F0 G F H σ ρ) : ∀ vs : List Nat, Ok K F0 G F H (L2.wipe σ vs) (wipeS ρ vs)
  | [] => k
  | v :: vs => (Ok.wipe k vs).unset v
theorem Ok.back {vs : List Nat} (k0 : Ok K F0 G F1 H1 σ ρ0) (f : Same F1 F) (k : Ok K F0 G F H (L2.wipe σ vs) ρ) : Ok K F0 G F H σ (backS ρ0 ρ vs) := by
  have hl : σ.length = ρ.length := by rw [← k.len, wipe_length]
  have dat : ∀ (i : Nat) (x : D), Sl.kept ρ0[i]? = .d x → ρ0[i]? = some (.d x) := fun i x e => by
    cases q : ρ0[i]? with
    | none => rw [q] at e; cases e
    | some s => rw [q] at e; cases s <;> first | cases e; rfl | cases e
  have nokept : ∀ (i : Nat) (xs : Own), (Sl.kept ρ0[i]?).has ≠ some xs := fun i xs e => by
    cases q : ρ0[i]? with
    | none => rw [q] at e; cases e
    | some s => rw [q] at e; cases s <;> cases e
  have low : ∀ {i : Nat} {s : Sl} {xs : Own}, (backS ρ0 ρ vs)[i]? = some s → s.has = some xs → i ∉ vs ∧ ρ[i]? = some s := fun {i s xs} e o => by
    by_cases hi : i ∈ vs
    · have hlt : i < ρ.length := by
        have := (List.getElem?_eq_some_iff.mp e).1
        rwa [backS_len] at this
      rw [backS_at hi hlt] at e
      cases e
      exact absurd o (nokept i xs)
    · rw [backS_out hi] at e
      exact ⟨hi, e⟩
  refine ⟨by rw [backS_len]; exact hl, k.fh, k.gh, k.g0, fun i x e => ?_, fun i a xs e => ?_, fun i s xs e o => ?_, fun i j s t xs ys a h1 h2 h3 h4 h5 h6 => ?_⟩
  · by_cases hi : i ∈ vs
    · have hlt : i < ρ.length := by
        have := (List.getElem?_eq_some_iff.mp e).1
        rwa [backS_len] at this
      rw [backS_at hi hlt] at e
      obtain ⟨v, q1, q2⟩ := k0.dat i x (dat i x (Option.some.inj e))
      exact ⟨v, q1, rp_mono f _ _ q2⟩
    · rw [backS_out hi] at e
      obtain ⟨v, q1, q2⟩ := k.dat i x e
      rw [wipe_out hi] at q1
      exact ⟨v, q1, q2⟩
  · obtain ⟨hi, e⟩ := low e (xs := .l xs) rfl
    have q1 := k.bor i a xs e
    rwa [wipe_out hi] at q1
  · obtain ⟨hi, e⟩ := low e o
    obtain ⟨a, ws, q1, q⟩ := k.has i s xs e o
    rw [wipe_out hi] at q1
    exact ⟨a, ws, q1, q⟩
  · obtain ⟨n1, e1⟩ := low h1 h2
    obtain ⟨n2, e2⟩ := low h3 h4
    rw [← wipe_out n1] at h5
    rw [← wipe_out n2] at h6
    exact k.djh i j s t xs ys a e1 h2 e2 h4 h5 h6
/-! the thing that is made meanwhile, at Da: o -/
def lessD (F0 : Hp) (Da : Addr) : Hp := fun b => if b = Da then none else F0 b
theorem Ok.begin {Da : Addr} {o : HO} (k : Ok K F0 G F H σ ρ) (hD : H Da = none) : Ok K (lessD F0 Da) (upd G Da o) F (upd H Da o) σ ρ ∧ G Da = none := by
  have gD : G Da = none := by
    cases e : G Da with
    | none => rfl
    | some u => rw [k.gh Da u e] at hD; cases hD
  have fD : F Da = none := by
    cases e : F Da with
    | none => rfl
    | some u => rw [k.fh Da u e] at hD; cases hD
  refine ⟨⟨k.len, fun b u e => ?_, fun b u e => ?_, fun b hb => ?_, k.dat, k.bor, fun i s xs e o' => ?_, k.djh⟩, gD⟩
  · rw [upd_ne (fun z => by rw [z, fD] at e; cases e)]; exact k.fh b u e
  · by_cases hb : b = Da
    · subst hb; rw [upd_same] at e ⊢; exact e
    · rw [upd_ne hb] at e ⊢; exact k.gh b u e
  · unfold lessD
    by_cases hbD : b = Da
    · rw [if_pos hbD, hbD]; exact fD
    · rw [if_neg hbD]
      rw [upd_ne hbD] at hb
      exact k.g0 b hb
  · obtain ⟨a, ws, q1, q2, q3, q4, q5⟩ := k.has i s xs e o'
    have ha : a ≠ Da := fun z => by rw [z, hD] at q2; cases q2
    exact ⟨a, ws, q1, by rw [upd_ne ha]; exact q2, q3, by rw [upd_ne ha]; exact q4, q5⟩
theorem Ok.atD {Da : Addr} {o : HO} (k : Ok K (lessD F0 Da) (upd G Da o) F H σ ρ) (mo : Mut (some o) := by exact True.intro) : H Da = some o ∧ F Da = none := by
  refine ⟨k.gh Da o upd_same, ?_⟩
  rw [k.g0 Da (by rw [upd_same]; exact mo)]
  exact if_pos rfl
theorem Ok.putD {Da : Addr} {o o' : HO} (k : Ok K (lessD F0 Da) (upd G Da o) F H σ ρ) (mo : Mut (some o) := by exact True.intro) : Ok K (lessD F0 Da) (upd G Da o') F (upd H Da o') σ ρ := by
  have fD := (k.atD mo).2
  refine ⟨k.len, fun b u e => ?_, fun b u e => ?_, fun b hb => ?_, k.dat, k.bor, fun i s xs e o' => ?_, k.djh⟩
  · rw [upd_ne (fun z => by rw [z, fD] at e; cases e)]; exact k.fh b u e
  · by_cases hb : b = Da
    · subst hb; rw [upd_same] at e ⊢; exact e
    · rw [upd_ne hb] at e ⊢; exact k.gh b u (by rw [upd_ne hb]; exact e)
  · refine k.g0 b ?_
    by_cases hbD : b = Da
    · rw [hbD, upd_same]; exact mo
    · rw [upd_ne hbD] at hb ⊢; exact hb
  · obtain ⟨a, ws, q1, q2, q3, q4, q5⟩ := k.has i s xs e o'
    have ha : a ≠ Da := fun z => by rw [z, upd_same] at q4; cases q4
    rw [upd_ne ha] at q4
    exact ⟨a, ws, q1, by rw [upd_ne ha]; exact q2, q3, by rw [upd_ne ha]; exact q4, q5⟩
theorem Ok.endD {Da : Addr} {o : HO} (k : Ok K (lessD F0 Da) (upd G Da o) F H σ ρ) (gD : G Da = none) : Ok K F0 G F H σ ρ ∧ ∀ (i : Nat) (s : Sl) (ys : Own), ρ[i]? = some s → s.has = some ys → σ[i]? ≠ some (some (V.ref Da)) := by
  refine ⟨⟨k.len, k.fh, fun b u e => ?_, fun b hb => ?_, k.dat, k.bor, fun i s xs e o' => ?_, k.djh⟩, fun i s ys e o' z => ?_⟩
  · have hb : b ≠ Da := fun z => by rw [z, gD] at e; cases e
    exact k.gh b u (by rw [upd_ne hb]; exact e)
  · have hbD : b ≠ Da := mut_ne gD hb
    have := k.g0 b (by rw [upd_ne hbD]; exact hb)
    rw [this]
    exact if_neg hbD
  · obtain ⟨a, ws, q1, q2, q3, q4, q5⟩ := k.has i s xs e o'
    have ha : a ≠ Da := fun z => by rw [z, upd_same] at q4; cases q4
    rw [upd_ne ha] at q4
    exact ⟨a, ws, q1, q2, q3, q4, q5⟩
  · obtain ⟨a, ws, q1, q2, q3, q4, q5⟩ := k.has i s ys e o'
    rw [q1] at z
    cases z
    rw [upd_same] at q4
    cases q4
end
/-! ### tests of a clause -/
def cTs (X : Cx) (ifs : List Expr) : TT := fun σ H Q => ∀ (pins : List (Addr × Obj)) (s : Shared), Inv X pins σ H s →
    wpAny (model X.prog X.w) X.A (forIn ifs true fun c r => if r = true then do let ok ← isTrue c X.env (eval c X.env); pure (ForInStep.yield ok) else pure (ForInStep.yield r)) (TP X pins σ Q) X.xe s
def XTs (X : Cx) (ifs : List Expr) (ρ : List Sl) (b : Bool) (ρ' : List Sl) : Prop := ∀ (F0 G F H : Hp) (σ : L2.St), Ok X.K F0 G F H σ ρ → ∀ Q : Bool → Hp → Prop,
  (∀ F' H', Ok X.K F0 G F' H' σ ρ' → Same F F' → Q b H') → cTs X ifs σ H Q
theorem xts_nil {X : Cx} {ρ : List Sl} : XTs X [] ρ true ρ := fun F0 G F H σ k Q q pins s I => pts_nil.run pins s σ H Q I (q F H k (Same.refl _))
theorem xts_one {X : Cx} {c : Expr} {ρ ρ1 : List Sl} {b : Bool} (h : XT X c ρ b ρ1) : XTs X [c] ρ b ρ1 := fun F0 G F H σ k Q q pins s I =>
  (pts_one (pcT c)).run pins s σ H Q I (h F0 G F H σ k Q q)
section
variable (X : Cx) (scope : Scope)
abbrev bX (s : Shared) (H : Hp) (C : Addr) (cl : List (Str × Addr)) (fp : List Addr) : Cx := X.blk s H scope (compEnvC scope cl C X.env) fp
def bE (e : Expr) : TE := fun σ H Q => ∀ s H0 C cl fp, cE (bX X scope s H0 C cl fp) e σ H Q
def bTs (e : List Expr) : TT := fun σ H Q => ∀ s H0 C cl fp, cTs (bX X scope s H0 C cl fp) e σ H Q
def bG (e : Expr) : TG := fun v σ H Q => ∀ s H0 C cl fp, cG (bX X scope s H0 C cl fp) e v σ H Q
def bI (tg e : Expr) : TI := fun σ H R => ∀ s H0 C cl fp, cI (bX X scope s H0 C cl fp) tg e σ H R
/-- the turns of a clause: items, slots, what is made, slots behind -/
inductive LC (tg : Expr) (ifs : List Expr) (elt : Expr) (vs : List Nat) : List D → List Sl → List D → List Sl → Prop
  | nil {ρ : List Sl} : LC tg ifs elt vs [] ρ [] ρ
  | take {x y : D} {xs ys : List D} {ws : List Nat} {ρ ρ1 ρ2 ρ3 ρ' : List Sl} : (∀ s H C cl fp, XG (bX X scope s H C cl fp) tg ws x ρ ρ1) → (∀ i ∈ ws, i ∈ vs) → (∀ s H C cl fp, XTs (bX X scope s H C cl fp) ifs ρ1 true ρ2) → (∀ s H C cl fp, XE (bX X scope s H C cl fp) elt ρ2 y ρ3) → LC tg ifs elt vs xs (wipeS ρ3 vs) ys ρ' → LC tg ifs elt vs (x :: xs) ρ (y :: ys) ρ'
  | skip {x : D} {xs ys : List D} {ws : List Nat} {ρ ρ1 ρ2 ρ' : List Sl} : (∀ s H C cl fp, XG (bX X scope s H C cl fp) tg ws x ρ ρ1) → (∀ i ∈ ws, i ∈ vs) → (∀ s H C cl fp, XTs (bX X scope s H C cl fp) ifs ρ1 false ρ2) → LC tg ifs elt vs xs (wipeS ρ2 vs) ys ρ' → LC tg ifs elt vs (x :: xs) ρ ys ρ'
end
section
variable {X : Cx} {scope : Scope} {tg elt iter : Expr} {ifs : List Expr} {vs : List Nat} {F0 G : Hp} {Da : Addr}
theorem lc_loop {J : It} {xs ys zs : List D} {F1 H1 : Hp} {σ : L2.St} {ρ ρ' : List Sl} {acc0 : List V} {Qd : Hp → Prop} (yl : Yl X.K J F1 xs) (lc : LC X scope tg ifs elt vs xs ρ ys ρ') (k1 : Ok X.K (lessD F0 Da) (upd G Da (.lst acc0)) F1 H1 (wipe σ vs) ρ) (r0 : Rps X.K F1 acc0 zs) (hz : (zs ++ ys).length < 1000000)
    (fin : ∀ F H acc, Ok X.K (lessD F0 Da) (upd G Da (.lst acc)) F H (wipe σ vs) ρ' → Same F1 F → Rps X.K F acc (zs ++ ys) → Qd H) :
    ∃ W : Nat → Nat → Hp → Prop, (∃ m, W 0 m H1) ∧ ∀ i m H, W i m H →
      (J.stop i H ∧ Qd H) ∨ (J.go i H ∧ ∃ Nx : Hp → Prop, (∀ H', Nx H' → ∃ m', m' < m ∧ W (i + 1) m' H') ∧ ∀ x H', J.yld i H x H' → bG X scope tg x (wipe σ vs) H' fun σ2 H2 => wipe σ2 vs = wipe σ vs ∧ bTs X scope ifs σ2 H2 fun b H3 =>
        if b = true then bE X scope elt σ2 H3 fun y H4 => ∃ acc, H4 Da = some (.lst acc) ∧ acc.length < sizeLine ∧ Nx (upd H4 Da (.lst (acc ++ [y]))) else Nx H3) := by
  refine ⟨fun i m H => m = xs.length - i ∧ i ≤ xs.length ∧ ∃ F ρi acc zs1 ys1, Ok X.K (lessD F0 Da) (upd G Da (.lst acc)) F H (wipe σ vs) ρi ∧ Same F1 F ∧ Rps X.K F acc zs1 ∧ LC X scope tg ifs elt vs (xs.drop i) ρi ys1 ρ' ∧ zs1 ++ ys1 = zs ++ ys, ⟨_, rfl, Nat.zero_le _, F1, ρ, acc0, zs, ys, k1, Same.refl _, r0, lc, rfl⟩, ?_⟩
  rintro i m H ⟨rfl, hle, F, ρi, acc, zs1, ys1, k, f, r, lc, e⟩
  by_cases hlt : i < xs.length
  · rw [List.drop_eq_getElem_cons hlt] at lc
    have hx : xs[i]? = some xs[i] := List.getElem?_eq_getElem hlt
    refine .inr ⟨yl.go i H (f.trans k.fh) hlt, _, fun H' w => ⟨xs.length - (i + 1), by omega, w⟩, fun x H' hy => ?_⟩
    obtain ⟨F3, gr, r3⟩ := yl.yld i H x H' F f k.fh hy _ hx
    have k3 := k.gr gr
    cases lc with
    | take g1 sub t1 e1 l1 =>
      intro s H0 C cl fp
      refine g1 s H0 C cl fp _ _ F3 H' (wipe σ vs) x k3 r3 _ fun σ4 k4 hl4 n4 => ⟨?_, ?_⟩
      · rw [wipe_ext (vs := vs) hl4 fun i hi => n4 i fun z => hi (sub i z)]
        exact wipe_wipe σ fun _ z => z
      · have hw : wipe σ4 vs = wipe σ vs := by
          rw [wipe_ext (vs := vs) hl4 fun i hi => n4 i fun z => hi (sub i z)]
          exact wipe_wipe σ fun _ z => z
        intro s H0 C cl fp
        refine t1 s H0 C cl fp _ _ F3 H' σ4 k4 _ fun F5 H5 k5 f5 => ?_
        rw [if_pos rfl]
        intro s H0 C cl fp
        refine e1 s H0 C cl fp _ _ F5 H5 σ4 k5 _ fun y F6 H6 k6 f6 r6 => ⟨acc, k6.atD.1, ?_, rfl, hlt, F6, _, acc ++ [y], _, _, ?_, ((f.trans gr.f).trans f5).trans f6, Rps.append (rps_mono ((gr.f.trans f5).trans f6) _ _ r) (.cons r6 .nil), l1, ?_⟩
        · rw [Rps.length r]
          have : zs1.length ≤ (zs ++ ys).length := by rw [← e, List.length_append]; omega
          exact Nat.lt_of_lt_of_le (Nat.lt_of_le_of_lt this hz) (by decide)
        · rw [← hw]
          exact k6.putD.wipe vs
        · rw [List.append_assoc]; exact e
    | skip g1 sub t1 l1 =>
      intro s H0 C cl fp
      refine g1 s H0 C cl fp _ _ F3 H' (wipe σ vs) x k3 r3 _ fun σ4 k4 hl4 n4 => ⟨?_, ?_⟩
      · rw [wipe_ext (vs := vs) hl4 fun i hi => n4 i fun z => hi (sub i z)]
        exact wipe_wipe σ fun _ z => z
      · have hw : wipe σ4 vs = wipe σ vs := by
          rw [wipe_ext (vs := vs) hl4 fun i hi => n4 i fun z => hi (sub i z)]
          exact wipe_wipe σ fun _ z => z
        intro s H0 C cl fp
        refine t1 s H0 C cl fp _ _ F3 H' σ4 k4 _ fun F5 H5 k5 f5 => ?_
        rw [if_neg Bool.false_ne_true]
        refine ⟨rfl, hlt, F5, _, acc, _, _, ?_, (f.trans gr.f).trans f5, rps_mono (gr.f.trans f5) _ _ r, l1, e⟩
        rw [← hw]
        exact k5.wipe vs
  · have hi : i = xs.length := by omega
    subst hi
    rw [List.drop_length] at lc
    cases lc
    rw [List.append_nil] at e
    subst e
    exact .inl ⟨yl.stop H (f.trans k.fh), fin F H acc k f r⟩
/-- [elt for tg in iter if ..], a new list of one's own -/
theorem xo_lc {own : List (Str × Nat)} {pos : Pos} {ρ ρ0 ρ' : List Sl} {xs ys : List D} (hc : X.calm = true) (hN : X.N.Nodup) (hi : XI X tg iter ρ xs ρ0) (ok : BlkOk X.N X.env.scope scope own) (lc : LC X scope tg ifs elt (own.map (·.2)) xs (wipeS ρ0 (own.map (·.2))) ys ρ') (hz : ys.length < 1000000)
    (hs : ∀ x, foldedSetIterable iter X.env x = pure x := by intro _; rfl) : XO X (.ListComp elt [⟨tg, iter, ifs, 0⟩] scope pos) ρ ys (backS ρ0 ρ' (own.map (·.2))) := by
  have h := pe_lc (elt := elt) (tg := tg) (iter := iter) (ifs := ifs) (pos := pos) (g := bG X scope tg) (tt := bTs X scope ifs) (te := bE X scope elt) hc hN (pcI tg iter) ok
    (fun s H C cl fp => ⟨fun pins s' σ H' v u Q I r h => h s H C cl fp pins s' u I r⟩) (fun s H C cl fp => ⟨fun pins s' σ H' Q I h => h s H C cl fp pins s' I⟩) (fun s H C cl fp => ⟨fun pins s' σ H' Q I h => h s H C cl fp pins s' I⟩) hs
  intro F0 G F H σ k Q q pins s I
  refine h.run pins s σ H Q I (hi F0 G F H σ k _ fun J F1 H1 k1 f1 yl D hD => ?_)
  obtain ⟨k2, gD⟩ := k1.begin (o := .lst []) hD
  refine lc_loop (zs := []) yl lc (k2.wipe _) .nil (by simpa using hz) fun F2 H2 acc k3 f3 r3 => ?_
  obtain ⟨h1, h2⟩ := k3.atD
  obtain ⟨k4, ap⟩ := k3.endD gD
  refine q D acc F2 H2 (k1.back f3 k4) (f1.trans f3) h1 h2 gD (fun i s ys e o => ?_) r3
  have hl : (backS ρ0 ρ' (own.map (·.2))).length = ρ'.length := backS_len _ _ _
  by_cases hi : i ∈ own.map (·.2)
  · have hlt : i < ρ'.length := by
      have := (List.getElem?_eq_some_iff.mp e).1
      rwa [backS_len] at this
    rw [backS_at hi hlt] at e
    cases e
    exfalso
    cases qq : ρ0[i]? with
    | none => rw [qq] at o; cases o
    | some s => rw [qq] at o; cases s <;> cases o
  · rw [backS_out hi] at e
    have := ap i s ys e o
    rw [wipe_out hi] at this
    exact this
end
end DL
set_option Elab.async false
set_option linter.all false
set_option maxRecDepth 100000
set_option maxHeartbeats 2000000
namespace DL
open PySem PySem.Spec PyProof.Rows L2
/-! ### a def by its body -/
/-- the context of a def's body -/
abbrev fX (P : Program) (w : World) (K : PySem.W.Frag) (mg : Str → Option Value) (base : Heap) (N : List Str) (qual : Str) (st : Stmt) (f : Addr) (cdv : Value) (A : Around) (outer : List Env) (s : Shared) (H : Hp) (E : XK) : Cx :=
  (cxOf CX0 P w K mg base N qual (defScope st) f cdv A outer s H E).nox
/-- how a body may end with the value d -/
inductive Fin (d : D) : Out → List Sl → Prop
  | rt {ρ : List Sl} : Fin d (.rt d ρ) ρ
  | nx {ρ : List Sl} : d = .none → Fin d (.nx ρ) ρ
theorem start_at {N : List Str} {vs : List V} {i : Nat} {v : V} (h : vs[i]? = some v) : (L2.start N vs)[i]? = some (some v) := by
  unfold L2.start
  have hl : i < (vs.map some).length := by
    rw [List.length_map]
    exact (List.getElem?_eq_some_iff.mp h).1
  rw [List.getElem?_append_left hl, List.getElem?_map, h]
  rfl
def args (ds : List D) : List Sl := ds.map .d
def startS (n : Nat) (ss : List Sl) : List Sl := ss ++ List.replicate (n - ss.length) .u
theorem startS_at {n : Nat} {ss : List Sl} {i : Nat} {s : Sl} (h : (startS n ss)[i]? = some s) : ss[i]? = some s ∨ s = .u := by
  unfold startS at h
  by_cases hi : i < ss.length
  · rw [List.getElem?_append_left hi] at h
    exact .inl h
  · rw [List.getElem?_append_right (by omega)] at h
    obtain ⟨_, e⟩ := List.getElem?_eq_some_iff.mp h
    rw [List.getElem_replicate] at e
    exact .inr e.symm
section
variable {P : Program} {w : World} {K : PySem.W.Frag} {mg : Str → Option Value} {base : Heap} {x qual : Str} {st : Stmt} {f : Addr} {fd : FuncData} {N ps : List Str} {k : Nat}
theorem fn_D {R : List D → D → Prop} (F : Fun K x qual st f fd) (S : FnScope N ps (defScope st)) (hps : ps.length ≤ N.length)
    (hb : ∀ (cdv : Value) (A : Around) (outer : List Env) (s : Shared) (H : Hp) (E : XK) (ds : List D) (d : D), ds.length = ps.length → Room k (A.deeper (envOfC qual (defScope st) s.heap.objs.size f cdv)) → R ds d →
      ∃ o ρ, Fin d o ρ ∧ XSs (fX P w K mg base N qual st f cdv A outer s H E) (defBody st) (startS N.length (args ds)) o) :
    FnOk P w K mg base CX0 (k + 1) f fd ps (spD K ps.length R) := by
  refine F.ok S (fun vs H Q E h => ?_) fun cdv A outer s H vs Q E hr h => ?_
  · obtain ⟨_, _, _, h, _⟩ := h
    exact h
  · obtain ⟨F1, ds, d, hl, fh, rs, hR, q⟩ := h
    have hld : ds.length = ps.length := by rw [← Rps.length rs, hl]
    obtain ⟨o, ρ, hfin, hx⟩ := hb cdv A outer s H E ds d hld hr hR
    refine ⟨_, pcSs _, hx F1 H F1 H (L2.start N vs) ⟨?_, fh, Same.refl _, fun _ _ => rfl, fun i y e => ?_, fun i a' xs e => ?_, fun i t xs e o' => ?_, fun i j t t' xs ys a h1 h2 _ _ _ _ => ?_⟩ _ ?_⟩
    · unfold L2.start startS args
      simp [hl, hld]
    · rcases startS_at e with e | e
      · unfold args at e
        rw [List.getElem?_map, Option.map_eq_some_iff] at e
        obtain ⟨z, e1, e2⟩ := e
        cases e2
        obtain ⟨v, e3, e4⟩ := Rps.get rs e1
        exact ⟨v, start_at e3, e4⟩
      · cases e
    · rcases startS_at e with e | e
      · unfold args at e
        rw [List.getElem?_map, Option.map_eq_some_iff] at e
        obtain ⟨z, e1, e2⟩ := e
        cases e2
      · cases e
    · rcases startS_at e with e | e
      · unfold args at e
        rw [List.getElem?_map, Option.map_eq_some_iff] at e
        obtain ⟨z, e1, e2⟩ := e
        subst e2
        cases o'
      · subst e
        cases o'
    · rcases startS_at h1 with e | e
      · unfold args at e
        rw [List.getElem?_map, Option.map_eq_some_iff] at e
        obtain ⟨z, e1, e2⟩ := e
        subst e2
        cases h2
      · subst e
        cases h2
    · cases hfin with
      | rt => exact fun v σ' F' H' k' f' r' => q v F' H' ⟨f', k'.gh, k'.fh, fun b hb => k'.g0 b hb⟩ r'
      | nx e =>
        subst e
        exact fun σ' F' H' k' f' => q .non F' H' ⟨f', k'.gh, k'.fh, fun b hb => k'.g0 b hb⟩ .non
theorem fn_B {R : List D → List D → D → List D → Prop} (F : Fun K x qual st f fd) (S : FnScope N ps (defScope st)) (hps : ps.length ≤ N.length)
    (hb : ∀ (cdv : Value) (A : Around) (outer : List Env) (s : Shared) (H : Hp) (E : XK) (a : Addr) (rs ds : List D) (d : D) (rs' : List D), ds.length + 1 = ps.length → Room k (A.deeper (envOfC qual (defScope st) s.heap.objs.size f cdv)) → R rs ds d rs' →
      ∃ o ρ, Fin d o ρ ∧ ρ[0]? = some (.b a rs') ∧ XSs (fX P w K mg base N qual st f cdv A outer s H E) (defBody st) (startS N.length (.b a rs :: args ds)) o) :
    FnOk P w K mg base CX0 (k + 1) f fd ps (spB K ps.length R) := by
  refine F.ok S (fun vs H Q E h => ?_) fun cdv A outer s H vs Q E hr h => ?_
  · obtain ⟨_, _, _, _, _, _, _, _, h, _⟩ := h
    exact h
  · obtain ⟨F1, a, rv, vs', rs, ds, d, rs', hl, rfl, fh, fa, ha, r1, r2, hR, q⟩ := h
    have hld : ds.length + 1 = ps.length := by rw [← Rps.length r2, ← hl, List.length_cons]
    obtain ⟨o, ρ, hfin, h0, hx⟩ := hb cdv A outer s H E a rs ds d rs' hld hr hR
    have low : ∀ {i : Nat} {t : Sl}, (startS N.length (.b a rs :: args ds))[i]? = some t → (i = 0 ∧ t = .b a rs) ∨ (∃ z, t = .d z ∧ ∃ j, i = j + 1 ∧ ds[j]? = some z) ∨ t = .u := fun {i t} e => by
      rcases startS_at e with e | e
      · cases i with
        | zero => simp at e; exact .inl ⟨rfl, e.symm⟩
        | succ j =>
          rw [List.getElem?_cons_succ] at e
          unfold args at e
          rw [List.getElem?_map, Option.map_eq_some_iff] at e
          obtain ⟨z, e1, e2⟩ := e
          exact .inr (.inl ⟨z, e2.symm, j, rfl, e1⟩)
      · exact .inr (.inr e)
    have s0 : (L2.start N (V.ref a :: vs'))[0]? = some (some (V.ref a)) := start_at rfl
    have fin : ∀ {σ' : L2.St} {F' H' : Hp} {v : V}, Ok K F1 (fun b => if b = a then none else H b) F' H' σ' ρ → Same F1 F' → Rp K F' v d → Q v H' := fun {σ' F' H' v} k' f' r' => by
      obtain ⟨a', rv', q1, q2, q3, q4, q5⟩ := k'.own 0 _ rs' h0 rfl
      have e0 := k'.bor 0 a rs' h0
      rw [e0] at q1
      cases q1
      refine q v F' H' rv' f' k'.fh (fun b o hb e => k'.gh b o (by rw [if_neg hb]; exact e)) (fun b hb => ?_) q2 q5 r'
      by_cases hba : b = a
      · rw [hba, q3, fa]
      · exact k'.g0 b (by rw [if_neg hba]; exact hb)
    refine ⟨_, pcSs _, hx F1 (fun b => if b = a then none else H b) F1 H (L2.start N (V.ref a :: vs')) ⟨?_, fh, fun b o e => ?_, fun _ _ => rfl, fun i y e => ?_, fun i a' xs e => ?_, fun i t xs e o' => ?_, fun i j t t' xs ys c h1 h2 h3 h4 _ _ => ?_⟩ _ ?_⟩
    · unfold L2.start startS args
      have : vs'.length = ds.length := Rps.length r2
      simp only [List.length_append, List.length_map, List.length_replicate, List.length_cons]
      omega
    · by_cases hb : b = a
      · rw [if_pos hb] at e; cases e
      · rw [if_neg hb] at e; exact e
    · rcases low e with ⟨_, q1⟩ | ⟨z, q1, j, q2, ej⟩ | q1
      · cases q1
      · cases q1
        subst q2
        obtain ⟨v, e3, e4⟩ := Rps.get r2 ej
        exact ⟨v, start_at (by rw [List.getElem?_cons_succ]; exact e3), e4⟩
      · cases q1
    · rcases low e with ⟨q2, q1⟩ | ⟨z, q1, _⟩ | q1
      · cases q1; subst q2; exact s0
      · cases q1
      · cases q1
    · rcases low e with ⟨q2, q1⟩ | ⟨z, q1, _⟩ | q1
      · subst q1
        subst q2
        cases o'
        exact ⟨a, _, s0, ha, fa, if_pos rfl, rv, rfl, r1⟩
      · subst q1; cases o'
      · subst q1; cases o'
    · rcases low h1 with ⟨q2, q1⟩ | ⟨z, q1, _⟩ | q1
      · rcases low h3 with ⟨q3, q4⟩ | ⟨z, q4, _⟩ | q4
        · rw [q2, q3]
        · subst q4; cases h4
        · subst q4; cases h4
      · subst q1; cases h2
      · subst q1; cases h2
    · cases hfin with
      | rt => exact fun v σ' F' H' k' f' r' => fin k' f' r'
      | nx e =>
        subst e
        exact fun σ' F' H' k' f' => fin k' f' .non
end
end DL
set_option Elab.async false
set_option linter.all false
set_option maxRecDepth 100000
set_option maxHeartbeats 4000000
/-! set(xs) of a list of ints, told so that sorted can walk it -/
namespace DL
open PySem PySem.Spec PyProof.Rows L2
abbrev noSet (w : World) : Obj := { cls := .type "set", dict := none, data := .set #[] 0 (.fresh 0 0 (!w.params.followText "set-order")) }
abbrev itOf (l : Addr) : Obj := { cls := .type "list_iterator", data := .fields #[.ref l, .int 0 0] }
section
variable {P : Program} {w : World} {A : Around} {E : Value → Shared → Prop} {s : Shared}
/-- what stands behind it -/
def SetMade (w : World) (s : Shared) (ns : List Int) (s2 : Shared) : Prop := ∃ h' tk c, s2 = { s with heap := h', toks := tk } ∧ SetR w h' s.heap.objs.size (fun j => decide (j ∈ ns)) c ∧ c ≤ ns.length ∧ ∀ b o, s.heap.get? b = some o → h'.get? b = some o
/-- the loop that fills it -/
theorem fill_set {l : Addr} {items : Array Value} (ns : List Int) {A' : Around} (hh : A'.in1.handled = none) (hl : s.heap.IsList l items) (hi : IntsAre items.toList ns) (hb : ns.length + 1 < scanBound) {R : Result → Shared → Prop}
    (h : ∀ s2, SetMade w s ns s2 → R (.ok (.ret .none)) s2) :
    codeAny (model P w) A' (.builtin "set.update.loop" ⟨[.ref s.heap.objs.size, .ref (s.heap.push (noSet w)).objs.size], []⟩) R { s with heap := (s.heap.push (noSet w)).push (itOf l) } := by
  have hn : items.size = ns.length := by
    rw [← Array.length_toList]
    exact hi.length
  have below : ∀ {b o}, s.heap.get? b = some o → b < s.heap.objs.size := fun e => Heap.lt_size e
  obtain ⟨ol, hol, _⟩ := id hl
  have hls := below hol
  have z1 : (s.heap.push (noSet w)).objs.size = s.heap.objs.size + 1 := Heap.size_push ..
  have ne1 : l ≠ (s.heap.push (noSet w)).objs.size := by rw [z1]; exact Nat.ne_of_lt (Nat.lt_succ_of_lt hls)
  have nin : s.heap.objs.size ∉ [(s.heap.push (noSet w)).objs.size, l] := by
    simp only [List.mem_cons, List.not_mem_nil, or_false, not_or]
    exact ⟨by rw [z1]; exact Nat.ne_of_lt (Nat.lt_succ_self _), Nat.ne_of_gt hls⟩
  have gS : ((s.heap.push (noSet w)).push (itOf l)).get? s.heap.objs.size = some (noSet w) := Heap.get?_push_of_some _ (Heap.get?_push_size _ rfl)
  refine set_update_ints ((Walks.list hh _ l ne1 items).toS) _ nin ns hn hb (fun i v hv => ?_) items.size 0 _ rfl (Nat.zero_le _) ⟨⟨_, Heap.get?_push_size _ rfl, rfl, rfl⟩, (hl.push _).push _⟩ ⟨0, Nat.le_refl 0, setR_new_at gS⟩ fun s2 c hm hc hS => ?_
  · have lt : i < ns.length := by
      rw [← hn]
      exact (Array.getElem?_eq_some_iff.mp hv).1
    obtain ⟨t, e⟩ := IntsAre.int_at hi i v (by rw [Array.getElem?_toList]; exact hv)
    refine ⟨ns[i], t, List.getElem?_eq_getElem lt, ?_⟩
    rw [e, List.getD_eq_getElem?_getD, List.getElem?_eq_getElem lt] <;> rfl
  · obtain ⟨h2, g2, d2, t2, o2⟩ := s2
    obtain rfl : g2 = s.gens := hm.gens
    obtain rfl : d2 = s.drawn := hm.drawn
    obtain rfl : o2 = s.os := hm.os
    refine h _ ⟨h2, t2, c, rfl, hS, by omega, fun b o e => hm.heap b o ?_ (Heap.get?_push_of_some _ (Heap.get?_push_of_some _ e))⟩
    have hlt := below e
    simp only [List.mem_cons, List.not_mem_nil, or_false, not_or]
    exact ⟨Nat.ne_of_lt hlt, by rw [z1]; exact Nat.ne_of_lt (Nat.lt_succ_of_lt hlt)⟩
set_option maxHeartbeats 8000000 in
theorem set_of_list {l : Addr} {items : Array Value} (ns : List Int) {Q : Value → Shared → Prop} (hh : A.handled = none) (hl : s.heap.IsList l items) (hi : IntsAre items.toList ns) (hb : ns.length + 1 < scanBound)
    (h : ∀ s2, SetMade w s ns s2 → Q (.ref s.heap.objs.size) s2) : wpAny (model P w) A (call (.type "set") [.ref l]) Q E s := by
  obtain ⟨c, tl, hmro⟩ := F.called_set.mro
  have a1 := F.called_set.made
  have a2 := F.called_set.sub
  refine wpAny_call (codeAny_of_tree ?_)
  show wpAny _ _ (callAny (.type "set") _) _ _ _
  refine wpAny_pure ⟨Code.quiet_builtin _ (by decide +kernel), codeAny_builtin F.entry_type_call ?_⟩
  rw [Around.under_plain (weight_type_call_type "set" [.ref l] []) rfl]
  have a3 := F.called_set.notType
  have a4 := F.called_set.canCreate
  have a5 := F.typeCall_set_1 (.ref l)
  repeat (any_goals (first | assumption | wp_step))
  refine codeAny_mono (code_set_led1 (.ref l) (E := E) (Q₁ := fun v t => v = .ref s.heap.objs.size ∧ t = { s with heap := s.heap.push (noSet w) }) ⟨rfl, rfl⟩) fun r s1 hr => ?_
  rcases r with e | fl
  · exact hr
  · cases fl with
    | ret v =>
      obtain ⟨rfl, rfl⟩ := hr
      have b1 : (s.heap.push (noSet w)).get? s.heap.objs.size = some (noSet w) := Heap.get?_push_size _ rfl
      have b2 : Shared.TypeIs { s with heap := s.heap.push (noSet w) } (.ref s.heap.objs.size) "set" := ⟨_, b1, rfl⟩
      have b3 := F.called_set.init.lookup
      have b4 := F.called_set.init.bind (.ref s.heap.objs.size)
      repeat (any_goals (first | assumption | wp_step))
      refine codeAny_mono (codeAny_call_builtin (R := wants (fun r t => r = .none ∧ SetMade w s ns t) E) F.called_set.init.plain F.entry_set_init (check_set_init_1 b2 ?_)) fun r2 s2 hr2 => ?_
      · obtain ⟨⟨oc, od, oda, osl⟩, q1, q2, nl, q3⟩ := id hl
        obtain rfl : oc = .type "list" := q2
        obtain rfl : oda = .seq items nl := q3
        have c1 := Heap.get?_push_of_some (noSet w) q1
        have c2 := F.sub_list_set
        have c3 := F.sub_list_frozenset
        have c4 : (Value.type "list" == Value.type "dict") = false := by decide
        have c5 : (s.heap.push (noSet w)).IsList l items := hl.push _
        unfold Builtin.«set.__init__» noKeywords Builtin.Frozenset.updateFrom
        generalize e0 : pyIter = PI
        wp_walk
        subst e0
        refine wpAny_pyIter_list c5 (wpAny_bind (wpAny_runValue ?_))
        refine fill_set ns (by simp [hh]) hl hi hb fun s3 hs3 => ?_
        show wpAny _ _ _ _ _ _
        refine wpAny_pure ?_
        show wpAny _ _ (ret Value.none) _ _ _
        exact wpAny_pure ⟨rfl, hs3⟩
      · rcases r2 with e2 | fl2
        · exact hr2
        · cases fl2 with
          | ret r =>
            obtain ⟨rfl, h', tk, c', rfl, d1, d2, d3⟩ := hr2
            repeat (any_goals (first | assumption | wp_step))
            exact h _ ⟨h', tk, c', rfl, d1, d2, d3⟩
          | _ => exact hr2.elim
    | _ => exact hr.elim
end
section
variable {X : Cx}
def rSetL (w : World) (K : PySem.W.Frag) : List V → Hp → VK → Prop := fun xs H Q => ∃ (l : Addr) (ns : List Int), xs = [V.ref l] ∧ SqL K H l (ns.map V.int) ∧ ns.length < 64 ∧ ∀ a c, H a = none → c ≤ ns.length → Q (.ref a) (upd H a (SetO w a (fun j => decide (j ∈ ns)) c))
theorem cr_setL (hc : X.calm = true) : CallR X (.type "set") (rSetL X.w X.K) := by
  intro pins s σ H xs us Q I r h
  obtain ⟨l, ns, rfl, hl, hn, q⟩ := h
  rw [Vals.ref1 r]
  obtain ⟨its, rv, pl, hz⟩ := I.list hl
  have hi : IntsAre its ns := Vals.ints rv
  refine set_of_list ns (I.ok.hd hc) pl.isList (by simpa using hi) (by unfold scanBound; omega) fun s2 hs2 => ?_
  obtain ⟨h', tk, c, rfl, R, hc', k⟩ := hs2
  exact ⟨.ref s.heap.objs.size, upd H s.heap.objs.size (SetO X.w s.heap.objs.size _ c), I.laid (t' := tk) k (Nat.le_refl _) (setO_new R), rfl, q _ c (I.hok.fresh (Nat.le_refl _)) hc'⟩
end
end DL
set_option Elab.async false
set_option linter.all false
set_option maxRecDepth 100000
set_option maxHeartbeats 4000000
/-! {elt for t0 in i0 if .. for t1 in i1 if ..} of ints -/
namespace DL
open PySem PySem.Spec PyProof.Rows L2
section
variable (elt t0 i0 t1 i1 : Expr) (fs0 fs1 : List Expr) (scope : Scope) (pos : Pos)
/-- the expression -/
abbrev sc2 : Expr := .SetComp elt [⟨t0, i0, fs0, 0⟩, ⟨t1, i1, fs1, 0⟩] scope pos
/-- all the tests of a clause -/
abbrev testsGo (fs : List Expr) (env : Env) : Sem Bool := forIn fs true fun c r => if r = true then do let ok ← isTrue c env (eval c env); pure (ForInStep.yield ok) else pure (ForInStep.yield r)
theorem sc2_turn0 (it acc : Value) (env : Env) : compTurn (sc2 elt t0 i0 t1 i1 fs0 fs1 scope pos) 0 it acc env = (do
    standAt i0.pos
    match ← pyNext it with
    | none => pure (.done .next)
    | some v =>
      letOwnedTupleGo t0 it v
      assign t0 env v
      let ok ← testsGo fs0 env
      if ok then
        let x ← eval i1 env
        standAt i1.pos
        let x ← foldedSetIterable i1 env x
        let _ ← runOwn (.compStart (sc2 elt t0 i0 t1 i1 fs0 fs1 scope pos) 1 (← holding [x] (pyIter x)) acc env) env
      again (.compLoop (sc2 elt t0 i0 t1 i1 fs0 fs1 scope pos) 0 it acc env)) := by rfl
theorem sc2_turn1 (it acc : Value) (env : Env) : compTurn (sc2 elt t0 i0 t1 i1 fs0 fs1 scope pos) 1 it acc env = (do
    standAt i1.pos
    match ← pyNext it with
    | none => pure (.done .next)
    | some v =>
      letOwnedTupleGo t1 it v
      assign t1 env v
      let ok ← testsGo fs1 env
      if ok then
        (do let v ← eval elt env; standAt elt.pos; let _ ← call (.builtin "set.add") [acc, v])
      again (.compLoop (sc2 elt t0 i0 t1 i1 fs0 fs1 scope pos) 1 it acc env)) := by rfl
end
section
variable {P : Program} {w : World} {A : Around} {R : Result → Shared → Prop} {s : Shared} {elt t0 i0 t1 i1 : Expr} {fs0 fs1 : List Expr} {scope : Scope} {pos : Pos} {it acc : Value} {env : Env}
/-- nothing is raised within -/
abbrev qu (P : Program) (w : World) (A : Around) {α : Type} (t : Sem α) (Q : α → Shared → Prop) (s : Shared) : Prop := wpAny (model P w) A t Q (fun _ _ => False) s
theorem qu_up {α : Type} {t : Sem α} {Q Q' : α → Shared → Prop} {E : Value → Shared → Prop} (h : qu P w A t Q s) (f : ∀ a s, Q a s → Q' a s) : wpAny (model P w) A t Q' E s := wpAny_mono h f fun _ _ z => z.elim
theorem sc2_loop1 (I : Nat → Shared → Prop)
    (turn : ∀ n s, I n s → qu P w A (pyNext it) (fun r s1 => match r with
      | none => R (.ok .next) s1
      | some v => qu P w A (letOwnedTupleGo t1 it v) (fun _ s2 => qu P w A (assign t1 env v) (fun _ s3 => qu P w A (testsGo fs1 env) (fun ok s4 =>
          if ok = true then qu P w A (eval elt env) (fun x s5 => qu P w A (call (.builtin "set.add") [acc, x]) (fun _ s6 => ∃ m, m < n ∧ I m s6) s5) s4
          else ∃ m, m < n ∧ I m s4) s3) s2) s1) s) (n : Nat) (h : I n s) :
    codeAny (model P w) A (.compLoop (sc2 elt t0 i0 t1 i1 fs0 fs1 scope pos) 1 it acc env) R s := by
  refine codeAny_loop rfl I (fun n s hI => ?_) n h
  show wpAny _ A ((compTurn (sc2 elt t0 i0 t1 i1 fs0 fs1 scope pos) 1 it acc env).onRaise (fun x => do noteFrame x env; theTreesLotGoes x)) _ _ s
  refine wpAny_noted ?_
  rw [sc2_turn1]
  refine wpAny_bind (wpAny_standAt (wpAny_bind (qu_up (turn n s hI) fun r s1 h1 => ?_)))
  cases r with
  | none => exact wpAny_pure h1
  | some v =>
    refine wpAny_bind (qu_up h1 fun _ s2 h2 => wpAny_bind (qu_up h2 fun _ s3 h3 => wpAny_bind (qu_up h3 fun ok s4 h4 => ?_)))
    cases ok with
    | false => exact wpAny_pure ⟨rfl, h4⟩
    | true => exact wpAny_bind (wpAny_bind (qu_up h4 fun x s5 h5 => wpAny_bind (wpAny_standAt (wpAny_bind (qu_up h5 fun _ s6 h6 => wpAny_pure (wpAny_pure ⟨rfl, h6⟩))))))
theorem sc2_loop0 (hs : ∀ x, foldedSetIterable i1 env x = pure x) (I : Nat → Shared → Prop)
    (turn : ∀ n s, I n s → qu P w A (pyNext it) (fun r s1 => match r with
      | none => R (.ok .next) s1
      | some v => qu P w A (letOwnedTupleGo t0 it v) (fun _ s2 => qu P w A (assign t0 env v) (fun _ s3 => qu P w A (testsGo fs0 env) (fun ok s4 =>
          if ok = true then qu P w A (eval i1 env) (fun x s5 => qu P w A (pyIter x) (fun it1 s6 =>
            codeAny (model P w) A (.compStart (sc2 elt t0 i0 t1 i1 fs0 fs1 scope pos) 1 it1 acc env) (fun r s' => match r with
              | .ok _ => ∃ m, m < n ∧ I m s'
              | .error _ => False) s6) s5) s4
          else ∃ m, m < n ∧ I m s4) s3) s2) s1) s) (n : Nat) (h : I n s) :
    codeAny (model P w) A (.compLoop (sc2 elt t0 i0 t1 i1 fs0 fs1 scope pos) 0 it acc env) R s := by
  refine codeAny_loop rfl I (fun n s hI => ?_) n h
  show wpAny _ A ((compTurn (sc2 elt t0 i0 t1 i1 fs0 fs1 scope pos) 0 it acc env).onRaise (fun x => do noteFrame x env; theTreesLotGoes x)) _ _ s
  refine wpAny_noted ?_
  rw [sc2_turn0]
  refine wpAny_bind (wpAny_standAt (wpAny_bind (qu_up (turn n s hI) fun r s1 h1 => ?_)))
  cases r with
  | none => exact wpAny_pure h1
  | some v =>
    refine wpAny_bind (qu_up h1 fun _ s2 h2 => wpAny_bind (qu_up h2 fun _ s3 h3 => wpAny_bind (qu_up h3 fun ok s4 h4 => ?_)))
    cases ok with
    | false => exact wpAny_pure ⟨rfl, h4⟩
    | true =>
      refine wpAny_bind (qu_up h4 fun x s5 h5 => wpAny_bind (wpAny_standAt (wpAny_bind (wpAny_of_eq (hs x) (wpAny_bind (wpAny_holding (qu_up h5 fun it1 s6 h6 => ?_)))))))
      refine wpAny_bind (wpAny_runOwn ?_)
      rw [Around.mark_none]
      refine codeAny_mono h6 fun r s' hr => ?_
      cases r with
      | ok f => first | exact wpAny_pure ⟨rfl, hr⟩ | exact wpAny_bind (wpAny_pure (wpAny_pure ⟨rfl, hr⟩))
      | error e => exact hr.elim
/-- a clause's start, over what is an iterator already -/
theorem sc2_start {k : Nat} (hk : k = 0 ∨ k = 1) (h0 : codeAny (model P w) A (.compLoop (sc2 elt t0 i0 t1 i1 fs0 fs1 scope pos) k it acc env) R s) (hi : ∀ (Q : Value → Shared → Prop) (E : Value → Shared → Prop), Q it s → wpAny (model P w) A (pyIter it) Q E s) :
    codeAny (model P w) A (.compStart (sc2 elt t0 i0 t1 i1 fs0 fs1 scope pos) k it acc env) R s := by
  refine codeAny_of_tree ?_
  show wpAny _ A ((compStart (sc2 elt t0 i0 t1 i1 fs0 fs1 scope pos) k it acc env).onRaise (fun x => do noteFrame x env; standAt theWindowsPlace)) _ _ s
  refine wpAny_notedAt ?_
  rcases hk with rfl | rfl
  all_goals
    unfold compStart
    show wpAny _ _ (ask >>= _) _ _ s
    refine wpAny_bind (wpAny_askSetting (wpAny_ite ?_))
    split
    · first
        | exact wpAny_bind (wpAny_pure (wpAny_pure (And.intro rfl h0)))
        | exact wpAny_pure (And.intro rfl h0)
    · first
        | exact wpAny_bind (wpAny_rule (wpAny_bind (wpAny_standAt (wpAny_bind (hi _ _ (wpAny_pure (And.intro rfl h0)))))))
        | (refine wpAny_bind (wpAny_rule ?_); show wpAny _ _ (standAt _ >>= _) _ _ s; exact wpAny_bind (wpAny_standAt (wpAny_bind (hi _ _ (wpAny_pure (And.intro rfl h0))))))
end
end DL
set_option Elab.async false
set_option linter.all false
set_option maxRecDepth 100000
set_option maxHeartbeats 4000000
namespace DL
open PySem PySem.Spec PyProof.Rows L2
section
variable {X : Cx}
/-- one more int in the set at D -/
def addS (w : World) (D : Addr) (y : V) (H : Hp) (N : Hp → Prop) : Prop := ∃ (S : Int → Bool) (n : Nat) (k : Int), y = .int k ∧ H D = some (SetO w D S n) ∧ n + 1 < scanBound ∧ N (upd H D (SetO w D (fun j => S j || decide (j = k)) (if S k = true then n else n + 1)))
theorem addS_ok {pins : List (Addr × Obj)} {σ : L2.St} {H : Hp} {s : Shared} {D : Addr} {y : V} {v : Value} {N : Hp → Prop} {E : Value → Shared → Prop} {Q : Value → Shared → Prop} (I : Inv X pins σ H s) (r : RelV y v) (h : addS X.w D y H N) (q : ∀ s' H', Inv X pins σ H' s' → N H' → Q .none s') :
    wpAny (model X.prog X.w) X.A (call (.builtin "set.add") [.ref D, v]) Q E s := by
  obtain ⟨S, n, k, rfl, hD, hn, hN⟩ := h
  obtain ⟨t, rfl⟩ := r
  have R : SetR X.w s.heap D S n := setO_get I hD
  refine setR_add R hn fun h' sb R' => ?_
  obtain ⟨o, _, _, _, ho, _⟩ := id R'
  exact q _ _ (I.write (e := D) (t' := s.toks + 1) (by rw [hD]; trivial) (.inl rfl) (fun b u hb hu => (sb.2 b hb).trans hu) ⟨o, ho⟩ (setO_new R')) hN
/-- the reading of a set comprehension of two clauses -/
def tSc2 (w : World) (wi : TI) (g : TG) (tt : TT) (wi1 : TI) (g1 : TG) (tt1 : TT) (te : TE) (vs vs1 : List Nat) : TE := fun σ H Q => wi σ H fun J H1 => ∀ D, H1 D = none → ∃ W : Nat → Nat → Hp → Prop, (∃ m, W 0 m (upd H1 D (SetO w D (fun _ => false) 0))) ∧ ∀ i m H, W i m H →
  (J.stop i H ∧ Q (.ref D) H) ∨ (J.go i H ∧ ∃ N0 : Hp → Prop, (∀ H', N0 H' → ∃ m', m' < m ∧ W (i + 1) m' H') ∧ ∀ x H', J.yld i H x H' → g x (wipe σ vs) H' fun σ2 H2 => wipe σ2 vs = wipe σ vs ∧ tt σ2 H2 fun b H3 =>
    if b = true then wi1 σ2 H3 fun J1 H4 => ∃ W1 : Nat → Nat → Hp → Prop, (∃ m, W1 0 m H4) ∧ ∀ j k H, W1 j k H →
      (J1.stop j H ∧ N0 H) ∨ (J1.go j H ∧ ∃ N1 : Hp → Prop, (∀ H', N1 H' → ∃ k', k' < k ∧ W1 (j + 1) k' H') ∧ ∀ x H', J1.yld j H x H' → g1 x (wipe σ2 vs1) H' fun σ3 H5 => wipe σ3 vs1 = wipe σ2 vs1 ∧ tt1 σ3 H5 fun b H6 =>
        if b = true then te σ3 H6 fun y H7 => addS w D y H7 N1 else N1 H6)
    else N0 H3)
variable {elt t0 i0 t1 i1 : Expr} {fs0 fs1 : List Expr} {scope : Scope} {pos : Pos} {own : List (Str × Nat)} {vs1 : List Nat} {wi wi1 : TI} {g g1 : TG} {tt tt1 : TT} {te : TE}
/-- the context of its block -/
abbrev kX (X : Cx) (scope : Scope) (s : Shared) (H : Hp) (C : Addr) (cl : List (Str × Addr)) (fp : List Addr) : Cx := X.blk s H scope (compEnvC scope cl C X.env) fp
theorem pe_sc2 (hc : X.calm = true) (hN : X.N.Nodup) (hi : PI X t0 i0 wi) (ok : BlkOk X.N X.env.scope scope own) (hv : ∀ i ∈ vs1, i ∈ own.map (·.2))
    (hg : ∀ s H C cl fp, PG (kX X scope s H C cl fp) t0 g) (ht : ∀ s H C cl fp, PTs (kX X scope s H C cl fp) fs0 tt) (hi1 : ∀ s H C cl fp, PI (kX X scope s H C cl fp) t1 i1 wi1)
    (hg1 : ∀ s H C cl fp, PG (kX X scope s H C cl fp) t1 g1) (ht1 : ∀ s H C cl fp, PTs (kX X scope s H C cl fp) fs1 tt1) (he : ∀ s H C cl fp, PE (kX X scope s H C cl fp) elt te)
    (hs : ∀ x, foldedSetIterable i0 X.env x = pure x := by intro _; rfl) (hs1 : ∀ env x, foldedSetIterable i1 env x = pure x := by intro _ _; rfl) :
    PE X (sc2 elt t0 i0 t1 i1 fs0 fs1 scope pos) (tSc2 X.w wi g tt wi1 g1 tt1 te (own.map (·.2)) vs1) := by
  refine ⟨fun pins s σ H Q I h => ?_⟩
  rw [arm_eval_SetComp]
  have fr : ∀ y ∈ scope.names, y.2 = .free → ∃ c, X.env.cells.lookup y.1 = some c := fun y hy e => (ok.free y hy e).elim (fun k => I.ok.has _ (.inl k)) fun k => I.ok.has _ (.inr k)
  refine wpAny_comprehension_free (use := none) rfl hs (closure_ok fr) ok.kind (fun y hy e => by rw [ok.uniq y hy, e]) (thn (hi.run pins s σ H _ I h) fun xv s1 hx => thn hx fun itv s2 h2 => ?_)
  obtain ⟨it, fp, tn, J, H2, rfl, I2, T, st2, f2, q⟩ := h2
  refine wpAny_newSet_raw fun led hled => newEnv_comp ?_
  subst hled
  obtain ⟨D, hD⟩ : ∃ D, s2.heap.objs.size = D := ⟨_, rfl⟩
  rw [hD]
  have dn : H2 D = none := I2.hok.fresh (Nat.le_of_eq hD)
  obtain ⟨W, ⟨m0, w0⟩, turn⟩ := q D dn
  obtain ⟨s3, hs3⟩ : ∃ s3 : Shared, s3 = { s2 with heap := s2.heap.push (noSet X.w) } := ⟨_, rfl⟩
  have h3 : s3.heap = s2.heap.push (noSet X.w) := by rw [hs3]
  obtain ⟨H3, hH3⟩ : ∃ H3, H3 = upd H2 D (SetO X.w D (fun _ => false) 0) := ⟨_, rfl⟩
  have up : ∀ b o, s2.heap.get? b = some o → s3.heap.get? b = some o := fun b o e => by rw [h3]; exact Heap.get?_push_of_some _ e
  have I3 : Inv X pins σ H3 s3 := by
    rw [hH3, hs3]
    refine I2.laid (t' := s2.toks) (fun b o e => Heap.get?_push_of_some _ e) (Nat.le_of_eq hD) (setO_new ?_)
    rw [← hD]
    exact setR_fresh X.w
  have low : ∀ b ∈ fp, b < s2.heap.objs.size := fun b hb => (T.obj _ _ st2 b hb).elim fun o e => Heap.lt_size e.1
  have f3 : ∀ b ∈ fp, FpOk X pins H3 b ∧ b < s3.heap.objs.size := fun b hb => by
    refine ⟨⟨?_, (f2 b hb).2⟩, by rw [h3, Heap.size_push]; exact Nat.lt_succ_of_lt (low b hb)⟩
    rw [hH3, upd_ne (by rw [← hD]; exact Nat.ne_of_lt (low b hb))]
    exact (f2 b hb).1
  have st3 : tn 0 s3.heap := T.keep _ _ _ st2 fun b _ o e => up b o e
  have I4 := block_start I3 ok hN f3
  obtain ⟨cl, hcl⟩ : ∃ cl, cl = cellsFrom (s3.heap.objs.size + 1) scope.names (cloFrom X.env.cells scope.names []) := ⟨_, rfl⟩
  obtain ⟨s4, hs4⟩ : ∃ s4 : Shared, s4 = { s3 with heap := pushCells (s3.heap.push { cls := .type "dict", data := .dict #[] }) scope.names } := ⟨_, rfl⟩
  rw [← hcl, ← hs4] at I4
  have st4 : tn 0 s4.heap := T.keep _ _ _ st3 fun b _ o e => by rw [hs4]; exact pushCells_keeps _ _ _ _ (Heap.get?_push_of_some _ e)
  obtain ⟨ce, hce⟩ : ∃ ce, ce = compEnvC scope cl s3.heap.objs.size X.env := ⟨_, rfl⟩
  have pg := hg s3 H3 s3.heap.objs.size cl fp
  have pt := ht s3 H3 s3.heap.objs.size cl fp
  have pe := he s3 H3 s3.heap.objs.size cl fp
  have pi1 := hi1 s3 H3 s3.heap.objs.size cl fp
  have pg1 := hg1 s3 H3 s3.heap.objs.size cl fp
  have pt1 := ht1 s3 H3 s3.heap.objs.size cl fp
  have goal : codeAny (model X.prog X.w) X.A (.compStart (sc2 elt t0 i0 t1 i1 fs0 fs1 scope pos) 0 (.ref it) (.ref D) ce) (compPost (model X.prog X.w) X.A X.xe none (EP X pins σ Q) (.ref D) s3.heap.objs.size) s4 := by
    unfold kX at pg pt pe pi1 pg1 pt1
    rw [← hce] at I4 pg pt pe pi1 pg1 pt1
    have cL : ce.locals = s3.heap.objs.size := by rw [hce]; rfl
    rw [← hH3] at w0
    have away : ∀ {σ' : L2.St} {H' : Hp} {s' : Shared}, Inv (X.blk s3 H3 scope ce fp) [] σ' H' s' → (∀ b ∈ fp, H' b = none) → ∀ b ∈ fp, FpOk (X.blk s3 H3 scope ce fp) [] H' b := fun {σ' H' s'} I' hn b hb =>
      ⟨hn b hb, (I'.ok.exf b hb).1, I'.ok.exfs b hb, .inl hb, fun x c e => (I'.ok.exf b hb).2 x c e, fun p hp => by simp at hp⟩
    refine sc2_start (.inl rfl) ?_ (fun Q E h => T.self X.A 0 _ _ _ st4 h)
    refine sc2_loop0 (hs1 ce) (fun n s' => ∃ i H', Inv (X.blk s3 H3 scope ce fp) [] (wipe σ (own.map (·.2))) H' s' ∧ tn i s'.heap ∧ (∀ b ∈ fp, H' b = none) ∧ W i n H') (fun n s5 hI => ?_) m0 ⟨0, H3, I4, st4, fun b hb => (f3 b hb).1.1, w0⟩
    obtain ⟨i, H5, I5, st5, n5, w5⟩ := hI
    rcases turn i n H5 w5 with ⟨stop, qq⟩ | ⟨go, N0, hN0, step⟩
    · refine qu_up (T.done (X.blk s3 H3 scope ce fp) rfl rfl rfl hc i [] s5 _ H5 (fun _ _ => False) I5 (away I5 n5) st5 stop) fun r s6 hr => ?_
      obtain ⟨rfl, I6⟩ := hr
      have I7 : Inv X pins σ H5 s6 := I3.call' (ch := fp) I6.os I6.base I6.hok I6.bare fun b hb => ⟨(f3 b hb).1.2.2.2.1, (f3 b hb).1.2.1, (f3 b hb).1.2.2.2.2.1, (f3 b hb).1.2.2.2.2.2⟩
      have nC : H5 s3.heap.objs.size = none := cL ▸ I6.free
      obtain ⟨m, hn, _⟩ := I6.loc
      obtain ⟨g0, g1, g2, g3, g4, g5⟩ := I3.fpOk (Nat.le_refl _) nC
      refine ⟨m, cL ▸ hn, fun h'' sb => ⟨.ref D, H5, I7.turned (t' := s6.toks) (fun b o hb e => (sb.2 b hb).trans e) g0 g1 g3 g4 g5, rfl, qq⟩⟩
    · refine qu_up (T.item (X.blk s3 H3 scope ce fp) rfl rfl rfl hc i [] s5 _ H5 (fun _ _ => False) I5 (away I5 n5) st5 go) fun r s6 hr => ?_
      obtain ⟨u, rfl, h6⟩ := hr
      refine qu_up h6 fun _ s7 h7 => ?_
      obtain ⟨x, H7, I7, r7, y7, st7, n7⟩ := h7
      have I7' := I7.pinned (away I7 n7) (T.obj _ _ st7)
      refine qu_up (pg.run _ s7 _ H7 x u _ I7' r7 (step x H7 y7)) fun _ s8 h8 => ?_
      obtain ⟨σ8, H8, I8, e8, q8⟩ := h8
      refine qu_up (pt.run _ s8 σ8 H8 _ I8 q8) fun b s9 h9 => ?_
      obtain ⟨H9, I9, q9⟩ := h9
      have len8 : (wipe σ (own.map (·.2))).length = σ8.length := by rw [← e8, wipe_length]
      have back : ∀ {τ : L2.St} {s' : Shared} {H' : Hp}, Inv (X.blk s3 H3 scope ce fp) ([] ++ pinsAt fp s7.heap) τ H' s' → (wipe σ (own.map (·.2))).length = τ.length → (∀ (j : Nat) v, (wipe σ (own.map (·.2)))[j]? = some (some v) → τ[j]? = some (some v)) → N0 H' →
          ∃ m, m < n ∧ ∃ i H', Inv (X.blk s3 H3 scope ce fp) [] (wipe σ (own.map (·.2))) H' s' ∧ tn i s'.heap ∧ (∀ b ∈ fp, H' b = none) ∧ W i m H' := fun {τ s' H'} I' hl hk nx => by
        obtain ⟨m', hm, w'⟩ := hN0 H' nx
        have stay : ∀ b ∈ fp, ∀ o, s7.heap.get? b = some o → s'.heap.get? b = some o ∧ H' b = none := fun b hb o e => by
          have z := I'.pin (b, o) (List.mem_append_right _ (List.mem_append_right _ (mem_pinsAt hb e)))
          exact ⟨z.1, z.2.1⟩
        refine ⟨m', hm, i + 1, H', (I'.unpinned (pins := [])).weak hl hk, T.keep _ _ _ st7 fun b hb o e => (stay b hb o e).1, fun b hb => ?_, w'⟩
        obtain ⟨o, e, _⟩ := T.obj _ _ st7 b hb
        exact (stay b hb o e).2
      have know8 : ∀ (j : Nat) v, (wipe σ (own.map (·.2)))[j]? = some (some v) → σ8[j]? = some (some v) := fun j v e => (wipe_some (by rw [e8]; exact e)).1
      cases b with
      | false =>
        rw [if_neg Bool.false_ne_true] at q9
        rw [if_neg Bool.false_ne_true]
        exact back I9 len8 know8 q9
      | true =>
        rw [if_pos rfl] at q9
        rw [if_pos rfl]
        refine qu_up (pi1.run _ s9 σ8 H9 _ I9 q9) fun xv s10 hx => qu_up hx fun itv s11 h11 => ?_
        obtain ⟨it1, fp1, tn1, J1, H11, rfl, I11, T1, st11, f11, W1, ⟨m1, w1⟩, turn1⟩ := h11
        have away1 : ∀ {H' : Hp}, (∀ b ∈ fp1, H' b = none) → ∀ b ∈ fp1, FpOk (X.blk s3 H3 scope ce fp) ([] ++ pinsAt fp s7.heap) H' b := fun hn b hb => ⟨hn b hb, (f11 b hb).2⟩
        have know9 : ∀ (j : Nat) v, (wipe σ (own.map (·.2)))[j]? = some (some v) → (wipe σ8 vs1)[j]? = some (some v) := fun j v e => by
          obtain ⟨q1, q2⟩ := wipe_some (by rw [e8]; exact e)
          rw [wipe_out fun z => q2 (hv j z)]
          exact q1
        refine sc2_start (.inr rfl) ?_ (fun Q E h => T1.self X.A 0 _ _ _ st11 h)
        refine sc2_loop1 (fun k s' => ∃ j H', Inv (X.blk s3 H3 scope ce fp) ([] ++ pinsAt fp s7.heap) (wipe σ8 vs1) H' s' ∧ tn1 j s'.heap ∧ (∀ b ∈ fp1, H' b = none) ∧ W1 j k H') (fun k s12 hI => ?_) m1 ⟨0, H11, I11.weak (wipe_length _ _) (fun j v e => (wipe_some e).1), st11, fun b hb => (f11 b hb).1, w1⟩
        obtain ⟨j, H12, I12, st12, n12, w12⟩ := hI
        rcases turn1 j k H12 w12 with ⟨stop1, nx1⟩ | ⟨go1, N1, hN1, step1⟩
        · refine qu_up (T1.done (X.blk s3 H3 scope ce fp) rfl rfl rfl hc j _ s12 _ H12 (fun _ _ => False) I12 (away1 n12) st12 stop1) fun r s13 hr => ?_
          obtain ⟨rfl, I13⟩ := hr
          exact back I13 (len8.trans (wipe_length σ8 vs1).symm) know9 nx1
        · refine qu_up (T1.item (X.blk s3 H3 scope ce fp) rfl rfl rfl hc j _ s12 _ H12 (fun _ _ => False) I12 (away1 n12) st12 go1) fun r s13 hr => ?_
          obtain ⟨u1, rfl, h13⟩ := hr
          refine qu_up h13 fun _ s14 h14 => ?_
          obtain ⟨x1, H14, I14, r14, y14, st14, n14⟩ := h14
          refine qu_up (pg1.run _ s14 _ H14 x1 u1 _ (I14.pinned (away1 n14) (T1.obj _ _ st14)) r14 (step1 x1 H14 y14)) fun _ s15 h15 => ?_
          obtain ⟨σ15, H15, I15, e15, q15⟩ := h15
          refine qu_up (pt1.run _ s15 σ15 H15 _ I15 q15) fun b1 s16 h16 => ?_
          obtain ⟨H16, I16, q16⟩ := h16
          have back1 : ∀ {s' : Shared} {H' : Hp}, Inv (X.blk s3 H3 scope ce fp) (([] ++ pinsAt fp s7.heap) ++ pinsAt fp1 s14.heap) σ15 H' s' → N1 H' → ∃ m, m < k ∧ ∃ j H', Inv (X.blk s3 H3 scope ce fp) ([] ++ pinsAt fp s7.heap) (wipe σ8 vs1) H' s' ∧ tn1 j s'.heap ∧ (∀ b ∈ fp1, H' b = none) ∧ W1 j m H' := fun {s' H'} I' nx => by
            obtain ⟨m', hm, w'⟩ := hN1 H' nx
            have stay : ∀ b ∈ fp1, ∀ o, s14.heap.get? b = some o → s'.heap.get? b = some o ∧ H' b = none := fun b hb o e => by
              have z := I'.pin (b, o) (List.mem_append_right _ (List.mem_append_right _ (mem_pinsAt hb e)))
              exact ⟨z.1, z.2.1⟩
            refine ⟨m', hm, j + 1, H', I'.unpinned.weak (by rw [← e15, wipe_length]) (fun j v e => (wipe_some (by rw [e15]; exact e)).1), T1.keep _ _ _ st14 fun b hb o e => (stay b hb o e).1, fun b hb => ?_, w'⟩
            obtain ⟨o, e, _⟩ := T1.obj _ _ st14 b hb
            exact (stay b hb o e).2
          cases b1 with
          | false =>
            rw [if_neg Bool.false_ne_true] at q16
            rw [if_neg Bool.false_ne_true]
            exact back1 I16 q16
          | true =>
            rw [if_pos rfl] at q16
            rw [if_pos rfl]
            refine qu_up (pe.run _ s16 σ15 H16 _ I16 q16) fun z s17 h17 => ?_
            obtain ⟨y, H17, I17, r17, q17⟩ := h17
            exact addS_ok (X := X.blk s3 H3 scope ce fp) I17 r17 q17 fun s18 H18 I18 nx => back1 I18 nx
  rw [hce, hcl, hs4, hs3] at goal
  exact goal
end
end DL
set_option Elab.async false
set_option linter.all false
set_option maxRecDepth 100000
set_option maxHeartbeats 4000000
namespace DL
open PySem PySem.Spec PyProof.Rows L2
/-! ### sorted sets of ints -/
/-- the ascending list without repeats -/
def setI (ns : List Int) : List Int := sortI ns.eraseDups
theorem mem_eraseDups {ns : List Int} {k : Int} : k ∈ ns.eraseDups ↔ k ∈ ns := List.mem_eraseDups
theorem nodup_eraseDups : ∀ (ns : List Int), ns.eraseDups.Nodup := fun ns => by
  induction h : ns.length using Nat.strongRecOn generalizing ns with
  | ind n ih =>
    cases ns with
    | nil => simp
    | cons x xs =>
      rw [List.eraseDups_cons, List.nodup_cons]
      refine ⟨fun hm => ?_, ih _ ?_ _ rfl⟩
      · rw [List.mem_eraseDups, List.mem_filter] at hm
        simp at hm
      · rw [← h, List.length_cons]
        exact Nat.lt_succ_of_le (List.length_filter_le _ _)
theorem mem_setI {ns : List Int} {k : Int} : k ∈ setI ns ↔ k ∈ ns := by
  unfold setI
  rw [(sortI_perm _).mem_iff, mem_eraseDups]
theorem setI_lt (ns : List Int) : (setI ns).Pairwise (· < ·) := by
  have h1 := sortI_sorted ns.eraseDups
  have h2 : (sortI ns.eraseDups).Nodup := (sortI_perm _).nodup_iff.mpr (nodup_eraseDups ns)
  exact (h1.and h2).imp fun ⟨a, b⟩ => by omega
theorem lt_one {xs ys : List Int} (hx : xs.Pairwise (· < ·)) (hy : ys.Pairwise (· < ·)) (h : ∀ k, k ∈ xs ↔ k ∈ ys) : xs = ys := by
  have p : xs.Perm ys := (List.perm_ext_iff_of_nodup (hx.imp fun h => by omega) (hy.imp fun h => by omega)).mpr h
  exact sorted_one p (hx.imp fun h => by omega) (hy.imp fun h => by omega)
theorem setI_one {xs ns : List Int} (hx : xs.Pairwise (· < ·)) (h : ∀ k, k ∈ xs ↔ k ∈ ns) : xs = setI ns := lt_one hx (setI_lt ns) fun k => by rw [mem_setI]; exact h k
theorem setI_of_lt {xs : List Int} (hx : xs.Pairwise (· < ·)) : setI xs = xs := (setI_one hx fun _ => Iff.rfl).symm
theorem setI_congr {xs ys : List Int} (h : ∀ k, k ∈ xs ↔ k ∈ ys) : setI xs = setI ys := lt_one (setI_lt _) (setI_lt _) fun k => by rw [mem_setI, mem_setI]; exact h k
section
variable {X : Cx} {e : Expr} {ρ ρ1 : List Sl} {pos p1 p2 pp : Pos}
/-- the reading of sorted(s), s a set at hand -/
theorem sorted_end {H : Hp} {Q : VK} {a : Addr} {S : Int → Bool} {n : Nat} {ns : List Int} (ha : H a = some (SetO X.w a S n)) (hn : n < 64) (hS : ∀ k, S k = true ↔ k ∈ ns) (q : ∀ p, H p = none → Q (.ref p) (upd H p (.lst ((setI ns).map V.int)))) : rSortedSet X.w [.ref a] H Q :=
  ⟨a, S, n, rfl, ha, hn, fun ms p hlt hm _ hp => by
    have e : ms = setI ns := setI_one hlt fun k => by rw [hm, hS]
    rw [e]
    exact q p hp⟩
/-- sorted(set(e)) -/
theorem xo_sortset {nm1 nm2 : Str} {ns : List Int} (hc : X.calm = true) (h : XE X e ρ (.list (ns.map .int)) ρ1) (hn : ns.length < 64) (hg : Gl X nm1) (hm : X.mg nm1 = none) (hv : bootBuiltins nm1 = some (.builtin "sorted")) (hg2 : Gl X nm2) (hm2 : X.mg nm2 = none) (hv2 : bootBuiltins nm2 = some (.type "set")) (e1 : nm1 = "sorted" := by rfl) (e2 : nm2 = "set" := by rfl)
    (q1 : starEach [e] X.env = (false, eval e X.env) :: starEach [] X.env := by rfl) (q2 : ((backTo pp (starEach [] X.env)).any fun x => x.fst) = false := by rfl) (q3 : starEach [.Call (.Name nm2 p2) [e] [] pp] X.env = (false, eval (.Call (.Name nm2 p2) [e] [] pp) X.env) :: starEach [] X.env := by rfl) (q4 : ((backTo pos (starEach [] X.env)).any fun x => x.fst) = false := by rfl) :
    XO X (.Call (.Name nm1 p1) [.Call (.Name nm2 p2) [e] [] pp] [] pos) ρ ((setI ns).map .int) ρ1 := by
  subst e1 e2
  refine .of (pe_callB (cr_sortedSet hc) hg hm hv (pa_cons (pe_callTy (cr_setL hc) hg2 hm2 hv2 (pa_cons (pcE e) pa_nil q1) (by decide) (by decide) q1 q2) pa_nil q3) (by decide) (by decide) q3 q4) fun F0 G F H σ k Q q => ?_
  refine h F0 G F H σ k _ fun v F1 H1 k1 f1 d1 => ?_
  cases d1 with
  | @lst l vs _ s r =>
    have ev := Rps.ints r
    subst ev
    refine ⟨l, ns, rfl, .of (k1.fh _ _ s), hn, fun a c ha hcn => ?_⟩
    refine sorted_end (ns := ns) upd_same (by omega) (fun k => by simp) fun p hp => ?_
    exact q p _ F1 _ (k1.loose ha) f1 hp (Rps.of_ints _)
/-- a set's turns: what is known of its members -/
def SetAt (w : World) (Da : Addr) (zs : List Int) (o : HO) : Prop := ∃ S n, o = SetO w Da S n ∧ n ≤ zs.length ∧ ∀ k, S k = true ↔ k ∈ zs
/-- one clause's turns over a set of ints that is filled: W and its turns -/
theorem sc_loop {scope : Scope} {tg elt : Expr} {ifs : List Expr} {vs : List Nat} {F0 G : Hp} {Da : Addr} {J : It} {xs : List D} {ys zs : List Int} {F1 H1 : Hp} {σ : L2.St} {ρ ρ' : List Sl} {o0 : HO} {Qd : Hp → Prop} (yl : Yl X.K J F1 xs) (lc : LC X scope tg ifs elt vs xs ρ (ys.map .int) ρ') (k1 : Ok X.K (lessD F0 Da) (upd G Da o0) F1 H1 (wipe σ vs) ρ) (r0 : SetAt X.w Da zs o0) (hz : (zs ++ ys).length < 64)
    (fin : ∀ F H o, Ok X.K (lessD F0 Da) (upd G Da o) F H (wipe σ vs) ρ' → Same F1 F → SetAt X.w Da (zs ++ ys) o → Qd H) :
    ∃ W : Nat → Nat → Hp → Prop, (∃ m, W 0 m H1) ∧ ∀ i m H, W i m H →
      (J.stop i H ∧ Qd H) ∨ (J.go i H ∧ ∃ Nx : Hp → Prop, (∀ H', Nx H' → ∃ m', m' < m ∧ W (i + 1) m' H') ∧ ∀ x H', J.yld i H x H' → bG X scope tg x (wipe σ vs) H' fun σ2 H2 => wipe σ2 vs = wipe σ vs ∧ bTs X scope ifs σ2 H2 fun b H3 =>
        if b = true then bE X scope elt σ2 H3 fun y H4 => addS X.w Da y H4 Nx else Nx H3) := by
  refine ⟨fun i m H => m = xs.length - i ∧ i ≤ xs.length ∧ ∃ (F : Hp) (ρi : List Sl) (o : HO) (zs1 ys1 : List Int), Ok X.K (lessD F0 Da) (upd G Da o) F H (wipe σ vs) ρi ∧ Same F1 F ∧ SetAt X.w Da zs1 o ∧ LC X scope tg ifs elt vs (xs.drop i) ρi (ys1.map .int) ρ' ∧ zs1 ++ ys1 = zs ++ ys, ⟨_, rfl, Nat.zero_le _, F1, ρ, o0, zs, ys, k1, Same.refl _, r0, lc, rfl⟩, ?_⟩
  rintro i m H ⟨rfl, hle, F, ρi, o, zs1, ys1, k, f, r, lc, e⟩
  by_cases hlt : i < xs.length
  · rw [List.drop_eq_getElem_cons hlt] at lc
    have hx : xs[i]? = some xs[i] := List.getElem?_eq_getElem hlt
    refine .inr ⟨yl.go i H (f.trans k.fh) hlt, _, fun H' w => ⟨xs.length - (i + 1), by omega, w⟩, fun x H' hy => ?_⟩
    obtain ⟨F3, gr, r3⟩ := yl.yld i H x H' F f k.fh hy _ hx
    have k3 := k.gr gr
    generalize hys : ys1.map PyData.int = yd at lc
    cases lc with
    | @take _ y _ ydr ws _ ρ1 ρ2 ρ3 _ g1 sub t1 e1 l1 =>
      obtain ⟨z, yr, rfl, hzr, hyr⟩ : ∃ z yr, ys1 = z :: yr ∧ .int z = y ∧ yr.map PyData.int = ydr := by
        cases ys1 with
        | nil => cases hys
        | cons z yr =>
          simp only [List.map_cons, List.cons.injEq] at hys
          exact ⟨z, yr, rfl, hys.1, hys.2⟩
      subst hzr hyr
      intro s H0 C cl fp
      refine g1 s H0 C cl fp _ _ F3 H' (wipe σ vs) x k3 r3 _ fun σ4 k4 hl4 n4 => ?_
      have hw : wipe σ4 vs = wipe σ vs := by
        rw [wipe_ext (vs := vs) hl4 fun i hi => n4 i fun z => hi (sub i z)]
        exact wipe_wipe σ fun _ z => z
      refine ⟨hw, fun s H0 C cl fp => t1 s H0 C cl fp _ _ F3 H' σ4 k4 _ fun F5 H5 k5 f5 => ?_⟩
      rw [if_pos rfl]
      intro s H0 C cl fp
      refine e1 s H0 C cl fp _ _ F5 H5 σ4 k5 _ fun v F6 H6 k6 f6 r6 => ?_
      cases r6
      obtain ⟨S, n, rfl, hn, hS⟩ := r
      have hlen : zs1.length + (yr.length + 1) < 64 := by
        have := hz
        rw [← e, List.length_append, List.length_cons] at this
        exact this
      refine ⟨S, n, z, rfl, k6.atD.1, by unfold scanBound; omega, rfl, hlt, F6, _, SetO X.w Da (fun j => S j || decide (j = z)) (if S z = true then n else n + 1), zs1 ++ [z], yr, ?_, ((f.trans gr.f).trans f5).trans f6, ⟨_, _, rfl, ?_, fun j => ?_⟩, l1, ?_⟩
      · rw [← hw]
        exact k6.putD.wipe vs
      · rw [List.length_append, List.length_singleton]
        split <;> omega
      · rw [Bool.or_eq_true, hS, decide_eq_true_iff, List.mem_append, List.mem_singleton]
      · rw [List.append_assoc]; exact e
    | skip g1 sub t1 l1 =>
      subst hys
      intro s H0 C cl fp
      refine g1 s H0 C cl fp _ _ F3 H' (wipe σ vs) x k3 r3 _ fun σ4 k4 hl4 n4 => ?_
      have hw : wipe σ4 vs = wipe σ vs := by
        rw [wipe_ext (vs := vs) hl4 fun i hi => n4 i fun z => hi (sub i z)]
        exact wipe_wipe σ fun _ z => z
      refine ⟨hw, fun s H0 C cl fp => t1 s H0 C cl fp _ _ F3 H' σ4 k4 _ fun F5 H5 k5 f5 => ?_⟩
      rw [if_neg Bool.false_ne_true]
      refine ⟨rfl, hlt, F5, _, o, _, _, ?_, (f.trans gr.f).trans f5, r, l1, e⟩
      rw [← hw]
      exact k5.wipe vs
  · have hi : i = xs.length := by omega
    subst hi
    rw [List.drop_length] at lc
    have : ys1 = [] := by
      cases ys1 with
      | nil => rfl
      | cons z yr => cases lc
    subst this
    cases lc
    rw [List.append_nil] at e
    subst e
    exact .inl ⟨yl.stop H (f.trans k.fh), fin F H o k f r⟩
/-- two clauses: the first one's items, the slots, what all gives, the slots behind -/
inductive LC2 (X : Cx) (scope : Scope) (t0 : Expr) (fs0 : List Expr) (t1 i1 : Expr) (fs1 : List Expr) (elt : Expr) (vs vs1 : List Nat) : List D → List Sl → List D → List Sl → Prop
  | nil {ρ : List Sl} : LC2 X scope t0 fs0 t1 i1 fs1 elt vs vs1 [] ρ [] ρ
  | take {x : D} {xs xs1 ys ys' : List D} {ws : List Nat} {ρ ρ1 ρ2 ρ3 ρ4 ρ' : List Sl} : (∀ s H C cl fp, XG (bX X scope s H C cl fp) t0 ws x ρ ρ1) → (∀ i ∈ ws, i ∈ vs) → (∀ s H C cl fp, XTs (bX X scope s H C cl fp) fs0 ρ1 true ρ2) → (∀ s H C cl fp, XI (bX X scope s H C cl fp) t1 i1 ρ2 xs1 ρ3) →
      LC X scope t1 fs1 elt vs1 xs1 (wipeS ρ3 vs1) ys ρ4 → LC2 X scope t0 fs0 t1 i1 fs1 elt vs vs1 xs (wipeS ρ4 vs) ys' ρ' → LC2 X scope t0 fs0 t1 i1 fs1 elt vs vs1 (x :: xs) ρ (ys ++ ys') ρ'
  | skip {x : D} {xs ys : List D} {ws : List Nat} {ρ ρ1 ρ2 ρ' : List Sl} : (∀ s H C cl fp, XG (bX X scope s H C cl fp) t0 ws x ρ ρ1) → (∀ i ∈ ws, i ∈ vs) → (∀ s H C cl fp, XTs (bX X scope s H C cl fp) fs0 ρ1 false ρ2) → LC2 X scope t0 fs0 t1 i1 fs1 elt vs vs1 xs (wipeS ρ2 vs) ys ρ' → LC2 X scope t0 fs0 t1 i1 fs1 elt vs vs1 (x :: xs) ρ ys ρ'
theorem map_split {ys : List Int} {a b : List D} (h : ys.map PyData.int = a ++ b) : ∃ y1 y2, ys = y1 ++ y2 ∧ a = y1.map .int ∧ b = y2.map .int :=
  let ⟨y1, y2, e, e1, e2⟩ := List.map_eq_append_iff.mp h
  ⟨y1, y2, e, e1.symm, e2.symm⟩
/-- sorted({elt for t0 in i0 if .. for t1 in i1 if ..}) -/
theorem xo_sortsc2 {elt t0 i0 t1 i1 : Expr} {fs0 fs1 : List Expr} {scope : Scope} {own : List (Str × Nat)} {vs1 : List Nat} {nm1 : Str} {xs : List D} {ys : List Int} {ρ0 ρ' : List Sl} (hc : X.calm = true) (hN : X.N.Nodup) (hi : XI X t0 i0 ρ xs ρ0) (ok : BlkOk X.N X.env.scope scope own) (hv : ∀ i ∈ vs1, i ∈ own.map (·.2))
    (lc : LC2 X scope t0 fs0 t1 i1 fs1 elt (own.map (·.2)) vs1 xs (wipeS ρ0 (own.map (·.2))) (ys.map .int) ρ') (hz : ys.length < 64) (hg : Gl X nm1) (hm : X.mg nm1 = none) (hvb : bootBuiltins nm1 = some (.builtin "sorted")) (e1 : nm1 = "sorted" := by rfl)
    (hs : ∀ x, foldedSetIterable i0 X.env x = pure x := by intro _; rfl) (hs1 : ∀ env x, foldedSetIterable i1 env x = pure x := by intro _ _; rfl)
    (q3 : starEach [sc2 elt t0 i0 t1 i1 fs0 fs1 scope pp] X.env = (false, eval (sc2 elt t0 i0 t1 i1 fs0 fs1 scope pp) X.env) :: starEach [] X.env := by rfl) (q4 : ((backTo pos (starEach [] X.env)).any fun x => x.fst) = false := by rfl) :
    XO X (.Call (.Name nm1 p1) [sc2 elt t0 i0 t1 i1 fs0 fs1 scope pp] [] pos) ρ ((setI ys).map .int) (backS ρ0 ρ' (own.map (·.2))) := by
  subst e1
  have h := pe_sc2 (elt := elt) (t0 := t0) (i0 := i0) (t1 := t1) (i1 := i1) (fs0 := fs0) (fs1 := fs1) (pos := pp) (g := bG X scope t0) (tt := bTs X scope fs0) (wi1 := bI X scope t1 i1) (g1 := bG X scope t1) (tt1 := bTs X scope fs1) (te := bE X scope elt) hc hN (pcI t0 i0) ok hv
    (fun s H C cl fp => ⟨fun pins s' σ H' v u Q I r h => h s H C cl fp pins s' u I r⟩) (fun s H C cl fp => ⟨fun pins s' σ H' Q I h => h s H C cl fp pins s' I⟩) (fun s H C cl fp => ⟨fun pins s' σ H' R I h => h s H C cl fp pins s' I⟩)
    (fun s H C cl fp => ⟨fun pins s' σ H' v u Q I r h => h s H C cl fp pins s' u I r⟩) (fun s H C cl fp => ⟨fun pins s' σ H' Q I h => h s H C cl fp pins s' I⟩) (fun s H C cl fp => ⟨fun pins s' σ H' Q I h => h s H C cl fp pins s' I⟩) hs hs1
  intro F0 G F H σ k Q q pins s I
  refine (pe_callB (cr_sortedSet hc) hg hm hvb (pa_cons h pa_nil q3) (by decide) (by decide) q3 q4).run pins s σ H Q I (hi F0 G F H σ k _ fun J F1 H1 k1 f1 yl Da hD => ?_)
  obtain ⟨k2, gD⟩ := k1.begin (o := SetO X.w Da (fun _ => false) 0) hD
  have ln : (ρ0.length) = σ.length := k1.len.symm
  generalize hvs : own.map (·.2) = vs at *
  refine ⟨fun i m H => m = xs.length - i ∧ i ≤ xs.length ∧ ∃ (F : Hp) (ρi : List Sl) (o : HO) (zs1 ys1 : List Int), Ok X.K (lessD F0 Da) (upd G Da o) F H (wipe σ vs) ρi ∧ Same F1 F ∧ SetAt X.w Da zs1 o ∧ LC2 X scope t0 fs0 t1 i1 fs1 elt vs vs1 (xs.drop i) ρi (ys1.map .int) ρ' ∧ zs1 ++ ys1 = ys, ⟨_, rfl, Nat.zero_le _, F1, _, _, [], ys, k2.wipe vs, Same.refl _, ⟨_, _, rfl, Nat.le_refl _, fun k => by simp⟩, lc, rfl⟩, ?_⟩
  rintro i m H2 ⟨rfl, hle, F2, ρi, o, zs1, ys1, k3, f3, r, lc, e⟩
  by_cases hlt : i < xs.length
  · rw [List.drop_eq_getElem_cons hlt] at lc
    have hx : xs[i]? = some xs[i] := List.getElem?_eq_getElem hlt
    refine .inr ⟨yl.go i H2 (f3.trans k3.fh) hlt, _, fun H' w => ⟨xs.length - (i + 1), by omega, w⟩, fun x H' hy => ?_⟩
    obtain ⟨F4, gr, r4⟩ := yl.yld i H2 x H' F2 f3 k3.fh hy _ hx
    have k4 := k3.gr gr
    generalize hys : ys1.map PyData.int = yd at lc
    cases lc with
    | @take _ _ xs1 ya yb ws _ ρ1 ρ2 ρ3 ρ4 _ g1 sub ts1 ii l1 l2 =>
      obtain ⟨y1, y2, e2, rfl, rfl⟩ := map_split hys
      intro s H0 C cl fp
      refine g1 s H0 C cl fp _ _ F4 H' (wipe σ vs) x k4 r4 _ fun σ5 k5 hl5 n5 => ?_
      have hw : wipe σ5 vs = wipe σ vs := by
        rw [wipe_ext (vs := vs) hl5 fun i hi => n5 i fun z => hi (sub i z)]
        exact wipe_wipe σ fun _ z => z
      refine ⟨hw, fun s H0 C cl fp => ts1 s H0 C cl fp _ _ F4 H' σ5 k5 _ fun F6 H6 k6 f6 => ?_⟩
      rw [if_pos rfl]
      intro s H0 C cl fp
      refine ii s H0 C cl fp _ _ F6 H6 σ5 k6 _ fun J1 F7 H7 k7 f7 yl1 => ?_
      refine sc_loop (ys := y1) (zs := zs1) yl1 l1 (k7.wipe vs1) r ?_ fun F8 H8 o8 k8 f8 r8 => ⟨rfl, hlt, F8, _, o8, zs1 ++ y1, y2, ?_, (((f3.trans gr.f).trans f6).trans f7).trans f8, r8, l2, by rw [List.append_assoc, ← e2]; exact e⟩
      · have : (zs1 ++ y1).length ≤ ys.length := by rw [← e, e2]; simp only [List.length_append]; omega
        omega
      · have := k8.wipe vs
        rw [wipe_wipe σ5 hv, hw] at this
        exact this
    | skip g1 sub ts1 l1 =>
      subst hys
      intro s H0 C cl fp
      refine g1 s H0 C cl fp _ _ F4 H' (wipe σ vs) x k4 r4 _ fun σ5 k5 hl5 n5 => ?_
      have hw : wipe σ5 vs = wipe σ vs := by
        rw [wipe_ext (vs := vs) hl5 fun i hi => n5 i fun z => hi (sub i z)]
        exact wipe_wipe σ fun _ z => z
      refine ⟨hw, fun s H0 C cl fp => ts1 s H0 C cl fp _ _ F4 H' σ5 k5 _ fun F6 H6 k6 f6 => ?_⟩
      rw [if_neg Bool.false_ne_true]
      refine ⟨rfl, hlt, F6, _, o, zs1, ys1, ?_, (f3.trans gr.f).trans f6, r, l1, e⟩
      rw [← hw]
      exact k6.wipe vs
  · have hi' : i = xs.length := by omega
    subst hi'
    rw [List.drop_length] at lc
    generalize hys : ys1.map PyData.int = yd at lc
    cases lc
    have : ys1 = [] := by
      cases ys1 with
      | nil => rfl
      | cons z yr => cases hys
    subst this
    rw [List.append_nil] at e
    subst e
    refine .inl ⟨yl.stop H2 (f3.trans k3.fh), ?_⟩
    obtain ⟨S, n, rfl, hn, hS⟩ := r
    obtain ⟨h1, h2⟩ := k3.atD
    obtain ⟨k5, ap⟩ := k3.endD gD
    refine sorted_end h1 (by omega) hS fun p hp => ?_
    have k6 := k1.back f3 k5
    refine q p _ F2 _ (k6.loose hp) (f1.trans f3) upd_same ?_ ?_ (fun i s ys e o z => ?_) (Rps.of_ints _)
    · cases e : F2 p with
      | none => rfl
      | some u => rw [k6.fh p u e] at hp; cases hp
    · cases e : G p with
      | none => rfl
      | some u => rw [k6.gh p u e] at hp; cases hp
    · obtain ⟨a, ws, q1, q2, _⟩ := k6.has i s ys e o
      rw [q1] at z
      cases z
      rw [hp] at q2
      cases q2
end
end DL
set_option Elab.async false
set_option linter.all false
set_option maxRecDepth 100000
set_option maxHeartbeats 4000000
namespace DL
open PySem PySem.Spec PyProof.Rows L2
section
variable {X : Cx} {e : Expr} {ρ ρ1 : List Sl} {pos p1 p2 pp : Pos}
/-- name = [elt for tg in iter if ..] on one line, the list one's own -/
theorem xs_setLc (n : Nat) {nm : Str} {py spos : Pos} {tg elt iter : Expr} {ifs : List Expr} {scope : Scope} {own : List (Str × Nat)} {ρ0 ρ' : List Sl} {xs ys : List D} (hc : X.calm = true) (hN : X.N.Nodup) (hi : XI X tg iter ρ xs ρ0) (ok : BlkOk X.N X.env.scope scope own) (lc : LC X scope tg ifs elt (own.map (·.2)) xs (wipeS ρ0 (own.map (·.2))) ys ρ') (hz : ys.length < 1000000)
    (hy : X.N[n]? = some nm := by rfl) (hyl : X.env.scope.names.lookup nm = some .local := by rfl) (hsw : swapsWith (.ListComp elt [⟨tg, iter, ifs, 0⟩] scope pos) (some (.Name nm py)) spos.line X.env = pure true := by exact sw_true rfl rfl rfl (by decide +kernel))
    (hs : ∀ x, foldedSetIterable iter X.env x = pure x := by intro _; rfl) : XS X (.Assign [.Name nm py] (.ListComp elt [⟨tg, iter, ifs, 0⟩] scope pos) spos) ρ (.nx ((backS ρ0 ρ' (own.map (·.2))).set n (.o ys))) := by
  have h := ps_setLc (elt := elt) (tg := tg) (iter := iter) (ifs := ifs) (pos := pos) (spos := spos) (py := py) (g := bG X scope tg) (tt := bTs X scope ifs) (te := bE X scope elt) hc hN hy hyl hsw (pcI tg iter) ok
    (fun s H C cl fp => ⟨fun pins s' σ H' v u Q I r h => h s H C cl fp pins s' u I r⟩) (fun s H C cl fp => ⟨fun pins s' σ H' Q I h => h s H C cl fp pins s' I⟩) (fun s H C cl fp => ⟨fun pins s' σ H' Q I h => h s H C cl fp pins s' I⟩) hs
  intro F0 G F H σ k Dn q pins s I
  refine h.run pins s σ H Dn I (hi F0 G F H σ k _ fun J F1 H1 k1 f1 yl Da hD => ?_)
  obtain ⟨k2, gD⟩ := k1.begin (o := .lst []) hD
  refine lc_loop (zs := []) yl lc (k2.wipe _) .nil (by simpa using hz) fun F2 H2 acc k3 f3 r3 => ?_
  obtain ⟨h1, h2⟩ := k3.atD
  obtain ⟨k4, ap⟩ := k3.endD gD
  refine q _ F2 H2 ((k1.back f3 k4).setO h1 h2 gD (fun i s ys e o => ?_) r3) (f1.trans f3)
  by_cases hi : i ∈ own.map (·.2)
  · have hlt : i < ρ'.length := by
      have := (List.getElem?_eq_some_iff.mp e).1
      rwa [backS_len] at this
    rw [backS_at hi hlt] at e
    cases e
    exfalso
    cases qq : ρ0[i]? with
    | none => rw [qq] at o; cases o
    | some s => rw [qq] at o; cases s <;> cases o
  · rw [backS_out hi] at e
    have := ap i s ys e o
    rw [wipe_out hi] at this
    exact this
/-- [elt for t0 in i0 if .. for t1 in i1 if ..] -/
theorem xo_lc2 {elt t0 i0 t1 i1 : Expr} {fs0 fs1 : List Expr} {scope : Scope} {own : List (Str × Nat)} {vs1 : List Nat} {xs ys : List D} {ρ0 ρ' : List Sl} (hc : X.calm = true) (hN : X.N.Nodup) (hi : XI X t0 i0 ρ xs ρ0) (ok : BlkOk X.N X.env.scope scope own) (hv : ∀ i ∈ vs1, i ∈ own.map (·.2))
    (lc : LC2 X scope t0 fs0 t1 i1 fs1 elt (own.map (·.2)) vs1 xs (wipeS ρ0 (own.map (·.2))) ys ρ') (hz : ys.length < 1000000) (hs : ∀ x, foldedSetIterable i0 X.env x = pure x := by intro _; rfl) (hs1 : ∀ env x, foldedSetIterable i1 env x = pure x := by intro _ _; rfl) :
    XO X (.ListComp elt [⟨t0, i0, fs0, 0⟩, ⟨t1, i1, fs1, 0⟩] scope pos) ρ ys (backS ρ0 ρ' (own.map (·.2))) := by
  have h := pe_lc2 (elt := elt) (tg := t0) (iter := i0) (tg1 := t1) (iter1 := i1) (ifs := fs0) (ifs1 := fs1) (pos := pos) (g := bG X scope t0) (tt := bTs X scope fs0) (wi1 := bI X scope t1 i1) (g1 := bG X scope t1) (tt1 := bTs X scope fs1) (te := bE X scope elt) hc hN (pcI t0 i0) ok hv
    (fun s H C cl fp => ⟨fun pins s' σ H' v u Q I r h => h s H C cl fp pins s' u I r⟩) (fun s H C cl fp => ⟨fun pins s' σ H' Q I h => h s H C cl fp pins s' I⟩) (fun s H C cl fp => ⟨fun pins s' σ H' R I h => h s H C cl fp pins s' I⟩)
    (fun s H C cl fp => ⟨fun pins s' σ H' v u Q I r h => h s H C cl fp pins s' u I r⟩) (fun s H C cl fp => ⟨fun pins s' σ H' Q I h => h s H C cl fp pins s' I⟩) (fun s H C cl fp => ⟨fun pins s' σ H' Q I h => h s H C cl fp pins s' I⟩) hs hs1
  intro F0 G F H σ k Q q pins s I
  refine h.run pins s σ H Q I (hi F0 G F H σ k _ fun J F1 H1 k1 f1 yl Da hD => ?_)
  obtain ⟨k2, gD⟩ := k1.begin (o := .lst []) hD
  generalize hvs : own.map (·.2) = vs at *
  refine ⟨fun i m H => m = xs.length - i ∧ i ≤ xs.length ∧ ∃ (F : Hp) (ρi : List Sl) (acc : List V) (zs1 ys1 : List D), Ok X.K (lessD F0 Da) (upd G Da (.lst acc)) F H (wipe σ vs) ρi ∧ Same F1 F ∧ Rps X.K F acc zs1 ∧ LC2 X scope t0 fs0 t1 i1 fs1 elt vs vs1 (xs.drop i) ρi ys1 ρ' ∧ zs1 ++ ys1 = ys, ⟨_, rfl, Nat.zero_le _, F1, _, [], [], ys, k2.wipe vs, Same.refl _, .nil, lc, rfl⟩, ?_⟩
  rintro i m H2 ⟨rfl, hle, F2, ρi, acc, zs1, ys1, k3, f3, r, lc, e⟩
  by_cases hlt : i < xs.length
  · rw [List.drop_eq_getElem_cons hlt] at lc
    have hx : xs[i]? = some xs[i] := List.getElem?_eq_getElem hlt
    refine .inr ⟨yl.go i H2 (f3.trans k3.fh) hlt, _, fun H' w => ⟨xs.length - (i + 1), by omega, w⟩, fun x H' hy => ?_⟩
    obtain ⟨F4, gr, r4⟩ := yl.yld i H2 x H' F2 f3 k3.fh hy _ hx
    have k4 := k3.gr gr
    cases lc with
    | @take _ _ xs1 y1 y2 ws _ ρ1 ρ2 ρ3 ρ4 _ g1 sub ts1 ii l1 l2 =>
      intro s H0 C cl fp
      refine g1 s H0 C cl fp _ _ F4 H' (wipe σ vs) x k4 r4 _ fun σ5 k5 hl5 n5 => ?_
      have hw : wipe σ5 vs = wipe σ vs := by
        rw [wipe_ext (vs := vs) hl5 fun i hi => n5 i fun z => hi (sub i z)]
        exact wipe_wipe σ fun _ z => z
      refine ⟨hw, fun s H0 C cl fp => ts1 s H0 C cl fp _ _ F4 H' σ5 k5 _ fun F6 H6 k6 f6 => ?_⟩
      rw [if_pos rfl]
      intro s H0 C cl fp
      refine ii s H0 C cl fp _ _ F6 H6 σ5 k6 _ fun J1 F7 H7 k7 f7 yl1 => ?_
      refine lc_loop (ys := y1) (zs := zs1) yl1 l1 (k7.wipe vs1) (rps_mono ((gr.f.trans f6).trans f7) _ _ r) ?_ fun F8 H8 o8 k8 f8 r8 => ⟨rfl, hlt, F8, _, o8, zs1 ++ y1, y2, ?_, (((f3.trans gr.f).trans f6).trans f7).trans f8, r8, l2, by rw [List.append_assoc]; exact e⟩
      · have : (zs1 ++ y1).length ≤ ys.length := by rw [← e]; simp only [List.length_append]; omega
        omega
      · have := k8.wipe vs
        rw [wipe_wipe σ5 hv, hw] at this
        exact this
    | skip g1 sub ts1 l1 =>
      intro s H0 C cl fp
      refine g1 s H0 C cl fp _ _ F4 H' (wipe σ vs) x k4 r4 _ fun σ5 k5 hl5 n5 => ?_
      have hw : wipe σ5 vs = wipe σ vs := by
        rw [wipe_ext (vs := vs) hl5 fun i hi => n5 i fun z => hi (sub i z)]
        exact wipe_wipe σ fun _ z => z
      refine ⟨hw, fun s H0 C cl fp => ts1 s H0 C cl fp _ _ F4 H' σ5 k5 _ fun F6 H6 k6 f6 => ?_⟩
      rw [if_neg Bool.false_ne_true]
      refine ⟨rfl, hlt, F6, _, acc, zs1, ys1, ?_, (f3.trans gr.f).trans f6, rps_mono (gr.f.trans f6) _ _ r, l1, e⟩
      rw [← hw]
      exact k6.wipe vs
  · have hi' : i = xs.length := by omega
    subst hi'
    rw [List.drop_length] at lc
    cases lc
    rw [List.append_nil] at e
    subst e
    refine .inl ⟨yl.stop H2 (f3.trans k3.fh), ?_⟩
    obtain ⟨h1, h2⟩ := k3.atD
    obtain ⟨k5, ap⟩ := k3.endD gD
    refine q Da acc F2 H2 (k1.back f3 k5) (f1.trans f3) h1 h2 gD (fun i s ys e o => ?_) r
    by_cases hi : i ∈ vs
    · have hlt : i < ρ'.length := by
        have := (List.getElem?_eq_some_iff.mp e).1
        rwa [backS_len] at this
      rw [backS_at hi hlt] at e
      cases e
      exfalso
      cases qq : ρ0[i]? with
      | none => rw [qq] at o; cases o
      | some s => rw [qq] at o; cases s <;> cases o
    · rw [backS_out hi] at e
      have := ap i s ys e o
      rw [wipe_out hi] at this
      exact this
end
end DL
set_option Elab.async false
set_option linter.all false
set_option maxRecDepth 100000
set_option maxHeartbeats 4000000
namespace DL
open PySem PySem.Spec PyProof.Rows L2
section
variable {P : Program} {w : World} {A : Around} {E : Value → Shared → Prop} {s : Shared}
/-- sorted(t) of a tuple of ints -/
theorem sorted_tup {t : Addr} {items : Array Value} {ns : List Int} {Q : Value → Shared → Prop} (ht : IsTup s.heap t items) (hi : IntsAre items.toList ns) (hz : items.size ≤ sizeLine)
    (h : ∀ (h1 h' : Heap) (p : Addr) (out : List Value) (c : Nat) (ms : List Int), (∀ b o, s.heap.get? b = some o → h1.get? b = some o) → (∀ b o, h1.get? b = some o → h'.get? b = some o) → h1.objs.size ≤ p → h'.get? p = some (seqObj "list" out.toArray c) → IntsAre out ms → ms.Perm ns → ms.Pairwise (· ≤ ·) → Q (.ref p) { s with heap := h' }) :
    wpAny (model P w) A (call (.builtin "sorted") [.ref t]) Q E s := by
  obtain ⟨o, ho, hc, n, hd⟩ := id ht
  refine Calls.call_function_entry kind_sorted plain_sorted entry_sorted (args_sorted1 _) ?_
  unfold Builtin.«sorted»
  refine wpAny_bind (m := checkCount "sorted" 1 1 _) (wpAny_pure ?_)
  refine wpAny_bind (wpAny_collect_seq (T := "tuple") t (.inr rfl) ho hc hd (fun h1 k1 => ?_) hz)
  refine wpAny_bind (wpAny_newList ?_ (by rw [Array.length_toList]; exact hz))
  have e1 : (h1.push (seqObj "list" items.toList.toArray 0)).get? h1.objs.size = some (seqObj "list" items.toList.toArray 0) := Heap.get?_push_size _ rfl
  refine wpAny_bind (wpAny_holding (wpAny_call_entry slot_list_sort ⟨_, e1, rfl⟩ entry_list_sort (SrtO.list_sort_ord SrtO.swo_int e1 (by rw [Array.length_toList]; exact hz) (fun h2 => SrtO.ints_sortable hi h2) fun out g1 g2 => ⟨_, rfl, ?_⟩) (args_list_sort _)))
  obtain ⟨q1, q2, q3⟩ := SrtO.ints_out hi g1 g2
  obtain ⟨c, hc'⟩ := sortedHeap_at (vs := items.toList) (out := out.toArray) e1
  refine wpAny_pure ⟨_, rfl, h h1 _ h1.objs.size out c (out.map SrtO.iv) k1 (fun b u e2 => ?_) (Nat.le_refl _) hc' q1 q2 q3⟩
  have hlt := Heap.lt_size e2
  show (sortedHeap (h1.push (seqObj "list" items.toList.toArray 0)) h1.objs.size items.toList out.toArray).get? b = some u
  rw [sortedHeap_old (Nat.ne_of_lt hlt) (by rw [size_push']; exact Nat.lt_succ_of_lt hlt)]
  exact Heap.get?_push_of_some _ e2
end
section
variable {X : Cx}
def rSortedTu (K : PySem.W.Frag) : List V → Hp → VK → Prop := fun vs H Q => ∃ (a : Addr) (ns : List Int), vs = [V.ref a] ∧ SqT K H a (ns.map V.int) ∧
  ∀ (ms : List Int) (p : Addr), ms.Perm ns → ms.Pairwise (· ≤ ·) → H p = none → Q (.ref p) (upd H p (.lst (ms.map V.int)))
theorem cr_sortedTu : CallR X (.builtin "sorted") (rSortedTu X.K) := by
  intro pins s σ H vs us Q I r h
  obtain ⟨a, ns, rfl, hs, q⟩ := h
  obtain ⟨its, rv, ht, hz⟩ := I.tuple hs
  rw [Vals.ref1 r]
  refine sorted_tup (ns := ns) ht (by simpa using rv.ints) (by rw [List.size_toArray, ← rv.length]; exact hz) fun h1 h' p out c ms k1 k hp hg hi pm so => ?_
  have hlen : (ms.map V.int).length ≤ sizeLine := by
    rw [List.length_map, pm.length_eq]
    rw [List.length_map] at hz
    exact hz
  have I1 : Inv X pins σ H { s with heap := h1 } := I.kept (t' := s.toks) k1
  exact ⟨.ref p, upd H p (.lst (ms.map V.int)), I1.laid (t' := s.toks) k hp ⟨hlen, out, c, vals_of_ints hi, hg⟩, rfl, q ms p pm so (I1.hok.fresh hp)⟩
theorem cro_sortedT {ns : List Int} : CRO X (.builtin "sorted") [.tuple (ns.map .int)] ((sortI ns).map .int) := ⟨_, cr_sortedTu, fun F H vs Q fh h q => by
  obtain ⟨v, rfl, h1⟩ := rps1 h
  cases h1 with
  | tup s r =>
    have e := Rps.ints r
    subst e
    refine ⟨_, ns, rfl, sqT_mono fh s, fun ms p pm so hp => ?_⟩
    have e : ms = sortI ns := sorted_one (pm.trans (sortI_perm ns).symm) so (sortI_sorted ns)
    subst e
    exact q p _ F H (.refl fh) hp (Rps.of_ints _)⟩
end
end DL
set_option Elab.async false
set_option linter.all false
set_option maxRecDepth 100000
set_option maxHeartbeats 4000000
namespace DL
open PySem PySem.Spec PyProof.Rows L2
/-! what the built-in names hold -/
theorem b_len : bootBuiltins "len" = some (.builtin "len") := by decide +kernel
theorem b_sorted : bootBuiltins "sorted" = some (.builtin "sorted") := by decide +kernel
theorem b_all : bootBuiltins "all" = some (.builtin "all") := by decide +kernel
theorem b_any : bootBuiltins "any" = some (.builtin "any") := by decide +kernel
theorem b_min : bootBuiltins "min" = some (.builtin "min") := by decide +kernel
theorem b_max : bootBuiltins "max" = some (.builtin "max") := by decide +kernel
theorem b_sum : bootBuiltins "sum" = some (.builtin "sum") := by decide +kernel
theorem b_isinstance : bootBuiltins "isinstance" = some (.builtin "isinstance") := by decide +kernel
theorem b_abs : bootBuiltins "abs" = some (.builtin "abs") := by decide +kernel
theorem b_set : bootBuiltins "set" = some (.type "set") := by decide +kernel
theorem b_list : bootBuiltins "list" = some (.type "list") := by decide +kernel
theorem b_tuple : bootBuiltins "tuple" = some (.type "tuple") := by decide +kernel
theorem b_int : bootBuiltins "int" = some (.type "int") := by decide +kernel
theorem b_range : bootBuiltins "range" = some (.type "range") := by decide +kernel
theorem b_enumerate : bootBuiltins "enumerate" = some (.type "enumerate") := by decide +kernel
theorem b_zip : bootBuiltins "zip" = some (.type "zip") := by decide +kernel
theorem b_dict : bootBuiltins "dict" = some (.type "dict") := by decide +kernel
theorem b_str : bootBuiltins "str" = some (.type "str") := by decide +kernel
theorem b_bool : bootBuiltins "bool" = some (.type "bool") := by decide +kernel
theorem b_reversed : bootBuiltins "reversed" = some (.type "reversed") := by decide +kernel
section
variable {X : Cx} {scope : Scope} {tg elt iter : Expr} {ifs : List Expr} {vs ws : List Nat} {ρ : List Sl}
/-- a clause that changes nothing but its own names -/
theorem lc_pure {α : Type} {enc : α → D} {p : α → Bool} {f : α → D} {g : α → List Sl} (sub : ∀ i ∈ ws, i ∈ vs) : ∀ (as : List α),
    (∀ a ∈ as, ∀ s H C cl fp, XG (bX X scope s H C cl fp) tg ws (enc a) ρ (g a) ∧ XTs (bX X scope s H C cl fp) ifs (g a) (p a) (g a) ∧ (p a = true → XE (bX X scope s H C cl fp) elt (g a) (f a) (g a))) → (∀ a ∈ as, wipeS (g a) vs = ρ) →
    LC X scope tg ifs elt vs (as.map enc) ρ ((as.filter p).map f) ρ
  | [], _, _ => .nil
  | a :: as, h, hw => by
    have h1 := h a List.mem_cons_self
    have ih := lc_pure sub as (fun b hb => h b (List.mem_cons_of_mem _ hb)) fun b hb => hw b (List.mem_cons_of_mem _ hb)
    have e := hw a List.mem_cons_self
    cases hp : p a with
    | true =>
      rw [List.filter_cons_of_pos hp, List.map_cons, List.map_cons]
      refine .take (fun s H C cl fp => (h1 s H C cl fp).1) sub (fun s H C cl fp => ?_) (fun s H C cl fp => (h1 s H C cl fp).2.2 hp) ?_
      · have := (h1 s H C cl fp).2.1
        rw [hp] at this
        exact this
      · rw [e]; exact ih
    | false =>
      rw [List.filter_cons_of_neg (by rw [hp]; exact Bool.false_ne_true), List.map_cons]
      refine .skip (ρ2 := g a) (fun s H C cl fp => (h1 s H C cl fp).1) sub (fun s H C cl fp => ?_) ?_
      · have := (h1 s H C cl fp).2.1
        rw [hp] at this
        exact this
      · rw [e]; exact ih
/-- .. without tests -/
theorem lc_map {α : Type} {enc : α → D} {f : α → D} {g : α → List Sl} (sub : ∀ i ∈ ws, i ∈ vs) (as : List α)
    (h : ∀ a ∈ as, ∀ s H C cl fp, XG (bX X scope s H C cl fp) tg ws (enc a) ρ (g a) ∧ XE (bX X scope s H C cl fp) elt (g a) (f a) (g a)) (hw : ∀ a ∈ as, wipeS (g a) vs = ρ) :
    LC X scope tg [] elt vs (as.map enc) ρ (as.map f) ρ := by
  have := lc_pure (X := X) (scope := scope) (tg := tg) (elt := elt) (ifs := []) (p := fun _ => true) (f := f) sub as (fun a ha s H C cl fp => ⟨(h a ha s H C cl fp).1, xts_nil, fun _ => (h a ha s H C cl fp).2⟩) hw
  rw [List.filter_eq_self.mpr fun _ _ => rfl] at this
  exact this
/-- two clauses -/
theorem lc2_pure {α : Type} {enc : α → D} {t1 i1 : Expr} {fs1 : List Expr} {vs1 : List Nat} {g : α → List Sl} {its ys : α → List D} {ρ4 : α → List Sl} (sub : ∀ i ∈ ws, i ∈ vs) : ∀ (as : List α),
    (∀ a ∈ as, ∀ s H C cl fp, XG (bX X scope s H C cl fp) tg ws (enc a) ρ (g a) ∧ XI (bX X scope s H C cl fp) t1 i1 (g a) (its a) (g a)) → (∀ a ∈ as, LC X scope t1 fs1 elt vs1 (its a) (wipeS (g a) vs1) (ys a) (ρ4 a)) → (∀ a ∈ as, wipeS (ρ4 a) vs = ρ) →
    LC2 X scope tg [] t1 i1 fs1 elt vs vs1 (as.map enc) ρ (as.flatMap ys) ρ
  | [], _, _, _ => .nil
  | a :: as, h, hl, hw => by
    have h1 := h a List.mem_cons_self
    have ih := lc2_pure sub as (fun b hb => h b (List.mem_cons_of_mem _ hb)) (fun b hb => hl b (List.mem_cons_of_mem _ hb)) fun b hb => hw b (List.mem_cons_of_mem _ hb)
    have e := hw a List.mem_cons_self
    rw [List.flatMap_cons, List.map_cons]
    refine .take (fun s H C cl fp => (h1 s H C cl fp).1) sub (fun s H C cl fp => xts_nil) (fun s H C cl fp => (h1 s H C cl fp).2) (hl a List.mem_cons_self) ?_
    rw [e]
    exact ih
/-- a for whose turns carry a state -/
theorem lr_fold {α β : Type} {enc : α → D} {body : List Stmt} {sl : β → List Sl} {step : β → α → β} {P : β → Prop} : ∀ (as : List α) (b : β), P b → (∀ a ∈ as, ∀ b, P b → P (step b a) ∧ ∃ vs ρ1, XG X tg vs (enc a) (sl b) ρ1 ∧ XSs X body ρ1 (.nx (sl (step b a)))) →
    LR X tg body (as.map enc) (sl b) (.nx (sl (as.foldl step b)))
  | [], _, _, _ => .nil
  | a :: as, b, hb, h => by
    obtain ⟨h1, vs, ρ1, h2, h3⟩ := h a List.mem_cons_self b hb
    exact .next h2 h3 (lr_fold as _ h1 fun c hc => h c (List.mem_cons_of_mem _ hc))
end
section
variable {X : Cx} {a b c e : Expr} {ρ : List Sl} {x z : D} {pos : Pos} {rest : List Expr}
/-! nothing changed on the way -/
theorem xo_lcp {tg elt iter : Expr} {ifs : List Expr} {scope : Scope} {own : List (Str × Nat)} {xs ys : List D} (hc : X.calm = true) (hN : X.N.Nodup) (ok : BlkOk X.N X.env.scope scope own) (hi : XI X tg iter ρ xs ρ) (lc : LC X scope tg ifs elt (own.map (·.2)) xs (wipeS ρ (own.map (·.2))) ys (wipeS ρ (own.map (·.2)))) (hz : ys.length < 1000000) (hb : backS ρ (wipeS ρ (own.map (·.2))) (own.map (·.2)) = ρ := by rfl)
    (hs : ∀ x, foldedSetIterable iter X.env x = pure x := by intro _; rfl) : XO X (.ListComp elt [⟨tg, iter, ifs, 0⟩] scope pos) ρ ys ρ := by
  have h := xo_lc (pos := pos) hc hN hi ok lc hz hs
  rw [hb] at h
  exact h
theorem xo_lc2p {elt t0 i0 t1 i1 : Expr} {fs0 fs1 : List Expr} {scope : Scope} {own : List (Str × Nat)} {vs1 : List Nat} {xs ys : List D} (hc : X.calm = true) (hN : X.N.Nodup) (ok : BlkOk X.N X.env.scope scope own) (hv : ∀ i ∈ vs1, i ∈ own.map (·.2)) (hi : XI X t0 i0 ρ xs ρ)
    (lc : LC2 X scope t0 fs0 t1 i1 fs1 elt (own.map (·.2)) vs1 xs (wipeS ρ (own.map (·.2))) ys (wipeS ρ (own.map (·.2)))) (hz : ys.length < 1000000) (hb : backS ρ (wipeS ρ (own.map (·.2))) (own.map (·.2)) = ρ := by rfl) (hs : ∀ x, foldedSetIterable i0 X.env x = pure x := by intro _; rfl) (hs1 : ∀ env x, foldedSetIterable i1 env x = pure x := by intro _ _; rfl) :
    XO X (.ListComp elt [⟨t0, i0, fs0, 0⟩, ⟨t1, i1, fs1, 0⟩] scope pos) ρ ys ρ := by
  have h := xo_lc2 (pos := pos) hc hN hi ok hv lc hz hs hs1
  rw [hb] at h
  exact h
theorem xo_sortsc2p {elt t0 i0 t1 i1 : Expr} {fs0 fs1 : List Expr} {scope : Scope} {own : List (Str × Nat)} {vs1 : List Nat} {nm1 : Str} {xs : List D} {ys : List Int} {p1 pp : Pos} (hc : X.calm = true) (hN : X.N.Nodup) (ok : BlkOk X.N X.env.scope scope own) (hv : ∀ i ∈ vs1, i ∈ own.map (·.2)) (hi : XI X t0 i0 ρ xs ρ)
    (lc : LC2 X scope t0 fs0 t1 i1 fs1 elt (own.map (·.2)) vs1 xs (wipeS ρ (own.map (·.2))) (ys.map .int) (wipeS ρ (own.map (·.2)))) (hz : ys.length < 64) (hg : Gl X nm1) (hm : X.mg nm1 = none) (hvb : bootBuiltins nm1 = some (.builtin "sorted")) (hb : backS ρ (wipeS ρ (own.map (·.2))) (own.map (·.2)) = ρ := by rfl) (e1 : nm1 = "sorted" := by rfl)
    (hs : ∀ x, foldedSetIterable i0 X.env x = pure x := by intro _; rfl) (hs1 : ∀ env x, foldedSetIterable i1 env x = pure x := by intro _ _; rfl)
    (q3 : starEach [sc2 elt t0 i0 t1 i1 fs0 fs1 scope pp] X.env = (false, eval (sc2 elt t0 i0 t1 i1 fs0 fs1 scope pp) X.env) :: starEach [] X.env := by rfl) (q4 : ((backTo pos (starEach [] X.env)).any fun x => x.fst) = false := by rfl) :
    XO X (.Call (.Name nm1 p1) [sc2 elt t0 i0 t1 i1 fs0 fs1 scope pp] [] pos) ρ ((setI ys).map .int) ρ := by
  have h := xo_sortsc2 (pos := pos) (p1 := p1) hc hN hi ok hv lc hz hg hm hvb e1 hs hs1 q3 q4
  rw [hb] at h
  exact h

theorem xe_ifp {bb : Bool} (hc : XT X c ρ bb ρ) (h1 : bb = true → XE X a ρ z ρ) (h2 : bb = false → XE X b ρ z ρ) : XE X (.IfExp c a b pos) ρ z ρ := xe_if hc h1 h2
theorem xt_andp {b1 b2 : Bool} (h1 : XT X a ρ b1 ρ) (h2 : b1 = true → XT X b ρ b2 ρ) : XT X (.BoolOp .And [a, b] pos) ρ (b1 && b2) ρ := xt_and h1 h2 fun _ => rfl
theorem xt_orp {b1 b2 : Bool} (h1 : XT X a ρ b1 ρ) (h2 : b1 = false → XT X b ρ b2 ρ) : XT X (.BoolOp .Or [a, b] pos) ρ (b1 || b2) ρ := xt_or h1 h2 fun _ => rfl
theorem xe_andp {b1 b2 : Bool} (h1 : XE X a ρ (.bool b1) ρ) (h2 : b1 = true → XE X (.BoolOp .And (b :: rest) pos) ρ (.bool b2) ρ) : XE X (.BoolOp .And (a :: b :: rest) pos) ρ (.bool (b1 && b2)) ρ := by
  cases b1 with
  | true => exact xe_and h1 h2 (fun h => by cases h)
  | false => exact xe_and h1 (fun h => by cases h) fun _ => ⟨rfl, rfl⟩
theorem xe_orp {b1 b2 : Bool} (h1 : XE X a ρ (.bool b1) ρ) (h2 : b1 = false → XE X (.BoolOp .Or (b :: rest) pos) ρ (.bool b2) ρ) : XE X (.BoolOp .Or (a :: b :: rest) pos) ρ (.bool (b1 || b2)) ρ := by
  cases b1 with
  | false => exact xe_or h1 h2 (fun h => by cases h)
  | true => exact xe_or h1 (fun h => by cases h) fun _ => ⟨rfl, rfl⟩
end
end DL
set_option Elab.async false
set_option linter.all false
set_option maxRecDepth 100000
set_option maxHeartbeats 4000000
/-! enumerate(t) of a tuple; isinstance of data -/
namespace DL
open PySem PySem.Spec PyProof.Rows L2
abbrev tupIt (t : Addr) : Obj := { cls := .type "tuple_iterator", data := .fields #[.ref t, .int 0 0] }
abbrev enumOf (it : Addr) : Obj := { cls := .type "enumerate", data := .fields #[.none, .bool false, .ref it, rawInt 0, .none, .none] }
theorem meets_enumT (t : Addr) (items : Array Value) :
    Meets (Builtin.«enumerate.__new__» ⟨[.type "enumerate", .ref t], []⟩) (fun _ R s => s.heap.IsTuple t items ∧
      R (.ok (.ret (.ref (s.heap.push (tupIt t)).objs.size))) { s with heap := (s.heap.push (tupIt t)).push (enumOf s.heap.objs.size) }) :=
  .of_wp fun prog w A R s h => by
    obtain ⟨hp, g, d, tk, os⟩ := s
    obtain ⟨ht, h⟩ := h
    have a0 := sub_enumerate
    have q1 : ∀ {A' : Around} {E : Value → Shared → Prop} {Q : Value → Shared → Prop}, Q (.ref hp.objs.size) ⟨hp.push (tupIt t), g, d, tk, os⟩ → wpAny (model prog w) A' (pyIter (.ref t)) Q E ⟨hp, g, d, tk, os⟩ :=
      fun q => wpAny_pyIter_tuple (s := ⟨hp, g, d, tk, os⟩) ht q
    wp_walk using q1
    refine wpAny_stack_any fun st => wpAny_pure ?_
    split
    · rename_i c _ _ _ _ _
      cases (c == Value.type "enumerate") <;> (wp_walk using q1; exact ⟨_, rfl, h⟩)
    · wp_walk using q1
      exact ⟨_, rfl, h⟩
theorem enum_tup {P : Program} {w : World} {A : Around} {E : Value → Shared → Prop} {s : Shared} {t : Addr} {items : Array Value} {Q : Value → Shared → Prop} (ht : s.heap.IsTuple t items)
    (h : ∀ h', IsEnum h' (s.heap.objs.size + 1) s.heap.objs.size 0 .none → h'.IsTupleIter s.heap.objs.size t 0 → (∀ b o, s.heap.get? b = some o → h'.get? b = some o) → Q (.ref (s.heap.objs.size + 1)) { s with heap := h' }) :
    wpAny (model P w) A (call (.type "enumerate") [.ref t]) Q E s := by
  refine callType_new F.called_enumerate (by decide) (F.typeCall_enumerate_1 _) (F.newCall_enumerate_1 _) (fun obj => F.args_object_init_2 obj _) F.entry_enumerate_new (meets_enumT t items) ⟨ht, ?_⟩
  have z : (s.heap.push (tupIt t)).objs.size = s.heap.objs.size + 1 := Heap.size_push ..
  show _ ∧ _
  rw [z]
  have he : IsEnum ((s.heap.push (tupIt t)).push (enumOf s.heap.objs.size)) (s.heap.objs.size + 1) s.heap.objs.size 0 .none := by
    have q := Heap.get?_push_size (s.heap.push (tupIt t)) (o := enumOf s.heap.objs.size) rfl
    rw [z] at q
    exact q
  exact ⟨⟨_, he, rfl⟩, h _ he ⟨_, Heap.get?_push_of_some _ (Heap.get?_push_size _ rfl), rfl, rfl⟩ fun b o x => Heap.get?_push_of_some _ (Heap.get?_push_of_some _ x)⟩
/-- the tuple at a with numbers: new pairs -/
def IteT (K : PySem.W.Frag) (a : Addr) : It :=
  ⟨fun i H => ∃ (xs : List V) (x : V), SqT K H a xs ∧ xs[i]? = some x, fun i H v H' => ∃ T x, v = .ref T ∧ H T = none ∧ H' = upd H T (.tup [.int (i : Nat), x]) ∧ ∀ xs, SqT K H a xs → xs[i]? = some x, fun i H => ∃ xs : List V, SqT K H a xs ∧ xs.length = i⟩
theorem turn_enumT {P : Program} {w : World} {K : PySem.W.Frag} {elts : List Expr} {kk : Nat} {tpos : Pos} (a e it : Addr) :
    Turn P w K (.Tuple elts kk tpos) (IteT K a) [e, it] e (fun i h => (∃ old, IsEnum h e it ((i : Nat) : Int) old) ∧ h.IsTupleIter it a i ∧ e ≠ it) where
  mem := List.mem_cons_self
  obj := fun i h st b hb => by
    obtain ⟨⟨old, he⟩, ⟨o, ho, hc, hd⟩, _⟩ := st
    rcases List.mem_cons.mp hb with z | z
    · rw [z]; exact ⟨_, he, fun v q => by cases q⟩
    · rw [List.mem_singleton.mp z]; exact ⟨o, ho, fun v q => by rw [hd] at q; cases q⟩
  keep := fun i h h' st k => let ⟨⟨old, he⟩, hi, hne⟩ := st; ⟨⟨old, k e List.mem_cons_self _ he⟩, hi.at fun o q => k it (List.mem_cons_of_mem _ List.mem_cons_self) o q, hne⟩
  item := by
    intro X hP hw hK hc i pins s σ H E I hf st hg
    subst hP hw hK
    obtain ⟨⟨old, he⟩, hit, hne⟩ := st
    obtain ⟨xs, x, hq, hx⟩ := hg
    obtain ⟨its, rv, p, hz⟩ := I.tuple hq
    obtain ⟨u, hu, ru⟩ := rv.get hx
    have lt_e : e < s.heap.objs.size := Heap.lt_size he
    have lt_it : it < s.heap.objs.size := by obtain ⟨_, q, _⟩ := id hit; exact Heap.lt_size q
    have nf : ∀ b ∈ [e, it], ∀ o, H b = some o → False := fun b hb o q => by rw [(hf b hb).1] at q; cases q
    have apart : ∀ b ∈ [e, it], b ≠ a := fun b hb z => by
      subst z
      have tup : ∃ o, s.heap.get? b = some o ∧ o.cls = .type "tuple" := by
        obtain ⟨o, ho, hc, _⟩ := p
        exact ⟨o, ho, hc⟩
      obtain ⟨o, ho, hc⟩ := tup
      rcases List.mem_cons.mp hb with z | z
      · subst z
        have he' : s.heap.get? b = some _ := he
        rw [he'] at ho
        rw [← Option.some.inj ho] at hc
        exact absurd hc (by simp)
      · obtain ⟨o', ho', hc', _⟩ := hit
        rw [List.mem_singleton.mp z] at ho
        rw [ho'] at ho
        rw [← Option.some.inj ho, hc'] at hc
        exact absurd hc (by simp)
    have hlt : i < its.toArray.size := by
      rw [List.size_toArray]
      exact (List.getElem?_eq_some_iff.mp hu).1
    have W := GoesN.enumFrom (prog := X.prog) (w := X.w) (A := X.A) (elts := elts) (x1 := kk) (pos := tpos) 0 (Draws.tuple (prog := X.prog) (w := X.w) (A := X.A.in1) (I.ok.hd hc) it a (Ne.symm (apart it (by simp))) its.toArray) e hne (by simp only [List.mem_cons, List.not_mem_nil, or_false, not_or]; exact ⟨hne, apart e (by simp)⟩) (by simp)
    refine W.goes i s _ E hlt ⟨⟨old, by rw [Int.zero_add]; exact he⟩, hit, p⟩ fun v h' tk hY st' hk htk => ?_
    obtain ⟨T, t, y, rfl, hT, hy, hTup⟩ := hY
    have ey : y = u := by
      have q : its.toArray[i]? = some y := hy
      rw [List.getElem?_toArray, hu] at q
      exact (Option.some.inj q).symm
    subst ey
    have new : ObjOk X.prog X.w (upd H T (.tup [.int (i : Nat), x])) h' T (.tup [.int (i : Nat), x]) :=
      ⟨by show 2 ≤ sizeLine; decide, [.int (0 + (i : Nat)) t, y], .cons ⟨t, by rw [Int.zero_add]⟩ (.cons ru .nil), hTup⟩
    have I1 : Inv X pins σ (upd H T (.tup [.int (i : Nat), x])) { s with heap := h', toks := tk } := I.turnedNew (ch := [e, it]) hk hf hT new
    obtain ⟨⟨old', he'⟩, hit', _⟩ := st'
    refine ⟨.ref T, _, I1, rfl, ⟨T, x, rfl, I.hok.fresh hT, rfl, fun ys hys => by rw [I.tuple_inj hys hq]; exact hx⟩, ⟨⟨old', ?_⟩, hit', hne⟩, fun b hb => ?_⟩
    · rw [Int.zero_add] at he'
      exact he'
    · have hb' : b < s.heap.objs.size := by
        rcases List.mem_cons.mp hb with z | z
        · rw [z]; exact lt_e
        · rw [List.mem_singleton.mp z]; exact lt_it
      rw [upd_ne (Nat.ne_of_lt (Nat.lt_of_lt_of_le hb' hT))]
      exact (hf b hb).1
  done := by
    intro X hP hw hK hc i pins s σ H E I hf st hg
    subst hP hw hK
    obtain ⟨⟨old, he⟩, hit, hne⟩ := st
    obtain ⟨xs, hq, hx⟩ := hg
    obtain ⟨its, rv, p, hz⟩ := I.tuple hq
    have hn : its.toArray.size = i := by rw [List.size_toArray, ← rv.length, hx]
    obtain ⟨f0, f1, f2, f3, f4, f5⟩ := hf it (by simp)
    have nit : a ≠ it := fun z => by
      obtain ⟨o, ho, hc, _⟩ := p
      obtain ⟨o', ho', hc', _⟩ := hit
      rw [z, ho'] at ho
      rw [← Option.some.inj ho, hc'] at hc
      exact absurd hc (by simp)
    exact wpAny_pyNext_enum_endD (Draws.tuple (prog := X.prog) (w := X.w) (A := X.A.in1) (I.ok.hd hc) it a nit its.toArray) he ⟨by rw [hn]; exact hit, p⟩ fun h' eb => ⟨rfl, I.turned (t' := s.toks) (fun b o hb q => eb b o hb q) f0 f1 f3 f4 f5⟩
  self := fun A i s Q E st h => let ⟨⟨_, he⟩, _⟩ := st; wpAny_pyIter_enum he h
def iEnumT (K : PySem.W.Frag) (ta : TA) : TI := fun σ H R => ta σ H fun vs H1 => ∃ a xs, vs = [.ref a] ∧ SqT K H1 a xs ∧ R (IteT K a) H1
theorem pi_enumT {X : Cx} {e : Expr} {ta : TA} {p pos tpos : Pos} {elts : List Expr} {kk : Nat} (hg : Gl X "enumerate") (hm : X.mg "enumerate" = none) (ha : PA X [e] ta) (hs : starEach [e] X.env = [(false, eval e X.env)] := by rfl) :
    PI X (.Tuple elts kk tpos) (.Call (.Name "enumerate" p) [e] [] pos) (iEnumT X.K ta) := by
  refine ⟨fun pins s σ H R I h => ?_⟩
  refine Call_ (ld_blt I hg hm boot_enumerate (PyProof.Rows.callWith_type1 (thn (ha.run pos pins s σ H _ I h) fun us s1 ⟨vs, H1, I1, r1, q1⟩ => ?_) hs rfl))
  obtain ⟨a, xs, rfl, hq, q⟩ := q1
  rw [Vals.ref1 r1]
  obtain ⟨its, rv, p', hz⟩ := I1.tuple hq
  refine enum_tup (show s1.heap.IsTuple a its.toArray from p') fun h' he hit hk => wpAny_pyIter_enum he ?_
  refine ⟨s1.heap.objs.size + 1, [s1.heap.objs.size + 1, s1.heap.objs.size], _, _, H1, rfl, I1.kept (t' := s1.toks) hk, turn_enumT a (s1.heap.objs.size + 1) s1.heap.objs.size, ⟨⟨.none, he⟩, hit, Nat.succ_ne_self _⟩, fun b hb => ?_, q⟩
  have le : s1.heap.objs.size ≤ b := by
    rcases List.mem_cons.mp hb with z | z
    · rw [z]; exact Nat.le_add_right _ _
    · rw [List.mem_singleton.mp z]; exact Nat.le_refl _
  exact I1.fpOk le (I1.hok.fresh le)
/-- the numbered items -/
def enumD (xs : List D) : List D := xs.mapIdx fun i x => .tuple [.int (i : Nat), x]
theorem enumD_at {xs : List D} {i : Nat} {d : D} (h : (enumD xs)[i]? = some d) : ∃ x, xs[i]? = some x ∧ d = .tuple [.int (i : Nat), x] := by
  unfold enumD at h
  rw [List.getElem?_mapIdx, Option.map_eq_some_iff] at h
  obtain ⟨x, h1, h2⟩ := h
  exact ⟨x, h1, h2.symm⟩
theorem enumD_len (xs : List D) : (enumD xs).length = xs.length := List.length_mapIdx
section
variable {X : Cx} {e : Expr} {ρ ρ1 : List Sl} {pos : Pos} {ds : List D} {x : D}
theorem new_pair {K : PySem.W.Frag} {F H : Hp} {T : Addr} {x : V} {i : Int} {d : D} (fh : Same F H) (hT : H T = none) (r : Rp K F x d) : ∃ F2, Gr F H F2 (upd H T (.tup [.int i, x])) ∧ Rp K F2 (.ref T) (.tuple [.int i, d]) := by
  have gr : Gr F H (upd F T (.tup [.int i, x])) (upd H T (.tup [.int i, x])) := .laid fh hT
  exact ⟨_, gr, .tup upd_same (.cons (.int i) (.cons (rp_mono gr.f _ _ r) .nil))⟩
theorem xi_enumT {p tpos : Pos} {elts : List Expr} {kk : Nat} (hg : Gl X "enumerate") (hm : X.mg "enumerate" = none) (h : XE X e ρ (.tuple ds) ρ1) (hs : starEach [e] X.env = [(false, eval e X.env)] := by rfl) (hst : starEach [e] X.env = (false, eval e X.env) :: starEach [] X.env := by rfl) :
    XI X (.Tuple elts kk tpos) (.Call (.Name "enumerate" p) [e] [] pos) ρ (enumD ds) ρ1 :=
  .of (pi_enumT hg hm (pa_cons (pcE e) pa_nil hst) hs) fun F0 G F H σ k R q => h F0 G F H σ k _ fun v F1 H1 k1 f1 d1 => by
    cases d1 with
    | @tup a vs _ s r =>
      refine ⟨a, vs, rfl, sqT_mono k1.fh s, q _ F1 H1 k1 f1 ⟨fun i H2 f2 hi => ?_, fun H2 f2 => ⟨vs, sqT_mono f2 s, by rw [Rps.length r, enumD_len]⟩, fun i H2 x H3 F2 f2 f3 hy d hd => ?_⟩⟩
      · rw [enumD_len] at hi
        obtain ⟨y, hy⟩ := atN (xs := vs) (i := i) (by rw [Rps.length r]; exact hi)
        exact ⟨vs, y, sqT_mono f2 s, hy⟩
      · obtain ⟨T, y, rfl, hT, rfl, hy⟩ := hy
        obtain ⟨z, e1, rfl⟩ := enumD_at hd
        obtain ⟨w, e2, e3⟩ := Rps.get r e1
        have := hy vs (sqT_mono (f2.trans f3) s)
        rw [e2] at this
        cases this
        exact new_pair f3 hT (rp_mono f2 _ _ e3)
theorem xi_enumL {p tpos : Pos} {elts : List Expr} {kk : Nat} (hg : Gl X "enumerate") (hm : X.mg "enumerate" = none) (h : XE X e ρ (.list ds) ρ1) (hs : starEach [e] X.env = [(false, eval e X.env)] := by rfl) (hst : starEach [e] X.env = (false, eval e X.env) :: starEach [] X.env := by rfl) :
    XI X (.Tuple elts kk tpos) (.Call (.Name "enumerate" p) [e] [] pos) ρ (enumD ds) ρ1 :=
  .of (pi_enum hg hm (pa_cons (pcE e) pa_nil hst) hs) fun F0 G F H σ k R q => h F0 G F H σ k _ fun v F1 H1 k1 f1 d1 => by
    cases d1 with
    | @lst a vs _ s r =>
      refine ⟨a, vs, rfl, .of (k1.fh _ _ s), q _ F1 H1 k1 f1 ⟨fun i H2 f2 hi => ?_, fun H2 f2 => ⟨vs, .of (f2 _ _ s), by rw [Rps.length r, enumD_len]; exact Nat.le_refl _⟩, fun i H2 x H3 F2 f2 f3 hy d hd => ?_⟩⟩
      · rw [enumD_len] at hi
        obtain ⟨y, hy⟩ := atN (xs := vs) (i := i) (by rw [Rps.length r]; exact hi)
        exact ⟨vs, y, .of (f2 _ _ s), hy⟩
      · obtain ⟨T, y, rfl, hT, rfl, hy⟩ := hy
        obtain ⟨z, e1, rfl⟩ := enumD_at hd
        obtain ⟨w, e2, e3⟩ := Rps.get r e1
        have := hy vs (.of (f3 _ _ (f2 _ _ s)))
        rw [e2] at this
        cases this
        exact new_pair f3 hT (rp_mono f2 _ _ e3)
/-! ### isinstance -/
/-- the class of data -/
def tyD : D → String
  | .none => "NoneType"
  | .bool _ => "bool"
  | .int _ => "int"
  | .str _ => "str"
  | .list _ => "list"
  | .tuple _ => "tuple"
  | .dict _ => "list"
/-- a dict as data -/
def dctB : D → Bool
  | .dict ((.bool _, _) :: _) => true
  | _ => false
theorem ty_rp {K : PySem.W.Frag} {F H : Hp} (fh : Same F H) {v : V} (h : Rp K F v x) (hx : dctB x = false := by rfl) : TyX K H v (.type (tyD x)) := by
  cases h with
  | non => exact .base .non
  | bl b => exact .base (.bl b)
  | int i => exact .base (.int i)
  | str s => exact .base (.str s)
  | lst s r => exact .base (.lst (fh _ _ s))
  | dct s _ _ => cases hx
  | dcn s _ _ _ => cases hx
  | dck s _ _ => cases hx
  | tup s r => exact .base (.tup (fh _ _ s))
  | scr s r =>
    rcases sqL_mono fh s with (s | ⟨o, s⟩) | ⟨o, its, n, s, c, _⟩
    · exact .base (.lst s)
    · exact .base (.frz s)
    · exact .kList s c
theorem xe_isi {nm nm2 : Str} {T : String} {bb : Bool} {p p2 : Pos} (h : XE X e ρ x ρ1) (hk : kitB (tyD x) T = some bb) (hg : Gl X nm) (hm : X.mg nm = none) (hv : bootBuiltins nm = some (.builtin "isinstance")) (hg2 : Gl X nm2) (hm2 : X.mg nm2 = none) (hv2 : bootBuiltins nm2 = some (.type T)) (hn : nm ≠ "__name__" := by decide) (hdb : (nm == ("__debug__" : Str)) = false := by decide) (hn2 : nm2 ≠ "__name__" := by decide) (hdb2 : (nm2 == ("__debug__" : Str)) = false := by decide)
    (q1 : starEach [e, .Name nm2 p2] X.env = (false, eval e X.env) :: starEach [.Name nm2 p2] X.env := by rfl) (q2 : starEach [.Name nm2 p2] X.env = (false, eval (.Name nm2 p2) X.env) :: starEach [] X.env := by rfl) (q3 : ((backTo pos (starEach [.Name nm2 p2] X.env)).any fun x => x.fst) = false := by rfl) (hx : dctB x = false := by rfl) :
    XE X (.Call (.Name nm p) [e, .Name nm2 p2] [] pos) ρ (.bool bb) ρ1 :=
  .of (pe_callB call_isi hg hm hv (pa_cons (pcE e) (pa_cons (pe_bltn (v := .ty T) hg2 hm2 hv2 rfl hn2 hdb2) pa_nil q2) q1) hn hdb q1 q3) fun F0 G F H σ k Q q => h F0 G F H σ k _ fun v F1 H1 k1 f1 d1 =>
    ⟨v, .ty T, _, _, bb, rfl, .ty T, ty_rp k1.fh d1 hx, kit_ty hk, q _ F1 H1 k1 f1 (.bl _)⟩
/-- a < b < c as a test -/
theorem xt_chain {a b c : Expr} {ρ2 : List Sl} {y z : D} {op op' : CmpOp} {k1 k2 : Bool} (h : BR X (compareOp op) x y (.bool k1)) (h' : BR X (compareOp op') y z (.bool k2)) (ha : XE X a ρ x ρ1) (hb : XE X b ρ1 y ρ2) (hc : XE X c ρ2 z ρ2) (hm2 : lastMarks [op, op'] [b, c] = false := by with_unfolding_all rfl) :
    XT X (.Compare a [op, op'] [b, c] pos) ρ (k1 && k2) ρ2 := by
  obtain ⟨r, o, g⟩ := h
  obtain ⟨r', o', g'⟩ := h'
  exact .of (pt_chain o o' (pcE a) (pcE b) (pcE c) hm2) fun F0 G F H σ k Q q => ha F0 G F H σ k _ fun v F1 H1 kk1 f1 d1 => hb F0 G F1 H1 σ kk1 _ fun w F2 H2 kk2 f2 d2 =>
    g F2 H2 v w _ kk2.fh (rp_mono f2 _ _ d1) d2 fun u F3 H3 gr d3 => by
      cases d3
      refine ⟨k1, rfl, ?_⟩
      cases k1 with
      | true =>
        rw [if_pos rfl]
        refine hc F0 G F3 H3 σ (kk2.gr gr) _ fun u F4 H4 kk4 f4 d4 => ?_
        exact g' F4 H4 w u _ kk4.fh (rp_mono (gr.f.trans f4) _ _ d2) d4 fun u F5 H5 gr5 d5 => by
          cases d5
          exact ⟨_, rfl, q F5 H5 (kk4.gr gr5) ((((f1.trans f2).trans gr.f).trans f4).trans gr5.f)⟩
      | false =>
        rw [if_neg Bool.false_ne_true]
        exact ⟨_, rfl, q F3 H3 (kk2.gr gr) ((f1.trans f2).trans gr.f)⟩
/-! ### set(t) of a tuple of ints -/
def rSetT (w : World) (K : PySem.W.Frag) : List V → Hp → VK → Prop := fun xs H Q => ∃ (l : Addr) (ns : List Int), xs = [V.ref l] ∧ SqT K H l (ns.map V.int) ∧ ns.length < 64 ∧ ∀ a c, H a = none → c ≤ ns.length → Q (.ref a) (upd H a (SetO w a (fun j => decide (j ∈ ns)) c))
theorem cr_setT (hc : X.calm = true) : CallR X (.type "set") (rSetT X.w X.K) := by
  intro pins s σ H xs us Q I r h
  obtain ⟨l, ns, rfl, hl, hn, q⟩ := h
  rw [Vals.ref1 r]
  obtain ⟨its, rv, pl, hz⟩ := I.tuple hl
  refine call_set_tupI ns (I.ok.hd hc) (show s.heap.IsTuple l its.toArray from pl) (by simpa using Vals.ints rv) (by unfold scanBound; omega) fun h' tk c R hc' k => ?_
  exact ⟨.ref s.heap.objs.size, upd H s.heap.objs.size (SetO X.w s.heap.objs.size _ c), I.laid (t' := tk) k (Nat.le_refl _) (setO_new R), rfl, q _ c (I.hok.fresh (Nat.le_refl _)) hc'⟩
/-- sorted(set(t)), t a tuple of ints -/
theorem xo_sortsetT {p1 p2 pp : Pos} {nm1 nm2 : Str} {ns : List Int} (hc : X.calm = true) (h : XE X e ρ (.tuple (ns.map .int)) ρ1) (hn : ns.length < 64) (hg : Gl X nm1) (hm : X.mg nm1 = none) (hv : bootBuiltins nm1 = some (.builtin "sorted")) (hg2 : Gl X nm2) (hm2 : X.mg nm2 = none) (hv2 : bootBuiltins nm2 = some (.type "set")) (e1 : nm1 = "sorted" := by rfl) (e2 : nm2 = "set" := by rfl)
    (q1 : starEach [e] X.env = (false, eval e X.env) :: starEach [] X.env := by rfl) (q2 : ((backTo pp (starEach [] X.env)).any fun x => x.fst) = false := by rfl) (q3 : starEach [.Call (.Name nm2 p2) [e] [] pp] X.env = (false, eval (.Call (.Name nm2 p2) [e] [] pp) X.env) :: starEach [] X.env := by rfl) (q4 : ((backTo pos (starEach [] X.env)).any fun x => x.fst) = false := by rfl) :
    XO X (.Call (.Name nm1 p1) [.Call (.Name nm2 p2) [e] [] pp] [] pos) ρ ((setI ns).map .int) ρ1 := by
  subst e1 e2
  refine .of (pe_callB (cr_sortedSet hc) hg hm hv (pa_cons (pe_callTy (cr_setT hc) hg2 hm2 hv2 (pa_cons (pcE e) pa_nil q1) (by decide) (by decide) q1 q2) pa_nil q3) (by decide) (by decide) q3 q4) fun F0 G F H σ k Q q => ?_
  refine h F0 G F H σ k _ fun v F1 H1 k1 f1 d1 => ?_
  cases d1 with
  | @tup l vs _ s r =>
    have ev := Rps.ints r
    subst ev
    refine ⟨l, ns, rfl, sqT_mono k1.fh s, hn, fun a c ha hcn => ?_⟩
    refine sorted_end (ns := ns) upd_same (by omega) (fun k => by simp) fun p hp => ?_
    exact q p _ F1 _ (k1.loose ha) f1 hp (Rps.of_ints _)
/-! ### lists of ints, equal or not -/
theorem shaped_ints (ns : List Int) : SeqAt.shaped (.list (ns.map .int)) = true := by
  have h1 : ∀ ns : List Int, PyData.canLayAll0 (ns.map .int) = true := by
    intro ns
    induction ns with
    | nil => simp [PyData.canLayAll0]
    | cons a l ih => simp [PyData.canLayAll0, PyData.canLay0, ih]
  unfold SeqAt.shaped
  rw [Bool.and_eq_true, decide_eq_true_iff]
  refine ⟨by simp only [PyData.canLay0]; exact h1 ns, ?_⟩
  have h2 : ∀ ns : List Int, PyData.depthAll (ns.map .int) ≤ 1 := by
    intro ns
    induction ns with
    | nil => simp [PyData.depthAll]
    | cons a l ih => simp only [List.map_cons, PyData.depthAll, PyData.depth]; omega
  have := h2 ns
  rw [PyData.depth]
  show _ ≤ 64
  omega
theorem eqv_ints : ∀ ns ms : List Int, PyData.eqv (.list (ns.map .int)) (.list (ms.map .int)) = decide (ns = ms)
  | [], [] => by simp [PyData.eqv, PyData.eqvAll]
  | [], _ :: _ => by simp [PyData.eqv, PyData.eqvAll]
  | _ :: _, [] => by simp [PyData.eqv, PyData.eqvAll]
  | a :: l, b :: m => by
    have ih := eqv_ints l m
    simp only [PyData.eqv, List.map_cons, PyData.eqvAll] at ih ⊢
    rw [ih]
    simp only [List.cons.injEq]
    by_cases h : a = b <;> by_cases h' : l = m <;> simp [h, h']
theorem br_eqL (hu : X.A.units + 64 < cLine) {ns ms : List Int} : BR X (compareOp .Eq) (.list (ns.map .int)) (.list (ms.map .int)) (.bool (decide (ns = ms))) := by
  have := br_eqD (X := X) hu (shaped_ints ns) (shaped_ints ms)
  rw [eqv_ints] at this
  exact this
theorem br_neL (hu : X.A.units + 64 < cLine) {ns ms : List Int} : BR X (compareOp .NotEq) (.list (ns.map .int)) (.list (ms.map .int)) (.bool (!decide (ns = ms))) := by
  have := br_neD (X := X) hu (shaped_ints ns) (shaped_ints ms)
  rw [eqv_ints] at this
  exact this
end
end DL
set_option Elab.async false
set_option linter.all false
set_option maxRecDepth 100000
set_option maxHeartbeats 2000000
/-! dicts of one's own, keys numbers (or texts) -/
namespace DL
open PySem PySem.Spec PyProof.Rows L2
/-- the dict as data: put, look up -/
def putD {κ : Type} [DecidableEq κ] (kvs : List (κ × D)) (k : κ) (v : D) : List (κ × D) :=
  if (kvs.any fun kv => decide (kv.1 = k)) = true then kvs.map (fun kv => if kv.1 = k then (kv.1, v) else kv) else kvs ++ [(k, v)]
def getD {κ : Type} [DecidableEq κ] (kvs : List (κ × D)) (k : κ) : Option D := (kvs.find? fun kv => decide (kv.1 = k)).map (·.2)
def kD : Key → D
  | .inl i => .int i
  | .inr x => .str x
section
variable {K : PySem.W.Frag} {F H : Hp}
theorem rp_kD : ∀ (k : Key), Rp K F (kV k) (kD k)
  | .inl i => .int i
  | .inr x => .str x
theorem kV_of_rp {k : Key} {v : V} (h : Rp K F v (kD k)) : v = kV k := by
  cases k with
  | inl i => cases h; rfl
  | inr x => cases h; rfl
theorem kvs_len {κ : Type} {vvs : List (κ × V)} {kvs : List (κ × D)} (h : vvs.map (·.1) = kvs.map (·.1)) : vvs.length = kvs.length := by
  have := congrArg List.length h
  simpa using this
theorem put_at {κ : Type} [DecidableEq κ] {v : V} {d : D} (r : Rp K F v d) (k : κ) {vvs : List (κ × V)} {kvs : List (κ × D)} (h1 : vvs.map (·.1) = kvs.map (·.1)) (h2 : Rps K F (vvs.map (·.2)) (kvs.map (·.2))) :
    (putK vvs k v).map (·.1) = (putD kvs k d).map (·.1) ∧ Rps K F ((putK vvs k v).map (·.2)) ((putD kvs k d).map (·.2)) := by
  have any : ∀ (vvs : List (κ × V)) (kvs : List (κ × D)), vvs.map (·.1) = kvs.map (·.1) → (vvs.any fun kv => decide (kv.1 = k)) = kvs.any fun kv => decide (kv.1 = k) := by
    intro vvs
    induction vvs with
    | nil =>
      intro kvs h
      cases kvs with
      | nil => rfl
      | cons b l => cases h
    | cons a l ih =>
      intro kvs h
      cases kvs with
      | nil => cases h
      | cons b m =>
        simp only [List.map_cons, List.cons.injEq] at h
        rw [List.any_cons, List.any_cons, h.1, ih m h.2]
  have mp : ∀ (vvs : List (κ × V)) (kvs : List (κ × D)), vvs.map (·.1) = kvs.map (·.1) → Rps K F (vvs.map (·.2)) (kvs.map (·.2)) →
      (vvs.map fun kv => if kv.1 = k then (kv.1, v) else kv).map (·.1) = (kvs.map fun kv => if kv.1 = k then (kv.1, d) else kv).map (·.1) ∧ Rps K F ((vvs.map fun kv => if kv.1 = k then (kv.1, v) else kv).map (·.2)) ((kvs.map fun kv => if kv.1 = k then (kv.1, d) else kv).map (·.2)) := by
    intro vvs
    induction vvs with
    | nil =>
      intro kvs h _
      cases kvs with
      | nil => exact ⟨rfl, .nil⟩
      | cons b l => cases h
    | cons a l ih =>
      intro kvs h r2
      cases kvs with
      | nil => cases h
      | cons b m =>
        simp only [List.map_cons, List.cons.injEq] at h
        cases r2 with
        | cons q1 q2 =>
          obtain ⟨i1, i2⟩ := ih m h.2 q2
          simp only [List.map_cons]
          rw [h.1]
          by_cases hk : b.1 = k
          · rw [if_pos hk, if_pos hk]
            exact ⟨by rw [i1], .cons r i2⟩
          · rw [if_neg hk, if_neg hk]
            exact ⟨by rw [i1, h.1], .cons q1 i2⟩
  unfold putK putD
  rw [any vvs kvs h1]
  split
  · exact mp vvs kvs h1 h2
  · refine ⟨by simp only [List.map_append, List.map_cons, List.map_nil, h1], ?_⟩
    rw [List.map_append, List.map_append]
    exact h2.append (.cons r .nil)
theorem get_at {κ : Type} [DecidableEq κ] (k : κ) : ∀ {vvs : List (κ × V)} {kvs : List (κ × D)}, vvs.map (·.1) = kvs.map (·.1) → Rps K F (vvs.map (·.2)) (kvs.map (·.2)) →
    (getD kvs k = none → valV vvs k = none) ∧ (∀ d, getD kvs k = some d → ∃ v, valV vvs k = some v ∧ Rp K F v d) := by
  intro vvs
  induction vvs with
  | nil =>
    intro kvs h _
    cases kvs with
    | nil => exact ⟨fun _ => rfl, fun d e => by cases e⟩
    | cons b l => cases h
  | cons a l ih =>
    intro kvs h r2
    cases kvs with
    | nil => cases h
    | cons b m =>
      simp only [List.map_cons, List.cons.injEq] at h
      cases r2 with
      | cons q1 q2 =>
        obtain ⟨i1, i2⟩ := ih h.2 q2
        unfold getD valV
        rw [List.find?_cons, List.find?_cons, h.1]
        by_cases hk : b.1 = k
        · rw [decide_eq_true hk]
          exact ⟨fun z => (by cases z), fun d e => (by cases e; exact ⟨_, rfl, q1⟩)⟩
        · rw [decide_eq_false hk]
          exact ⟨i1, i2⟩
theorem listD_at : ∀ {vvs : List (Key × V)} {kvs : List (Key × D)}, vvs.map (·.1) = kvs.map (·.1) → Rps K F (vvs.map fun kv => kV kv.1) (kvs.map fun kv => kD kv.1)
  | [], [], _ => .nil
  | [], _ :: _, h => by cases h
  | _ :: _, [], h => by cases h
  | a :: l, b :: m, h => by
    simp only [List.map_cons, List.cons.injEq] at h ⊢
    rw [h.1]
    exact .cons (rp_kD _) (listD_at h.2)
end
section
variable {X : Cx} {a b c e : Expr} {ρ ρ1 ρ2 : List Sl} {d x y z : D} {pos : Pos}
/-- the expression gives a new object of one's own -/
def XW (X : Cx) (e : Expr) (ρ : List Sl) (w : Own) (ρ' : List Sl) : Prop := ∀ (F0 G F H : Hp) (σ : L2.St), Ok X.K F0 G F H σ ρ → ∀ Q : VK,
  (∀ p ho F' H', Ok X.K F0 G F' H' σ ρ' → Same F F' → H' p = some ho → F' p = none → G p = none → (∀ (i : Nat) (s : Sl) (ys : Own), ρ'[i]? = some s → s.has = some ys → σ[i]? ≠ some (some (V.ref p))) → w.At X.K F' p ho → Q (.ref p) H') → cE X e σ H Q
theorem XO.xw {xs : List D} (h : XO X e ρ xs ρ1) : XW X e ρ (.l xs) ρ1 := fun F0 G F H σ k Q q => h F0 G F H σ k Q fun p vs F' H' k' f' hp fp gp ap r => q p _ F' H' k' f' hp fp gp ap ⟨vs, rfl, r⟩
theorem XW.of {w : Own} {te : TE} (h : PE X e te) (t : ∀ (F0 G F H : Hp) (σ : L2.St), Ok X.K F0 G F H σ ρ → ∀ Q : VK, (∀ p ho F1 H1, Ok X.K F0 G F1 H1 σ ρ1 → Same F F1 → H1 p = none → w.At X.K F1 p ho → Q (.ref p) (upd H1 p ho)) → te σ H Q) : XW X e ρ w ρ1 :=
  fun F0 G F H σ k Q q pins s I => h.run pins s σ H Q I (t F0 G F H σ k Q fun p vs F1 H1 k1 f1 hp dv => by
    refine q p vs F1 _ (k1.loose hp) f1 upd_same ?_ ?_ (fun i s ys e1 e2 z => ?_) dv
    · cases e : F1 p with
      | none => rfl
      | some u => rw [k1.fh p u e] at hp; cases hp
    · cases e : G p with
      | none => rfl
      | some u => rw [k1.gh p u e] at hp; cases hp
    · obtain ⟨a, ws, q1, q2, _⟩ := k1.has i s ys e1 e2
      rw [q1] at z
      cases z
      rw [hp] at q2
      cases q2)
/-- {} -/
theorem xw_dict : XW X (.Dict [] [] pos) ρ (.k []) ρ := .of pe_dnewK fun F0 G F H σ k Q q p hp => q p _ F H k (Same.refl _) hp ⟨[], rfl, rfl, .nil⟩
/-- x = {} -/
theorem xs_setM (n : Nat) {nm : Str} {pos' : Pos} {kvs : List (Key × D)} (hN : X.N.Nodup) (h : XW X e ρ (.k kvs) ρ1) (hi : X.N[n]? = some nm := by rfl) (hx : Loc X.env.scope nm := by first | exact Or.inl rfl | exact Or.inr rfl) (hs : swapsWith e (some (.Name nm pos')) pos.line X.env = pure false := by rfl)
    (hf : X.fn nm = true ∨ X.env.scope.names.lookup nm = some .local := by first | exact .inl rfl | exact .inr rfl | assumption) : XS X (.Assign [.Name nm pos'] e pos) ρ (.nx (ρ1.set n (.m kvs))) :=
  .of (ps_set hN hi hx (pcE e) hs hf) fun F0 G F H σ k Dn q => h F0 G F H σ k _ fun p vs F1 H1 k1 f1 hp fp gp ap dv => q _ F1 H1 (k1.setW hp fp gp ap dv rfl fun _ _ z => by cases z) f1
/-- d[k] = e, d a dict of one's own -/
theorem xs_putK (n : Nat) {nm : Str} {kvs : List (Key × D)} {k0 : Key} {p1 p2 : Pos} (hu : X.A.units + 1 < cLine) (h : XE X e ρ x ρ1) (hb : XE X b ρ1 (kD k0) ρ2) (h0 : ∃ kvs0, ρ1[n]? = some (.m kvs0)) (hr : ρ2[n]? = some (.m kvs)) (hz : kvs.length ≤ 1000000)
    (hN : X.N[n]? = some nm := by rfl) (hv : Vis X.env.scope nm := by first | exact Or.inl rfl | exact Or.inr (Or.inl rfl) | exact Or.inr (Or.inr rfl))
    (hd : (nm == ("__debug__" : Str)) = false := by decide) (hcd : (nm == ("__classdict__" : Str)) = false := by decide)
    (hg : ∀ (ta tb : TE), PE X (.Name nm p1) ta → PE X b tb → PG X (.Subscript (.Name nm p1) b p2) (gSub ta tb rSetD) := by exact fun _ _ h1 h2 => pg_sub h1 h2 (set_dict (by assumption)))
    (hs : swapsWithSole [.Subscript (.Name nm p1) b p2] e pos.line X.env = pure false := by rfl) (hw : swappedStores [.Subscript (.Name nm p1) b p2] e X.env = pure none := by rfl)
    (h1 : (assignEach [.Subscript (.Name nm p1) b p2] X.env).map (·.2) = [assign (.Subscript (.Name nm p1) b p2) X.env] := by rfl) : XS X (.Assign [.Subscript (.Name nm p1) b p2] e pos) ρ (.nx (ρ2.set n (.m (putD kvs k0 x)))) :=
  .of (ps_asg (pcE e) (hg _ _ (pe_var hN hv hd hcd) (pcE b)) hs hw h1) fun F0 G F H σ k Dn q => h F0 G F H σ k _ fun v F1 H1 k1 f1 d1 => by
    obtain ⟨kvs0, r0⟩ := h0
    obtain ⟨p, _, e0, _⟩ := k1.has n _ _ r0 rfl
    refine ⟨.ref p, e0, hb F0 G F1 H1 σ k1 _ fun w F2 H2 k2 f2 d2 => ?_⟩
    have := kV_of_rp d2
    subst this
    obtain ⟨p', ho, e1, e2, e3, e4, vvs, rfl, e5, e6⟩ := k2.has n _ _ hr rfl
    rw [e0] at e1
    cases e1
    have hl := kvs_len e5
    refine ⟨p, _, rfl, .inl ⟨vvs, k0, e2, rfl, by rw [hl]; exact Nat.lt_of_le_of_lt hz (by decide), rfl⟩, ?_⟩
    obtain ⟨q1, q2⟩ := put_at (rp_mono f2 _ _ d1) k0 e5 e6
    exact q σ F2 _ (k2.writeW hr rfl e0 rfl (fun _ _ z => by cases z) ⟨_, rfl, q1, q2⟩) (f1.trans f2)
/-- list(d) -/
theorem xo_listD (n : Nat) {nm nm0 : Str} {kvs : List (Key × D)} {p p0 : Pos} (hc : X.calm = true) (hr : ρ[n]? = some (.m kvs)) (hg : Gl X nm) (hm : X.mg nm = none) (hvb : bootBuiltins nm = some (.type "list"))
    (hN : X.N[n]? = some nm0 := by rfl) (hv : Vis X.env.scope nm0 := by first | exact Or.inl rfl | exact Or.inr (Or.inl rfl) | exact Or.inr (Or.inr rfl))
    (hd : (nm0 == ("__debug__" : Str)) = false := by decide) (hcd : (nm0 == ("__classdict__" : Str)) = false := by decide)
    (hn : nm ≠ "__name__" := by decide) (hdb : (nm == ("__debug__" : Str)) = false := by decide) (he : starEach [.Name nm0 p0] X.env = (false, eval (.Name nm0 p0) X.env) :: starEach [] X.env := by rfl) (hpl : ((backTo pos (starEach [] X.env)).any fun x => x.fst) = false := by rfl) :
    XO X (.Call (.Name nm p) [.Name nm0 p0] [] pos) ρ (kvs.map fun kv => kD kv.1) ρ :=
  .of (pe_callTy (call_listD hc) hg hm hvb (pa_cons (pe_var hN hv hd hcd) pa_nil he) hn hdb he hpl) fun F0 G F H σ k Q q => by
    obtain ⟨a, ho, e1, e2, e3, e4, vvs, rfl, e5, e6⟩ := k.has n _ _ hr rfl
    exact ⟨.ref a, e1, a, vvs, rfl, .of e2, fun l hl => q l _ F H k (Same.refl _) hl (listD_at e5)⟩
theorem xs_putKP (n : Nat) {nm : Str} (kvs : List (Key × D)) (k0 : Key) {ρ' : List Sl} {p1 p2 : Pos} (hu : X.A.units + 1 < cLine) (h : XE X e ρ x ρ1) (hb : XE X b ρ1 (kD k0) ρ2) (h0 : ∃ kvs0, ρ1[n]? = some (.m kvs0)) (hr : ρ2[n]? = some (.m kvs)) (hz : kvs.length ≤ 1000000) (hq : ρ2.set n (.m (putD kvs k0 x)) = ρ')
    (hN : X.N[n]? = some nm := by rfl) (hv : Vis X.env.scope nm := by first | exact Or.inl rfl | exact Or.inr (Or.inl rfl) | exact Or.inr (Or.inr rfl))
    (hd : (nm == ("__debug__" : Str)) = false := by decide) (hcd : (nm == ("__classdict__" : Str)) = false := by decide)
    (hg : ∀ (ta tb : TE), X.A.units + 1 < cLine → PE X (.Name nm p1) ta → PE X b tb → PG X (.Subscript (.Name nm p1) b p2) (gSub ta tb rSetD) := by exact fun _ _ hu h1 h2 => pg_sub h1 h2 (set_dict hu))
    (hs : swapsWithSole [.Subscript (.Name nm p1) b p2] e pos.line X.env = pure false := by rfl) (hw : swappedStores [.Subscript (.Name nm p1) b p2] e X.env = pure none := by rfl)
    (h1 : (assignEach [.Subscript (.Name nm p1) b p2] X.env).map (·.2) = [assign (.Subscript (.Name nm p1) b p2) X.env] := by rfl) : XS X (.Assign [.Subscript (.Name nm p1) b p2] e pos) ρ (.nx ρ') := by
  rw [← hq]
  exact xs_putK n hu h hb h0 hr hz hN hv hd hcd (fun _ _ h1 h2 => hg _ _ hu h1 h2) hs hw h1
theorem xs_setQ {i : Int} {ρ' : List Sl} (n m : Nat) (xs : List D) {nm : Str} {s : Sl} {p1 p2 : Pos} (h : XE X e ρ x ρ1) (hb : XE X b ρ1 (.int i) ρ2) (h0 : ∃ s0 xs0, ρ1[n]? = some s0 ∧ s0.own = some xs0) (hr : ρ2[n]? = some s) (ho : s.own = some xs) (hm : ixN xs.length i = some m) (hq : ρ2.set n (s.put (xs.set m x)) = ρ')
    (hN : X.N[n]? = some nm := by rfl) (hv : Vis X.env.scope nm := by first | exact Or.inl rfl | exact Or.inr (Or.inl rfl) | exact Or.inr (Or.inr rfl))
    (hd : (nm == ("__debug__" : Str)) = false := by decide) (hcd : (nm == ("__classdict__" : Str)) = false := by decide)
    (hg : ∀ (ta tb : TE), PE X (.Name nm p1) ta → PE X b tb → PG X (.Subscript (.Name nm p1) b p2) (gSub ta tb L2.rSetL) := by exact fun _ _ h1 h2 => pg_sub h1 h2 set_list)
    (hs : swapsWithSole [.Subscript (.Name nm p1) b p2] e pos.line X.env = pure false := by rfl) (hw : swappedStores [.Subscript (.Name nm p1) b p2] e X.env = pure none := by rfl)
    (h1 : (assignEach [.Subscript (.Name nm p1) b p2] X.env).map (·.2) = [assign (.Subscript (.Name nm p1) b p2) X.env] := by rfl) : XS X (.Assign [.Subscript (.Name nm p1) b p2] e pos) ρ (.nx ρ') := by
  rw [← hq]
  exact xs_setitem n m h hb hr ho hm h0 hN hv hd hcd hg hs hw h1
theorem XO.is {xs ys : List D} (h : XO X e ρ xs ρ1) (q : xs = ys) : XO X e ρ ys ρ1 := by rw [← q]; exact h
theorem ixN_pos {n : Nat} {i : Int} (h0 : 0 ≤ i) (h : i < n) : ixN n i = some i.toNat := by
  unfold ixN
  rw [if_pos h0, if_pos h]
/-- a for whose turns carry a state, told by their number too -/
theorem lr_foldN {tg : Expr} {body : List Stmt} {α β : Type} {enc : α → D} {sl : β → List Sl} {step : β → α → β} {P : Nat → β → Prop} : ∀ (as : List α) (i n : Nat) (b : β), i + as.length ≤ n → P i b → (∀ j, j < n → ∀ a ∈ as, ∀ b, P j b → P (j + 1) (step b a) ∧ ∃ vs ρ1, XG X tg vs (enc a) (sl b) ρ1 ∧ XSs X body ρ1 (.nx (sl (step b a)))) →
    LR X tg body (as.map enc) (sl b) (.nx (sl (as.foldl step b)))
  | [], _, _, _, _, _, _ => .nil
  | a :: as, i, n, b, hn, hb, h => by
    rw [List.length_cons] at hn
    obtain ⟨h1, vs, ρ1, h2, h3⟩ := h i (by omega) a List.mem_cons_self b hb
    exact .next h2 h3 (lr_foldN as (i + 1) n _ (by omega) h1 fun j hj c hc => h j hj c (List.mem_cons_of_mem _ hc))
theorem xs_appendP {ρ' : List Sl} (n : Nat) (xs : List D) {nm : Str} {s : Sl} {p1 p2 p3 : Pos} (h : XE X e ρ x ρ1) (h0 : ∃ s0 xs0, ρ[n]? = some s0 ∧ s0.own = some xs0) (hr : ρ1[n]? = some s) (ho : s.own = some xs) (hz : xs.length < 1000000) (hq : ρ1.set n (s.put (xs ++ [x])) = ρ')
    (hN : X.N[n]? = some nm := by rfl) (hv : Vis X.env.scope nm := by first | exact Or.inl rfl | exact Or.inr (Or.inl rfl) | exact Or.inr (Or.inr rfl))
    (hd : (nm == ("__debug__" : Str)) = false := by decide) (hcd : (nm == ("__classdict__" : Str)) = false := by decide) (q1 : starEach [e] X.env = (false, eval e X.env) :: starEach [] X.env := by rfl)
    (q2 : ∀ (ta te : TE), PE X (.Name nm p1) ta → PE X e te → PE X (.Call (.Attribute (.Name nm p1) "append" p2) [e] [] p3) (tBM X.K "list" rAppend ta (tCons te tNil)) := by exact fun _ _ h1 h2 => pe_bm PySem.F.plainAttrs_list PySem.F.slot_list_append PySem.F.type_list_append mt_append h1 (pa_cons h2 pa_nil))
    (q3 : swapsWith (.Call (.Attribute (.Name nm p1) "append" p2) [e] [] p3) none pos.line X.env = pure false := by rfl) : XS X (.Expr (.Call (.Attribute (.Name nm p1) "append" p2) [e] [] p3) pos) ρ (.nx ρ') := by
  rw [← hq]
  exact xs_append n h hr ho hz h0 hN hv hd hcd q1 q2 q3
end
end DL
set_option Elab.async false
set_option linter.all false
set_option maxRecDepth 100000
set_option maxHeartbeats 2000000
namespace DL
open PySem PySem.Spec PyProof.Rows L2
section
variable {X : Cx} {a b c e : Expr} {ρ ρ1 ρ2 : List Sl} {d x y z : D} {pos : Pos}
theorem kit_two {K : PySem.W.Frag} {t T1 T2 : String} {b1 b2 : Bool} (h1 : kitB t T1 = some b1) (h2 : kitB t T2 = some b2) : PySem.W.kitAny K (.type t) [.type T1, .type T2] = some (b1 || b2) := by
  have e1 := kit_ty (K := K) h1
  have e2 := kit_ty (K := K) h2
  cases b1 <;> cases b2 <;> simp [PySem.W.kitAny, e1, e2]
theorem xe_isi2 {nm n1 n2 : Str} {T1 T2 : String} {b1 b2 : Bool} {p p1 p2 tp : Pos} {k0 : Nat} (h : XE X e ρ x ρ1) (hk1 : kitB (tyD x) T1 = some b1) (hk2 : kitB (tyD x) T2 = some b2) (hg : Gl X nm) (hm : X.mg nm = none) (hv : bootBuiltins nm = some (.builtin "isinstance")) (hg1 : Gl X n1) (hm1 : X.mg n1 = none) (hv1 : bootBuiltins n1 = some (.type T1)) (hg2 : Gl X n2) (hm2 : X.mg n2 = none) (hv2 : bootBuiltins n2 = some (.type T2))
    (hn : nm ≠ "__name__" := by decide) (hdb : (nm == ("__debug__" : Str)) = false := by decide) (hn1 : n1 ≠ "__name__" := by decide) (hdb1 : (n1 == ("__debug__" : Str)) = false := by decide) (hn2 : n2 ≠ "__name__" := by decide) (hdb2 : (n2 == ("__debug__" : Str)) = false := by decide)
    (r1 : starEach [.Name n1 p1, .Name n2 p2] X.env = (false, eval (.Name n1 p1) X.env) :: starEach [.Name n2 p2] X.env := by rfl) (r2 : starEach [.Name n2 p2] X.env = (false, eval (.Name n2 p2) X.env) :: starEach [] X.env := by rfl)
    (q1 : starEach [e, .Tuple [.Name n1 p1, .Name n2 p2] k0 tp] X.env = (false, eval e X.env) :: starEach [.Tuple [.Name n1 p1, .Name n2 p2] k0 tp] X.env := by rfl) (q2 : starEach [.Tuple [.Name n1 p1, .Name n2 p2] k0 tp] X.env = (false, eval (.Tuple [.Name n1 p1, .Name n2 p2] k0 tp) X.env) :: starEach [] X.env := by rfl) (q3 : ((backTo pos (starEach [.Tuple [.Name n1 p1, .Name n2 p2] k0 tp] X.env)).any fun x => x.fst) = false := by rfl) (hx : dctB x = false := by rfl) :
    XE X (.Call (.Name nm p) [e, .Tuple [.Name n1 p1, .Name n2 p2] k0 tp] [] pos) ρ (.bool (b1 || b2)) ρ1 :=
  .of (pe_callB call_isiT hg hm hv (pa_cons (pcE e) (pa_cons (pe_tup (pa_cons (pe_bltn (v := .ty T1) hg1 hm1 hv1 rfl hn1 hdb1) (pa_cons (pe_bltn (v := .ty T2) hg2 hm2 hv2 rfl hn2 hdb2) pa_nil r2) r1)) pa_nil q2) q1) hn hdb q1 q3) fun F0 G F H σ k Q q => h F0 G F H σ k _ fun v F1 H1 k1 f1 d1 =>
    ⟨by show 2 ≤ sizeLine; decide, fun p hp => ⟨v, p, [.ty T1, .ty T2], _, _, _, rfl, upd_same, .cons (.ty _) (.cons (.ty _) .nil), ty_rp (k1.loose hp).fh d1 hx, kit_two hk1 hk2, q _ F1 _ (k1.loose hp) f1 (.bl _)⟩⟩
end
end DL
set_option Elab.async false
set_option linter.all false
set_option maxRecDepth 100000
set_option maxHeartbeats 2000000
namespace DL
open PySem PySem.Spec PyProof.Rows L2
section
variable {X : Cx} {a b c e : Expr} {ρ ρ1 ρ2 ρ3 : List Sl} {d x y z : D} {pos : Pos} {ds : List D}
theorem br_notB {i j : Bool} : BR X (compareOp .IsNot) (.bool i) (.bool j) (.bool (!decide (i = j))) :=
  ⟨_, op_notBl, fun F H v w Q fh h1 h2 q => by
    cases h1; cases h2
    exact ⟨i, j, rfl, rfl, q _ F H (.refl fh) (.bl _)⟩⟩
/-- t[:m] -/
theorem xe_cutT {m : Nat} {p2 : Pos} (h : XE X e ρ (.tuple ds) ρ1) (hb : XE X b ρ1 (.int (m : Nat)) ρ2) : XE X (.Subscript e (.Slice none (some b) none p2) pos) ρ (.tuple (ds.take m)) ρ2 :=
  .of (pe_slice sl_tupA (pcE e) po_none (po_some (pcE b))) fun F0 G F H σ k Q q => h F0 G F H σ k _ fun v F1 H1 k1 f1 d1 => by
    show cE X b σ H1 _
    refine hb F0 G F1 H1 σ k1 _ fun w F2 H2 k2 f2 d2 => ?_
    cases d1 with
    | @tup a xs _ s r =>
      cases d2
      have hl := Rps.length r
      have e1 : HT.sIx xs.length xs.length (some (m : Int)) = min m xs.length := by
        unfold HT.sIx
        simp only []
        rw [if_neg (by omega)]
        rw [Int.toNat_natCast]
      have e0 : HT.sIx xs.length 0 none = 0 := rfl
      refine ⟨_, rfl, a, xs, rfl, sqT_mono (f2.trans k2.fh) s, fun hw => ?_, fun hn p hp => ?_⟩
      · have hm : xs.length ≤ m := by
          have := hw.2
          rw [e1] at this
          omega
        rw [List.take_of_length_le (by omega)] at q
        exact q _ F2 H2 k2 (f1.trans f2) (.tup (f2 _ _ s) (rps_mono f2 _ _ r))
      · have e2 : cutV xs none (some (m : Int)) = xs.take m := by
          unfold cutV
          rw [e0, e1, List.drop_zero, Nat.sub_zero]
          by_cases hmx : m ≤ xs.length
          · rw [Nat.min_eq_left hmx]
          · rw [Nat.min_eq_right (by omega), List.take_length, List.take_of_length_le (by omega)]
        show Q (.ref p) (upd H2 p (.tup (cutV xs none (some (m : Int)))))
        rw [e2]
        have gr : Gr F2 H2 (upd F2 p (.tup (xs.take m))) (upd H2 p (.tup (xs.take m))) := .laid k2.fh hp
        refine q _ _ _ (k2.gr gr) ((f1.trans f2).trans gr.f) (.tup upd_same ?_)
        exact rps_mono gr.f _ _ (rps_mono f2 _ _ (Rps.take r m))
/-- range(n, -1, -1) -/
def downD (n : Nat) : List D := (List.range (n + 1)).map fun i => .int ((n : Int) + (i : Nat) * (-1))
theorem downD_len (n : Nat) : (downD n).length = n + 1 := by simp [downD]
theorem downD_at {n i : Nat} {d : D} (h : (downD n)[i]? = some d) : i < n + 1 ∧ d = .int ((n : Int) + (i : Nat) * (-1)) := by
  unfold downD at h
  rw [List.getElem?_map, Option.map_eq_some_iff] at h
  obtain ⟨k, h1, h2⟩ := h
  obtain ⟨h3, h4⟩ := List.getElem?_eq_some_iff.mp h1
  rw [List.length_range] at h3
  rw [List.getElem_range] at h4
  subst h4
  exact ⟨h3, h2.symm⟩
theorem yl_down {K : PySem.W.Frag} {F : Hp} {n : Nat} : Yl K (Itc n (-1) (n + 1)) F (downD n) :=
  ⟨fun i H _ hi => by rw [downD_len] at hi; exact hi, fun H _ => by rw [downD_len]; exact Nat.le_refl _, fun i H x H' F1 f1 f2 hy d hd => by
    obtain ⟨rfl, rfl⟩ := hy
    obtain ⟨h1, rfl⟩ := downD_at hd
    exact ⟨F1, .refl f2, .int _⟩⟩
theorem rgc_down {n : Nat} (h : n ≤ 100000) : RgC n (-1) (-1) (n + 1) := by
  have e : Builtin.Range.rangeSize (n : Int) (-1) (-1) = ((n + 1 : Nat) : Int) := by
    unfold Builtin.Range.rangeSize
    rw [if_neg (by decide), if_pos (by omega)]
    simp
  refine ⟨by decide, by decide, ?_, e⟩
  unfold Builtin.Range.small
  rw [e]
  have e3 : ¬ ((-1 : Int) > 0) := by decide
  simp only [Builtin.Range.rangeFitsLong, Bool.and_eq_true, Bool.or_eq_true, decide_eq_true_iff, if_neg e3]
  refine ⟨⟨⟨⟨⟨by omega, by omega⟩, by decide⟩, by decide⟩, by omega, by omega⟩, .inr (by decide)⟩
theorem xi_down {tg : Expr} {p : Pos} {n : Nat} (hn : n ≤ 100000) (hg : Gl X "range") (hm : X.mg "range" = none) (h : XE X a ρ (.int (n : Nat)) ρ1) (h2 : XE X b ρ1 (.int (-1)) ρ2) (h3 : XE X c ρ2 (.int (-1)) ρ3)
    (q1 : starEach [a, b, c] X.env = (false, eval a X.env) :: starEach [b, c] X.env := by rfl) (q2 : ((backTo pos (starEach [b, c] X.env)).any fun x => x.fst) = false := by rfl)
    (q3 : starEach [b, c] X.env = (false, eval b X.env) :: starEach [c] X.env := by rfl) (q4 : starEach [c] X.env = (false, eval c X.env) :: starEach [] X.env := by rfl) : XI X tg (.Call (.Name "range" p) [a, b, c] [] pos) ρ (downD n) ρ3 :=
  .of (pi_range3 hg hm (pa_cons (pcE a) (pa_cons (pcE b) (pa_cons (pcE c) pa_nil q4) q3) q1) q1 q2) fun F0 G F H σ k R q => h F0 G F H σ k _ fun v F1 H1 k1 f1 d1 => h2 F0 G F1 H1 σ k1 _ fun w F2 H2 k2 f2 d2 => h3 F0 G F2 H2 σ k2 _ fun u F3 H3 k3 f3 d3 => by
    cases d1
    cases d2
    cases d3
    exact ⟨n, -1, -1, n + 1, rfl, rgc_down hn, q _ F3 H3 k3 ((f1.trans f2).trans f3) yl_down⟩
end
end DL
set_option Elab.async false
set_option linter.all false
set_option maxRecDepth 100000
set_option maxHeartbeats 4000000
namespace DL
open PySem PySem.Spec PyProof.Rows L2
theorem rt {X : Cx} {body : List Stmt} {ρ ρ' : List Sl} {d : D} (h : XSs X body ρ (.rt d ρ')) : ∃ o ρ1, DL.Fin d o ρ1 ∧ XSs X body ρ o := ⟨_, _, .rt, h⟩
theorem ends {X : Cx} {body : List Stmt} {ρ ρ' : List Sl} (h : XSs X body ρ (.nx ρ')) : ∃ o ρ1, DL.Fin .none o ρ1 ∧ XSs X body ρ o := ⟨_, _, .nx rfl, h⟩
/-! a for whose turns may return -/
def encs {α : Type} (enc : Nat → α → D) : Nat → List α → List D
  | _, [] => []
  | i, a :: as => enc i a :: encs enc (i + 1) as
def runGo {α β : Type} (go : Nat → β → α → Sum β D) : Nat → List α → β → Sum β D
  | _, [], b => .inl b
  | i, a :: as, b => match go i b a with
    | .inl b' => runGo go (i + 1) as b'
    | .inr d => .inr d
theorem lr_run {X : Cx} {tg : Expr} {body : List Stmt} {α β : Type} {enc : Nat → α → D} {sl : β → List Sl} {P : β → Prop} {go : Nat → β → α → Sum β D} : ∀ (as : List α) (i : Nat) (b : β), P b →
    (∀ i, ∀ a ∈ as, ∀ b, P b → (∀ b', go i b a = .inl b' → P b' ∧ ∃ vs ρ1, XG X tg vs (enc i a) (sl b) ρ1 ∧ XSs X body ρ1 (.nx (sl b'))) ∧ (∀ d, go i b a = .inr d → ∃ vs ρ1 ρ2, XG X tg vs (enc i a) (sl b) ρ1 ∧ XSs X body ρ1 (.rt d ρ2))) →
    (∀ b', runGo go i as b = .inl b' → P b' ∧ LR X tg body (encs enc i as) (sl b) (.nx (sl b'))) ∧ (∀ d, runGo go i as b = .inr d → ∃ ρ, LR X tg body (encs enc i as) (sl b) (.rt d ρ))
  | [], i, b, hb, _ => ⟨fun b' e => (by cases e; exact ⟨hb, .nil⟩), fun d e => (by cases e)⟩
  | a :: as, i, b, hb, h => by
    obtain ⟨h1, h2⟩ := h i a List.mem_cons_self b hb
    unfold runGo
    cases e : go i b a with
    | inl b1 =>
      obtain ⟨p1, vs, ρ1, g1, x1⟩ := h1 b1 e
      obtain ⟨r1, r2⟩ := lr_run as (i + 1) b1 p1 fun j c hc => h j c (List.mem_cons_of_mem _ hc)
      exact ⟨fun b' q => ⟨(r1 b' q).1, .next g1 x1 (r1 b' q).2⟩, fun d q => (r2 d q).elim fun ρ l => ⟨ρ, .next g1 x1 l⟩⟩
    | inr d =>
      obtain ⟨vs, ρ1, ρ2, g1, x1⟩ := h2 d e
      exact ⟨fun b' q => (by cases q), fun d' q => (by cases q; exact ⟨ρ2, .ret g1 x1⟩)⟩
theorem enumD_encs {α : Type} (enc : α → D) (as : List α) : enumD (as.map enc) = encs (fun i a => .tuple [.int (i : Nat), enc a]) 0 as := by
  have : ∀ (as : List α) (i : Nat), (as.map enc).mapIdx (fun j x => PyData.tuple [.int ((j + i : Nat) : Int), x]) = encs (fun i a => .tuple [.int (i : Nat), enc a]) i as := by
    intro as
    induction as with
    | nil => intro i; rfl
    | cons a as ih =>
      intro i
      rw [List.map_cons, List.mapIdx_cons]
      unfold encs
      rw [← ih (i + 1), Nat.zero_add]
      congr 1
      apply List.ext_getElem?
      intro k
      rw [List.getElem?_mapIdx, List.getElem?_mapIdx]
      congr 1
      funext x
      rw [show k + 1 + i = k + (i + 1) by omega]
  exact this as 0
/-! reels as data -/
abbrev eT (xs : List Int) : D := .tuple (xs.map .int)
abbrev eL (xs : List Int) : D := .list (xs.map .int)
structure Reel where
  nexts : List (List Int)
  pics : List Int
abbrev eN (ns : List (List Int)) : D := .tuple (ns.map eT)
abbrev eReel (r : Reel) : D := .tuple [eN r.nexts, eT r.pics]
def eGap : Option Nat → D
  | none => .none
  | some g => .int g
abbrev eRows (rs : List (List Int)) : D := .list (rs.map eL)
/-- a reel as the document says it -/
structure Reel.Ok (r : Reel) : Prop where
  some : 1 ≤ r.nexts.length
  few : r.nexts.length ≤ 6
  pl : r.pics.length = r.nexts.length
  row : ∀ ns ∈ r.nexts, ns ≠ [] ∧ ns.Pairwise (· < ·) ∧ ∀ s ∈ ns, 0 ≤ s ∧ s < r.nexts.length
  pic : ∀ p ∈ r.pics, 0 ≤ p ∧ p ≤ 99
def GapOk : Option Nat → Prop
  | none => True
  | some g => g ≤ 20
/-- the states that may come next -/
def nx (ns : List (List Int)) (s : Int) : List Int := (ns[s.toNat]?).getD []
/-- one step more -/
def grow (ns : List (List Int)) (f : List Int) : List Int := setI (f ++ f.flatMap (nx ns))
def iter {α : Type} (f : α → α) : Nat → α → α
  | 0, x => x
  | n + 1, x => iter f n (f x)
def withinM (ns : List (List Int)) (states : List Int) (gap : Option Nat) : List Int := iter (grow ns) (gap.getD ns.length) (sortI states)
def leapsM (r : Reel) (gap : Option Nat) : List (List Int) := r.nexts.map (fun row => withinM r.nexts row gap) ++ [withinM r.nexts [0] gap]
/-- states that a reel of so many has -/
def In (n : Nat) (xs : List Int) : Prop := ∀ s ∈ xs, 0 ≤ s ∧ s < n
theorem nx_at {ns : List (List Int)} {s : Int} (h0 : 0 ≤ s) (h : s < ns.length) : ns[s.toNat]? = some (nx ns s) := by
  unfold nx
  have : s.toNat < ns.length := by omega
  rw [List.getElem?_eq_getElem this]
  rfl
theorem atI_map {α : Type} {f : α → D} {xs : List α} {i : Int} {x : α} (h0 : 0 ≤ i) (h : xs[i.toNat]? = some x) : atI (xs.map f) i = some (f x) := by
  have e : (i.toNat : Int) = i := by omega
  rw [← e]
  refine atI_nat ?_
  rw [List.getElem?_map, h]
  rfl
theorem lt_count : ∀ {xs : List Int} {a b : Int}, xs.Pairwise (· < ·) → (∀ s ∈ xs, a ≤ s ∧ s < b) → xs.length ≤ (b - a).toNat
  | [], _, _, _, _ => Nat.zero_le _
  | x :: xs, a, b, hp, h => by
    have hp' := List.pairwise_cons.mp hp
    have hx := h x List.mem_cons_self
    have ih := lt_count (a := x + 1) (b := b) hp'.2 fun s hs => ⟨hp'.1 s hs, (h s (List.mem_cons_of_mem _ hs)).2⟩
    rw [List.length_cons]
    omega
theorem lt_len {n : Nat} {xs : List Int} (hp : xs.Pairwise (· < ·)) (hi : In n xs) : xs.length ≤ n := by
  have := lt_count hp (a := 0) (b := n) hi
  omega
theorem grow_in {ns : List (List Int)} {n : Nat} (hn : ∀ r ∈ ns, In n r) {f : List Int} (h : In n f) : In n (grow ns f) := fun s hs => by
  unfold grow at hs
  rw [mem_setI, List.mem_append] at hs
  rcases hs with hs | hs
  · exact h s hs
  · obtain ⟨t, ht, hs⟩ := List.mem_flatMap.mp hs
    unfold nx at hs
    cases e : ns[t.toNat]? with
    | none => rw [e] at hs; cases hs
    | some r => rw [e] at hs; exact hn r (List.mem_of_getElem? e) s hs
theorem iter_inv {α : Type} {f : α → α} {P : α → Prop} (h : ∀ x, P x → P (f x)) {x : α} (h0 : P x) : ∀ n, P (iter f n x)
  | 0 => h0
  | n + 1 => iter_inv h (h x h0) n
theorem within_in {ns : List (List Int)} {n : Nat} (hn : ∀ r ∈ ns, In n r) {st : List Int} (h : In n st) (g : Option Nat) : In n (withinM ns st g) :=
  iter_inv (fun x hx => grow_in hn hx) (fun s hs => h s ((sortI_perm st).mem_iff.mp hs)) _
theorem grow_len {ns : List (List Int)} {f : List Int} (h : In ns.length f) (hn : ∀ r ∈ ns, In ns.length r) : (grow ns f).length ≤ ns.length := lt_len (setI_lt _) (grow_in hn h)
structure NsOk (ns : List (List Int)) : Prop where
  few : ns.length ≤ 6
  row : ∀ r ∈ ns, r.Pairwise (· < ·) ∧ In ns.length r
theorem Reel.Ok.ns {r : Reel} (h : r.Ok) : NsOk r.nexts := ⟨h.few, fun x hx => ⟨(h.row x hx).2.1, (h.row x hx).2.2⟩⟩
theorem nx_mem {ns : List (List Int)} {s : Int} : nx ns s = [] ∨ nx ns s ∈ ns := by
  unfold nx
  cases e : ns[s.toNat]? with
  | none => exact .inl rfl
  | some r => exact .inr (List.mem_of_getElem? e)
theorem flat_len {f : Int → List Int} {k : Nat} : ∀ {l : List Int}, (∀ x ∈ l, (f x).length ≤ k) → (l.flatMap f).length ≤ k * l.length
  | [], _ => by simp
  | a :: l, h => by
    have h1 := h a List.mem_cons_self
    have h2 := flat_len fun x hx => h x (List.mem_cons_of_mem _ hx)
    rw [List.flatMap_cons, List.length_append, List.length_cons, Nat.mul_succ]
    omega
theorem NsOk.nx6 {ns : List (List Int)} (h : NsOk ns) (s : Int) : (nx ns s).length ≤ 6 := by
  rcases nx_mem (ns := ns) (s := s) with e | e
  · rw [e]; exact Nat.zero_le _
  · exact Nat.le_trans (lt_len (h.row _ e).1 (h.row _ e).2) h.few
theorem iter_lt {ns : List (List Int)} {st : List Int} : ∀ n, st.Pairwise (· < ·) → (iter (grow ns) n st).Pairwise (· < ·)
  | 0, h => h
  | n + 1, _ => iter_lt n (setI_lt _)
theorem within_lt {ns : List (List Int)} {st : List Int} (h : st.Pairwise (· < ·)) (g : Option Nat) : (withinM ns st g).Pairwise (· < ·) := by
  refine iter_lt _ ?_
  rw [show sortI st = st from sorted_one (sortI_perm st) (sortI_sorted st) (h.imp fun h => Int.le_of_lt h)]
  exact h
/-- rows of states: what stands behind each state, and ahead of all -/
structure RowsOk (n : Nat) (rows : List (List Int)) : Prop where
  len : rows.length = n + 1
  row : ∀ r ∈ rows, r.Pairwise (· < ·) ∧ In n r
theorem leaps_ok {r : Reel} (h : r.Ok) (g : Option Nat) : RowsOk r.nexts.length (leapsM r g) where
  len := by unfold leapsM; simp
  row := fun x hx => by
    have hin : ∀ r' ∈ r.nexts, In r.nexts.length r' := fun r' hr => (h.ns.row r' hr).2
    unfold leapsM at hx
    rcases List.mem_append.mp hx with hx | hx
    · obtain ⟨y, hy, rfl⟩ := List.mem_map.mp hx
      exact ⟨within_lt (h.ns.row y hy).1 g, within_in hin (h.ns.row y hy).2 g⟩
    · rw [List.mem_singleton.mp hx]
      exact ⟨within_lt (List.pairwise_singleton _ _) g, within_in hin (fun s hs => by
        rw [List.mem_singleton.mp hs]
        have := h.some
        omega) g⟩
def picAt (ps : List Int) (s : Int) : Int := (ps[s.toNat]?).getD 0
/-- the states at a next frame of this picture -/
def stepM (r : Reel) (rows : List (List Int)) (st : List Int) (p : Int) : List Int := setI ((st.flatMap (nx rows)).filter fun a => decide (picAt r.pics a = p))
def StOk (n : Nat) (st : List Int) : Prop := st.Pairwise (· < ·) ∧ In (n + 1) st
theorem step_in {r : Reel} {rows : List (List Int)} {st : List Int} {p : Int} {n : Nat} (h : RowsOk n rows) : In n (stepM r rows st p) := fun s hs => by
  unfold stepM at hs
  rw [mem_setI, List.mem_filter, List.mem_flatMap] at hs
  obtain ⟨⟨t, _, hs⟩, _⟩ := hs
  rcases nx_mem (ns := rows) (s := t) with e | e
  · rw [e] at hs; cases hs
  · exact (h.row _ e).2 s hs
theorem step_ok {r : Reel} {rows : List (List Int)} {st : List Int} {p : Int} {n : Nat} (h : RowsOk n rows) : StOk n (stepM r rows st p) :=
  ⟨setI_lt _, fun s hs => by have := step_in h s hs; omega⟩
/-- how many first frames can be shown -/
def shownM (r : Reel) (rows : List (List Int)) : List Int → List Int → Nat
  | _, [] => 0
  | st, p :: ps => if stepM r rows st p = [] then 0 else 1 + shownM r rows (stepM r rows st p) ps
theorem shown_le (r : Reel) (rows : List (List Int)) : ∀ (film st : List Int), shownM r rows st film ≤ film.length
  | [], _ => Nat.le_refl _
  | p :: ps, st => by
    unfold shownM
    split
    · exact Nat.zero_le _
    · have := shown_le r rows ps (stepM r rows st p)
      rw [List.length_cons]
      omega
def behindM (r : Reel) (rows : List (List Int)) (st : List Int) (film : List Int) : List Int := film.foldl (stepM r rows) st
end DL
set_option Elab.async false
set_option linter.all false
set_option maxRecDepth 100000
set_option maxHeartbeats 2000000
/-! Programs as plain terms over data, what they give, and that this is what the text of the program does. -/
namespace DI
open PySem PySem.Spec PyProof.Rows L2 DL
/-! ### terms -/
mutual
inductive IG where
  | n (k : Nat)
  | t (gs : IGs)
inductive IGs where
  | nil
  | cons (g : IG) (gs : IGs)
end
mutual
inductive IE where
  | v (n : Nat)
  | c (d : D)
  | f (g : List D → Option D) (as : IA)
  | o (e : IO)
  | rd (n : Nat) (g : List D → List D → Option D) (as : IA)
  | rk (n : Nat) (g : List (Key × D) → List D → Option D) (as : IA)
  | rt (n : Nat) (g : List (List Key × D) → List D → Option D) (as : IA)
  | rn (n : Nat) (g : List (D × D) → List D → Option D) (as : IA)
  | up (n : Nat) (g : List D → List D → Option (D × List D)) (as : IA)
  | ife (t : IT) (a b : IE)
  | andE (a b : IE)
  | orE (a b : IE)
  | ch (g1 g2 : List D → Option Bool) (a b c : IE)
inductive IA where
  | nil
  | cons (e : IE) (as : IA)
inductive IO where
  | f (g : List D → Option (List D)) (as : IA)
  | rk (n : Nat) (g : List (Key × D) → List D → Option (List D)) (as : IA)
  | rt (n : Nat) (g : List (List Key × D) → List D → Option (List D)) (as : IA)
  | rn (n : Nat) (g : List (D × D) → List D → Option (List D)) (as : IA)
  | lc (tg : IG) (it : II) (fs : IT) (elt : IE) (vs : List Nat)
  | lc2 (t0 : IG) (i0 : II) (fs0 : IT) (t1 : IG) (i1 : II) (fs1 : IT) (elt : IE) (vs vs1 : List Nat)
inductive IT where
  | tt
  | val (e : IE)
  | cmp (g : List D → Option Bool) (a b : IE)
  | ch (g1 g2 : List D → Option Bool) (a b c : IE)
  | notT (t : IT)
  | andT (a b : IT)
  | orT (a b : IT)
inductive II where
  | f (g : List D → Option (List D)) (as : IA)
end
mutual
inductive IS where
  | set (n : Nat) (e : IE)
  | setO (n : Nat) (e : IO)
  | setF (n : Nat) (e : IO)
  | setM (n : Nat)
  | setT (n : Nat)
  | setN (n : Nat)
  | tup (tg : IG) (e : IE)
  | par (n m : Nat) (a b : IE)
  | parO (n m : Nat) (a : IE) (b : IO)
  | par3 (n m l : Nat) (a : IE) (b : IO) (c : IE)
  | upd (n : Nat) (g : List D → List D → Option (List D)) (as : IA)
  | putK (n : Nat) (a b : IE)
  | putT (n : Nat) (a b : IE)
  | putN (n : Nat) (a b : IE)
  | store (n : Nat) (a b : IE)
  | ex (e : IE)
  | ret (e : IE)
  | ife (t : IT) (a b : ISs)
  | fo (tg : IG) (it : II) (body : ISs) (vs : List Nat)
  | wh (fuel : Nat) (t : IT) (body : ISs) (vs : List Nat)
  | brk
  | cnt
  | pass
  | stuck
inductive ISs where
  | nil
  | cons (s : IS) (ss : ISs)
end
/-! ### what they give -/
mutual
def IG.vs : IG → List Nat
  | .n k => [k]
  | .t gs => gs.vs
def IGs.vs : IGs → List Nat
  | .nil => []
  | .cons g gs => g.vs ++ gs.vs
end
mutual
def evG : IG → D → List Sl → Option (List Sl)
  | .n k, d, ρ => some (ρ.set k (.d d))
  | .t gs, .tuple ds, ρ => evGs gs ds ρ
  | _, _, _ => none
def evGs : IGs → List D → List Sl → Option (List Sl)
  | .nil, [], ρ => some ρ
  | .cons g gs, d :: ds, ρ => (evG g d ρ).bind fun ρ1 => evGs gs ds ρ1
  | _, _, _ => none
end
def ownAt (ρ : List Sl) (n : Nat) : Option (List D) := (ρ[n]?).bind Sl.own
def dicAt (ρ : List Sl) (n : Nat) : Option (List (Key × D)) := match ρ[n]? with
  | some (.m kvs) => some kvs
  | _ => none
def nAt (ρ : List Sl) (n : Nat) : Option (List (D × D)) := match ρ[n]? with
  | some (.n kvs) => some kvs
  | _ => none
def getN (kvs : List (D × D)) (k : NK) : Option D := (kvs.find? fun p => decide (toNT p.1 = some k)).map (·.2)
def putN (kvs : List (D × D)) (k : NK) (d v : D) : List (D × D) := if (getN kvs k).isSome then kvs.map (fun p => if toNT p.1 = some k then (p.1, v) else p) else kvs ++ [(d, v)]
def kdD (kvs : List (Key × D)) : D := mdD (kvs.map fun p => (kD0 p.1, p.2))
def tupAt (ρ : List Sl) (n : Nat) : Option (List (List Key × D)) := match ρ[n]? with
  | some (.t kvs) => some kvs
  | _ => none
/-- a tuple of whole numbers and texts as a key -/
def toKs : List D → Option (List Key)
  | [] => some []
  | .int i :: ds => (toKs ds).map fun ks => .inl i :: ks
  | .str x :: ds => (toKs ds).map fun ks => .inr x :: ks
  | _ => none
def toT : D → Option (List Key)
  | .tuple ds => toKs ds
  | _ => none
/-- a dict by tuples, as data -/
def tdD (kvs : List (List Key × D)) : D := dctD (kvs.map fun p => (.tuple (p.1.map kD0), p.2))
def putAt (ρ : List Sl) (n : Nat) (xs : List D) : List Sl := match ρ[n]? with
  | some s => ρ.set n (s.put xs)
  | none => ρ
/-- the turns of a comprehension: none, if left out -/
def lcGo (f : D → List Sl → Option (Option D × List Sl)) : List D → List Sl → Option (List D × List Sl)
  | [], ρ => some ([], ρ)
  | x :: xs, ρ => (f x ρ).bind fun p => (lcGo f xs p.2).map fun q => (p.1.toList ++ q.1, q.2)
def lc2Go (f : D → List Sl → Option (List D × List Sl)) : List D → List Sl → Option (List D × List Sl)
  | [], ρ => some ([], ρ)
  | x :: xs, ρ => (f x ρ).bind fun p => (lc2Go f xs p.2).map fun q => (p.1 ++ q.1, q.2)
def few (ys : List D) : Bool := decide (ys.length < 1000000)
mutual
def evE : IE → List Sl → Option (D × List Sl)
  | .v n, ρ => match ρ[n]? with
    | some (.d x) => some (x, ρ)
    | some (.o xs) => some (.list xs, ρ.set n (.d (.list xs)))
    | some (.t kvs) => some (tdD kvs, ρ.set n (.d (tdD kvs)))
    | some (.n kvs) => some (ndD kvs, ρ.set n (.d (ndD kvs)))
    | some (.m kvs) => some (kdD kvs, ρ.set n (.d (kdD kvs)))
    | _ => none
  | .c d, ρ => some (d, ρ)
  | .f g as, ρ => (evA as ρ).bind fun p => (g p.1).map fun d => (d, p.2)
  | .o e, ρ => (evO e ρ).map fun p => (.list p.1, p.2)
  | .rd n g as, ρ => (ownAt ρ n).bind fun _ => (evA as ρ).bind fun p => (ownAt p.2 n).bind fun xs => (g xs p.1).map fun d => (d, p.2)
  | .rk n g as, ρ => (dicAt ρ n).bind fun _ => (evA as ρ).bind fun p => (dicAt p.2 n).bind fun xs => (g xs p.1).map fun d => (d, p.2)
  | .rt n g as, ρ => (tupAt ρ n).bind fun _ => (evA as ρ).bind fun p => (tupAt p.2 n).bind fun xs => (g xs p.1).map fun d => (d, p.2)
  | .rn n g as, ρ => (nAt ρ n).bind fun _ => (evA as ρ).bind fun p => (nAt p.2 n).bind fun xs => (g xs p.1).map fun d => (d, p.2)
  | .up n g as, ρ => (ownAt ρ n).bind fun _ => (evA as ρ).bind fun p => (ownAt p.2 n).bind fun xs => (g xs p.1).map fun d => (d.1, putAt p.2 n d.2)
  | .ife t a b, ρ => (evT t ρ).bind fun p => if p.1 = true then evE a p.2 else evE b p.2
  | .andE a b, ρ => (evE a ρ).bind fun p => match p.1 with
    | .bool true => evE b p.2
    | .bool false => some (.bool false, p.2)
    | _ => none
  | .orE a b, ρ => (evE a ρ).bind fun p => match p.1 with
    | .bool false => evE b p.2
    | .bool true => some (.bool true, p.2)
    | _ => none
  | .ch g1 g2 a b c, ρ => (evE a ρ).bind fun p => (evE b p.2).bind fun q => (g1 [p.1, q.1]).bind fun k => if k = true then (evE c q.2).bind fun r => (g2 [q.1, r.1]).map fun k2 => (.bool k2, r.2) else some (.bool false, q.2)
def evA : IA → List Sl → Option (List D × List Sl)
  | .nil, ρ => some ([], ρ)
  | .cons e as, ρ => (evE e ρ).bind fun p => (evA as p.2).map fun q => (p.1 :: q.1, q.2)
def evO : IO → List Sl → Option (List D × List Sl)
  | .f g as, ρ => (evA as ρ).bind fun p => (g p.1).map fun d => (d, p.2)
  | .rk n g as, ρ => (dicAt ρ n).bind fun _ => (evA as ρ).bind fun p => (dicAt p.2 n).bind fun xs => (g xs p.1).map fun d => (d, p.2)
  | .rt n g as, ρ => (tupAt ρ n).bind fun _ => (evA as ρ).bind fun p => (tupAt p.2 n).bind fun xs => (g xs p.1).map fun d => (d, p.2)
  | .rn n g as, ρ => (nAt ρ n).bind fun _ => (evA as ρ).bind fun p => (nAt p.2 n).bind fun xs => (g xs p.1).map fun d => (d, p.2)
  | .lc tg it fs elt vs, ρ => (evI it ρ).bind fun p => (lcGo (fun x ρ => (evG tg x ρ).bind fun ρ1 => (evT fs ρ1).bind fun q => if q.1 = true then (evE elt q.2).map fun r => (some r.1, wipeS r.2 vs) else some (none, wipeS q.2 vs)) p.1 (wipeS p.2 vs)).bind fun r => if few r.1 = true then some (r.1, backS p.2 r.2 vs) else none
  | .lc2 t0 i0 fs0 t1 i1 fs1 elt vs vs1, ρ => (evI i0 ρ).bind fun p => (lc2Go (fun x ρ => (evG t0 x ρ).bind fun ρ1 => (evT fs0 ρ1).bind fun q => if q.1 = true then (evI i1 q.2).bind fun u =>
      (lcGo (fun x ρ => (evG t1 x ρ).bind fun ρ1 => (evT fs1 ρ1).bind fun q => if q.1 = true then (evE elt q.2).map fun r => (some r.1, wipeS r.2 vs1) else some (none, wipeS q.2 vs1)) u.1 (wipeS u.2 vs1)).map fun r => (r.1, wipeS r.2 vs) else some ([], wipeS q.2 vs)) p.1 (wipeS p.2 vs)).bind fun r => if few r.1 = true then some (r.1, backS p.2 r.2 vs) else none
def evT : IT → List Sl → Option (Bool × List Sl)
  | .tt, ρ => some (true, ρ)
  | .val e, ρ => (evE e ρ).bind fun p => match p.1 with
    | .bool b => some (b, p.2)
    | _ => none
  | .cmp g a b, ρ => (evE a ρ).bind fun p => (evE b p.2).bind fun q => (g [p.1, q.1]).map fun k => (k, q.2)
  | .ch g1 g2 a b c, ρ => (evE a ρ).bind fun p => (evE b p.2).bind fun q => (g1 [p.1, q.1]).bind fun k => if k = true then (evE c q.2).bind fun r => (g2 [q.1, r.1]).map fun k2 => (k2, r.2) else some (false, q.2)
  | .notT t, ρ => (evT t ρ).map fun p => (!p.1, p.2)
  | .andT a b, ρ => (evT a ρ).bind fun p => if p.1 = true then evT b p.2 else some (false, p.2)
  | .orT a b, ρ => (evT a ρ).bind fun p => if p.1 = true then some (true, p.2) else evT b p.2
def evI : II → List Sl → Option (List D × List Sl)
  | .f g as, ρ => (evA as ρ).bind fun p => (g p.1).map fun d => (d, p.2)
end
/-- the turns of a for -/
def foGo (f : D → List Sl → Option Out) : List D → List Sl → Option Out
  | [], ρ => some (.nx ρ)
  | x :: xs, ρ => (f x ρ).bind fun o => match o with
    | .nx ρ' => foGo f xs ρ'
    | .ct ρ' => foGo f xs ρ'
    | .bk ρ' => some (.nx ρ')
    | .rt d ρ' => some (.rt d ρ')
def whGo (t : List Sl → Option (Bool × List Sl)) (f : List Sl → Option Out) : Nat → List Sl → Option Out
  | 0, ρ => (t ρ).bind fun p => if p.1 = true then none else some (.nx p.2)
  | n + 1, ρ => (t ρ).bind fun p => if p.1 = true then (f p.2).bind fun o => match o with
    | .nx ρ' => whGo t f n ρ'
    | .ct ρ' => whGo t f n ρ'
    | .bk ρ' => some (.nx ρ')
    | .rt d ρ' => some (.rt d ρ') else some (.nx p.2)
def wipeO (vs : List Nat) : Out → Out
  | .nx ρ => .nx (wipeS ρ vs)
  | .ct ρ => .ct (wipeS ρ vs)
  | .bk ρ => .bk (wipeS ρ vs)
  | .rt d ρ => .rt d ρ
mutual
def evS : IS → List Sl → Option Out
  | .set n e, ρ => (evE e ρ).map fun p => .nx (p.2.set n (.d p.1))
  | .setO n e, ρ => (evO e ρ).map fun p => .nx (p.2.set n (.o p.1))
  | .setF n e, ρ => (evO e ρ).map fun p => .nx (p.2.set n (.d (.list p.1)))
  | .setM n, ρ => some (.nx (ρ.set n (.m [])))
  | .setT n, ρ => some (.nx (ρ.set n (.t [])))
  | .setN n, ρ => some (.nx (ρ.set n (.n [])))
  | .tup tg e, ρ => (evE e ρ).bind fun p => (evG tg p.1 p.2).map .nx
  | .par n m a b, ρ => (evE a ρ).bind fun p => (evE b p.2).map fun q => .nx ((q.2.set n (.d p.1)).set m (.d q.1))
  | .parO n m a b, ρ => (evE a ρ).bind fun p => (evO b p.2).map fun q => .nx ((q.2.set n (.d p.1)).set m (.o q.1))
  | .par3 n m l a b c, ρ => (evE a ρ).bind fun p => (evO b p.2).bind fun q => (evE c q.2).map fun r => .nx (((r.2.set n (.d p.1)).set m (.o q.1)).set l (.d r.1))
  | .upd n g as, ρ => (ownAt ρ n).bind fun _ => (evA as ρ).bind fun p => (ownAt p.2 n).bind fun xs => (g xs p.1).map fun ys => .nx (putAt p.2 n ys)
  | .store n a b, ρ => (evE a ρ).bind fun p => (ownAt p.2 n).bind fun _ => (evE b p.2).bind fun q => (ownAt q.2 n).bind fun xs => match q.1 with
    | .int i => (ixN xs.length i).map fun m => .nx (putAt q.2 n (xs.set m p.1))
    | _ => none
  | .putK n a b, ρ => (evE a ρ).bind fun p => (dicAt p.2 n).bind fun _ => (evE b p.2).bind fun q => (dicAt q.2 n).bind fun kvs => if kvs.length ≤ 1000000 then match q.1 with
    | .int i => some (.nx (q.2.set n (.m (putD kvs (.inl i) p.1))))
    | .str x => some (.nx (q.2.set n (.m (putD kvs (.inr x) p.1))))
    | _ => none else none
  | .putT n a b, ρ => (evE a ρ).bind fun p => (tupAt p.2 n).bind fun _ => (evE b p.2).bind fun q => (tupAt q.2 n).bind fun kvs => if kvs.length ≤ 1000000 then (toT q.1).map fun ks => .nx (q.2.set n (.t (putD kvs ks p.1))) else none
  | .putN n a b, ρ => (evE a ρ).bind fun p => (nAt p.2 n).bind fun _ => (evE b p.2).bind fun q => (nAt q.2 n).bind fun kvs => if kvs.length ≤ 1000000 then (toNT q.1).map fun k => .nx (q.2.set n (.n (putN kvs k q.1 p.1))) else none
  | .ex e, ρ => (evE e ρ).map fun p => .nx p.2
  | .ret e, ρ => (evE e ρ).map fun p => .rt p.1 p.2
  | .ife t a b, ρ => (evT t ρ).bind fun p => if p.1 = true then evSs a p.2 else evSs b p.2
  | .fo tg it body vs, ρ => (evI it ρ).bind fun p => foGo (fun x ρ => (evG tg x ρ).bind fun ρ1 => (evSs body ρ1).map (wipeO vs)) p.1 (wipeS p.2 vs)
  | .wh fuel t body vs, ρ => whGo (evT t) (fun ρ => (evSs body ρ).map (wipeO vs)) fuel (wipeS ρ vs)
  | .brk, ρ => some (.bk ρ)
  | .cnt, ρ => some (.ct ρ)
  | .pass, ρ => some (.nx ρ)
  | .stuck, _ => none
def evSs : ISs → List Sl → Option Out
  | .nil, ρ => some (.nx ρ)
  | .cons s ss, ρ => (evS s ρ).bind fun o => match o with
    | .nx ρ1 => evSs ss ρ1
    | o => some o
end
def runD (n : Nat) (body : ISs) (ds : List D) : Option D := (evSs body (startS n (args ds))).bind fun o => match o with
  | .rt d _ => some d
  | .nx _ => some .none
  | _ => none
end DI
set_option Elab.async false
set_option linter.all false
set_option maxRecDepth 100000
set_option maxHeartbeats 2000000
namespace DI
open PySem PySem.Spec PyProof.Rows L2 DL
theorem bnd {α β : Type} {o : Option α} {f : α → Option β} {b : β} (h : o.bind f = some b) : ∃ a, o = some a ∧ f a = some b := Option.bind_eq_some_iff.mp h
theorem mp {α β : Type} {o : Option α} {f : α → β} {b : β} (h : o.map f = some b) : ∃ a, o = some a ∧ f a = b := Option.map_eq_some_iff.mp h
/-! ### that the text does so -/
def CE (X : Cx) (e : Expr) (i : IE) : Prop := ∀ ρ d ρ', evE i ρ = some (d, ρ') → XE X e ρ d ρ'
def CA (X : Cx) (es : List Expr) (i : IA) : Prop := ∀ ρ ds ρ', evA i ρ = some (ds, ρ') → XA X es ρ ds ρ'
def CO (X : Cx) (e : Expr) (i : IO) : Prop := ∀ ρ xs ρ', evO i ρ = some (xs, ρ') → XO X e ρ xs ρ'
def CT (X : Cx) (e : Expr) (i : IT) : Prop := ∀ ρ b ρ', evT i ρ = some (b, ρ') → XT X e ρ b ρ'
def CTs (X : Cx) (es : List Expr) (i : IT) : Prop := ∀ ρ b ρ', evT i ρ = some (b, ρ') → XTs X es ρ b ρ'
def CI (X : Cx) (tg e : Expr) (i : II) : Prop := ∀ ρ xs ρ', evI i ρ = some (xs, ρ') → XI X tg e ρ xs ρ'
def CG (X : Cx) (e : Expr) (i : IG) : Prop := ∀ d ρ ρ', evG i d ρ = some ρ' → XG X e i.vs d ρ ρ'
def CGs (X : Cx) (es : List Expr) (i : IGs) : Prop := ∀ ds ρ ρ', evGs i ds ρ = some ρ' → XGs X es i.vs ds ρ ρ'
def CS (X : Cx) (s : Stmt) (i : IS) : Prop := ∀ ρ o, evS i ρ = some o → XS X s ρ o
def CSs (X : Cx) (s : List Stmt) (i : ISs) : Prop := ∀ ρ o, evSs i ρ = some o → XSs X s ρ o
section
variable {X : Cx} {e a b c : Expr} {es : List Expr} {ia ib ic : IE} {as : IA} {io : IO} {it ta tb : IT} {ii : II} {pos : Pos} {nm : Str} {g : List D → Option D}
/-! names, constants -/
theorem td_rp {K : PySem.W.Frag} {F : Hp} {p : Addr} {o : Obj} {vvs : List (List Key × V)} {kvs : List (List Key × D)} (h : F p = some (.frz o (.dT vvs))) (h1 : vvs.map (·.1) = kvs.map (·.1)) (h2 : Rps K F (vvs.map (·.2)) (kvs.map (·.2))) : Rp K F (.ref p) (tdD kvs) := by
  refine .dct h ?_ ?_
  · have e : vvs.map (fun p => PyData.tuple (p.1.map kD0)) = (vvs.map (·.1)).map fun ks => PyData.tuple (ks.map kD0) := by rw [List.map_map]; rfl
    rw [e, h1, List.map_map, List.map_map]
    rfl
  · rw [List.map_map]
    exact h2
/-- a thing of one's own is known from now on -/
def tHold (te : TE) : TE := fun σ H Q => te σ H fun x H1 => ∃ d u, x = .ref d ∧ H1 d = some u ∧ Mut (some u) ∧ ∀ od, Q x (upd H1 d (.frz od u))
theorem pe_hold {X : Cx} {e : Expr} {te : TE} (he : PE X e te) : PE X e (tHold te) :=
  ⟨fun pins s σ H Q I h => thn (he.run pins s σ H _ I h) fun w s1 ⟨x, H1, I1, r1, d, u, ex, e, mu, q⟩ => by
    obtain ⟨od, I2⟩ := I1.lock e mu
    exact ⟨x, _, I2, r1, q od⟩⟩
theorem xe_holdW (n : Nat) {nm : Str} {ρ : List Sl} {s0 : Sl} {w : Own} {d0 : D} (hr : ρ[n]? = some s0) (hw : s0.has = some w) (hrp : ∀ (F : Hp) (p : Addr) (ho : HO) (od : Obj), w.At X.K F p ho → F p = some (.frz od ho) → Rp X.K F (.ref p) d0) (hN : X.N[n]? = some nm := by rfl) (hv : Vis X.env.scope nm := by first | exact Or.inl rfl | exact Or.inr (Or.inl rfl) | exact Or.inr (Or.inr rfl))
    (hd : (nm == ("__debug__" : Str)) = false := by decide) (hcd : (nm == ("__classdict__" : Str)) = false := by decide) : XE X (.Name nm pos) ρ d0 (ρ.set n (.d d0)) :=
  .of (pe_hold (pe_var hN hv hd hcd)) fun F0 G F H σ k Q q => by
    obtain ⟨p, ho, e1, e2, e3, e4, at0⟩ := k.has n _ _ hr hw
    refine ⟨.ref p, e1, p, _, rfl, e2, at0.mut, fun od => ?_⟩
    have s1 : Same F (upd F p (.frz od ho)) := fun b u e => by rw [upd_ne (ne_of_none e e3)]; exact e
    have rp : Rp X.K (upd F p (.frz od ho)) (.ref p) d0 := hrp _ p ho od (at0.mono s1) upd_same
    have hn : n < ρ.length := (List.getElem?_eq_some_iff.mp hr).1
    refine q (.ref p) (upd F p (.frz od ho)) (upd H p (.frz od ho)) ⟨by rw [List.length_set]; exact k.len, fun b u e => ?_, fun b u e => ?_, fun b hb => ?_, fun i y h => ?_, fun i a' ys h => ?_, fun i s ys h1 h2 => ?_, fun i j s t ys zs a h1 h2 h3 h4 => ?_⟩ s1 rp
    · by_cases hbp : b = p
      · subst hbp; rw [upd_same] at e ⊢; exact e
      · rw [upd_ne hbp] at e ⊢; exact k.fh b u e
    · rw [upd_ne (fun z => by rw [z, e4] at e; cases e)]; exact k.gh b u e
    · rw [upd_ne (mut_ne e4 hb)]; exact k.g0 b hb
    · by_cases hi : i = n
      · subst hi
        rw [List.getElem?_set_self hn] at h
        cases h
        exact ⟨.ref p, e1, rp⟩
      · rw [List.getElem?_set_ne (Ne.symm hi)] at h
        obtain ⟨v, q1, q2⟩ := k.dat i y h
        exact ⟨v, q1, rp_mono s1 _ _ q2⟩
    · by_cases hi : i = n
      · subst hi
        rw [List.getElem?_set_self hn] at h
        cases h
      · rw [List.getElem?_set_ne (Ne.symm hi)] at h
        exact k.bor i a' ys h
    · by_cases hi : i = n
      · subst hi
        rw [List.getElem?_set_self hn] at h1
        cases h1
        cases h2
      · rw [List.getElem?_set_ne (Ne.symm hi)] at h1
        obtain ⟨a, ws, q1, q2, q3, q4, q5⟩ := k.has i s ys h1 h2
        have hap : a ≠ p := fun z => hi (k.djh i n s s0 ys w p h1 h2 hr hw (by rw [q1, z]) e1)
        exact ⟨a, ws, q1, by rw [upd_ne hap]; exact q2, by rw [upd_ne hap]; exact q3, q4, q5.mono s1⟩
    · by_cases hi : i = n
      · subst hi
        rw [List.getElem?_set_self hn] at h1
        cases h1; cases h2
      · by_cases hj : j = n
        · subst hj
          rw [List.getElem?_set_self hn] at h3
          cases h3; cases h4
        · rw [List.getElem?_set_ne (Ne.symm hi)] at h1
          rw [List.getElem?_set_ne (Ne.symm hj)] at h3
          exact k.djh i j s t ys zs a h1 h2 h3 h4
theorem nd_rp {K : PySem.W.Frag} {F : Hp} {p : Addr} {o : Obj} {xs : List (NK × Addr × V)} {kvs : List (D × D)} (h : F p = some (.frz o (NO p xs))) (h1 : NPair K F xs kvs) : Rp K F (.ref p) (ndD kvs) := by
  obtain ⟨i1, i2, i3⟩ := h1.data
  exact .dcn h i1 i2 i3
theorem kd_rp {K : PySem.W.Frag} {F : Hp} {p : Addr} {o : Obj} {vvs : List (Key × V)} {kvs : List (Key × D)} (h : F p = some (.frz o (.dK vvs))) (h1 : vvs.map (·.1) = kvs.map (·.1)) (h2 : Rps K F (vvs.map (·.2)) (kvs.map (·.2))) : Rp K F (.ref p) (kdD kvs) := by
  refine .dck h ?_ ?_
  · have e : vvs.map (fun p => kD0 p.1) = (vvs.map (·.1)).map kD0 := by rw [List.map_map]; rfl
    rw [e, h1, List.map_map, List.map_map]
    rfl
  · rw [List.map_map]
    exact h2
theorem ce_var (n : Nat) (hN : X.N[n]? = some nm := by rfl) (hv : Vis X.env.scope nm := by first | exact Or.inl rfl | exact Or.inr (Or.inl rfl) | exact Or.inr (Or.inr rfl))
    (hd : (nm == ("__debug__" : Str)) = false := by decide) (hcd : (nm == ("__classdict__" : Str)) = false := by decide) : CE X (.Name nm pos) (.v n) := fun ρ d ρ' h => by
  unfold evE at h
  split at h
  · rename_i x hx
    cases h
    exact xe_var n hx hN hv hd hcd
  · rename_i x hx
    cases h
    exact xe_varO n hx hN hv hd hcd
  · rename_i x hx
    cases h
    exact xe_holdW n hx rfl (fun F p ho od hat hF => by obtain ⟨vvs, rfl, e5, e6⟩ := hat; exact td_rp hF e5 e6) hN hv hd hcd
  · rename_i x hx
    cases h
    exact xe_holdW n hx rfl (fun F p ho od hat hF => by obtain ⟨vvs, rfl, e5⟩ := hat; exact nd_rp hF e5) hN hv hd hcd
  · rename_i x hx
    cases h
    exact xe_holdW n hx rfl (fun F p ho od hat hF => by obtain ⟨vvs, rfl, e5, e6⟩ := hat; exact kd_rp hF e5 e6) hN hv hd hcd
  · cases h
theorem ce_int {n : Nat} {i : Int} : CE X (.Constant (.int i) n pos) (.c (.int i)) := fun ρ d ρ' h => by cases h; exact xe_int
theorem ce_bl {n : Nat} {i : Bool} : CE X (.Constant (.bool i) n pos) (.c (.bool i)) := fun ρ d ρ' h => by cases h; exact xe_bl
theorem ce_none {n : Nat} : CE X (.Constant .none n pos) (.c .none) := fun ρ d ρ' h => by cases h; exact xe_none
theorem ce_str {n : Nat} {i : Str} : CE X (.Constant (.str i) n pos) (.c (.str i)) := fun ρ d ρ' h => by cases h; exact xe_str
theorem ce_glob {i : Int} {t : Tok} (hm : X.mg nm = some (.int i t)) (hg : Gl X nm := by rfl) (hd : (nm == ("__debug__" : Str)) = false := by decide) : CE X (.Name nm pos) (.c (.int i)) := fun ρ d ρ' h => by cases h; exact xe_globI hg hm hd
/-! arguments -/
theorem ca_nil : CA X [] .nil := fun ρ ds ρ' h => by cases h; exact xa_nil
theorem ca_cons (h1 : CE X e ia) (h2 : CA X es as) (hs : starEach (e :: es) X.env = (false, eval e X.env) :: starEach es X.env := by rfl) : CA X (e :: es) (.cons ia as) := fun ρ ds ρ' h => by
  unfold evA at h
  obtain ⟨p, e1, h⟩ := bnd h
  obtain ⟨q, e2, h⟩ := mp h
  cases h
  exact xa_cons (h1 _ _ _ e1) (h2 _ _ _ e2) hs
theorem a1 {ρ ρ' : List Sl} {ds : List D} (h : evA (.cons ia .nil) ρ = some (ds, ρ')) : ∃ x, ds = [x] ∧ evE ia ρ = some (x, ρ') := by
  unfold evA at h
  obtain ⟨p, e1, h⟩ := bnd h
  obtain ⟨q, e2, h⟩ := mp h
  unfold evA at e2
  cases e2; cases h
  exact ⟨_, rfl, e1⟩
theorem a2 {ρ ρ' : List Sl} {ds : List D} (h : evA (.cons ia (.cons ib .nil)) ρ = some (ds, ρ')) : ∃ x y ρ1, ds = [x, y] ∧ evE ia ρ = some (x, ρ1) ∧ evE ib ρ1 = some (y, ρ') := by
  unfold evA at h
  obtain ⟨p, e1, h⟩ := bnd h
  obtain ⟨q, e2, h⟩ := mp h
  obtain ⟨y, e3, e4⟩ := a1 e2
  cases h
  exact ⟨_, _, _, by rw [e3], e1, e4⟩
theorem a3 {ρ ρ' : List Sl} {ds : List D} (h : evA (.cons ia (.cons ib (.cons ic .nil))) ρ = some (ds, ρ')) : ∃ x y z ρ1 ρ2, ds = [x, y, z] ∧ evE ia ρ = some (x, ρ1) ∧ evE ib ρ1 = some (y, ρ2) ∧ evE ic ρ2 = some (z, ρ') := by
  unfold evA at h
  obtain ⟨p, e1, h⟩ := bnd h
  obtain ⟨q, e2, h⟩ := mp h
  obtain ⟨y, z, ρ2, e3, e4, e5⟩ := a2 e2
  cases h
  exact ⟨_, _, _, _, _, by rw [e3], e1, e4, e5⟩
theorem ff {as : IA} {ρ ρ' : List Sl} {d : D} (h : evE (.f g as) ρ = some (d, ρ')) : ∃ ds, evA as ρ = some (ds, ρ') ∧ g ds = some d := by
  unfold evE at h
  obtain ⟨p, e1, h⟩ := bnd h
  obtain ⟨q, e2, h⟩ := mp h
  cases h
  exact ⟨_, e1, e2⟩
theorem fo {g : List D → Option (List D)} {as : IA} {ρ ρ' : List Sl} {d : List D} (h : evO (.f g as) ρ = some (d, ρ')) : ∃ ds, evA as ρ = some (ds, ρ') ∧ g ds = some d := by
  unfold evO at h
  obtain ⟨p, e1, h⟩ := bnd h
  obtain ⟨q, e2, h⟩ := mp h
  cases h
  exact ⟨_, e1, e2⟩
theorem fi {g : List D → Option (List D)} {as : IA} {ρ ρ' : List Sl} {d : List D} (h : evI (.f g as) ρ = some (d, ρ')) : ∃ ds, evA as ρ = some (ds, ρ') ∧ g ds = some d := by
  unfold evI at h
  obtain ⟨p, e1, h⟩ := bnd h
  obtain ⟨q, e2, h⟩ := mp h
  cases h
  exact ⟨_, e1, e2⟩
theorem ce_o (h1 : CO X e io) : CE X e (.o io) := fun ρ d ρ' h => by
  unfold evE at h
  obtain ⟨p, e1, h⟩ := mp h
  cases h
  exact (h1 _ _ _ e1).xe
/-! operators -/
theorem ce_bin {op : Operator} (hb : ∀ x y z, g [x, y] = some z → BR X (binaryOp op) x y z) (h1 : CE X a ia) (h2 : CE X b ib) : CE X (.BinOp a op b pos) (.f g (.cons ia (.cons ib .nil))) := fun ρ d ρ' h => by
  obtain ⟨ds, e1, e2⟩ := ff h
  obtain ⟨x, y, ρ1, rfl, e3, e4⟩ := a2 e1
  exact xe_op (hb _ _ _ e2) (h1 _ _ _ e3) (h2 _ _ _ e4)
theorem ce_cmp {op : CmpOp} {g : List D → Option Bool} (hb : ∀ x y z, g [x, y] = some z → BR X (compareOp op) x y (.bool z)) (h1 : CE X a ia) (h2 : CE X b ib) (hm : behindInMarks op b = false := by first | exact nomark _ | with_unfolding_all rfl) : CE X (.Compare a [op] [b] pos) (.f (fun ds => (g ds).map .bool) (.cons ia (.cons ib .nil))) := fun ρ d ρ' h => by
  obtain ⟨ds, e1, e2⟩ := ff h
  obtain ⟨x, y, ρ1, rfl, e3, e4⟩ := a2 e1
  obtain ⟨z, e5, rfl⟩ := mp e2
  exact xe_cmp (hb _ _ _ e5) (h1 _ _ _ e3) (h2 _ _ _ e4) hm
theorem ct_cmp {op : CmpOp} {g : List D → Option Bool} (hb : ∀ x y z, g [x, y] = some z → BR X (compareOp op) x y (.bool z)) (h1 : CE X a ia) (h2 : CE X b ib) (hm : behindInMarks op b = false := by first | exact nomark _ | with_unfolding_all rfl) : CT X (.Compare a [op] [b] pos) (.cmp g ia ib) := fun ρ d ρ' h => by
  unfold evT at h
  obtain ⟨p, e1, h⟩ := bnd h
  obtain ⟨q, e2, h⟩ := bnd h
  obtain ⟨z, e3, h⟩ := mp h
  cases h
  exact xt_cmp (hb _ _ _ e3) (h1 _ _ _ e1) (h2 _ _ _ e2) hm
theorem xe_chain2 {x y : D} {ρ ρ1 ρ2 ρ3 : List Sl} {op op' : CmpOp} {k1 : Bool} {z : D} (h : BR X (compareOp op) x y (.bool k1)) (ha : XE X a ρ x ρ1) (hb : XE X b ρ1 y ρ2) (hc : k1 = true → ∃ u, BR X (compareOp op') y u z ∧ XE X c ρ2 u ρ3) (hn : k1 = false → z = .bool false ∧ ρ3 = ρ2) (hm2 : lastMarks [op, op'] [b, c] = false) (o' : ∃ r, OpR X (compareOp op') r) :
    XE X (.Compare a [op, op'] [b, c] pos) ρ z ρ3 := by
  obtain ⟨r, o, g⟩ := h
  cases k1 with
  | true =>
    obtain ⟨u, ⟨r', o', g'⟩, hc⟩ := hc rfl
    exact .of (pe_chain o o' (pcE a) (pcE b) (pcE c) hm2) fun F0 G F H σ k Q q => ha F0 G F H σ k _ fun v F1 H1 kk1 f1 d1 => hb F0 G F1 H1 σ kk1 _ fun w F2 H2 kk2 f2 d2 =>
      g F2 H2 v w _ kk2.fh (rp_mono f2 _ _ d1) d2 fun u F3 H3 gr d3 => by
        cases d3
        refine ⟨true, rfl, ?_⟩
        rw [if_pos rfl]
        refine hc F0 G F3 H3 σ (kk2.gr gr) _ fun u F4 H4 kk4 f4 d4 => ?_
        exact g' F4 H4 w u Q kk4.fh (rp_mono (gr.f.trans f4) _ _ d2) d4 fun u F5 H5 gr5 d5 => q u F5 H5 (kk4.gr gr5) ((((f1.trans f2).trans gr.f).trans f4).trans gr5.f) d5
  | false =>
    obtain ⟨rfl, rfl⟩ := hn rfl
    obtain ⟨r', o'⟩ := o'
    exact .of (pe_chain o o' (pcE a) (pcE b) (pcE c) hm2) fun F0 G F H σ k Q q => ha F0 G F H σ k _ fun v F1 H1 kk1 f1 d1 => hb F0 G F1 H1 σ kk1 _ fun w F2 H2 kk2 f2 d2 =>
      g F2 H2 v w _ kk2.fh (rp_mono f2 _ _ d1) d2 fun u F3 H3 gr d3 => by
        cases d3
        refine ⟨false, rfl, ?_⟩
        rw [if_neg Bool.false_ne_true]
        exact q _ F3 H3 (kk2.gr gr) ((f1.trans f2).trans gr.f) (.bl _)
theorem xt_chain2 {x y : D} {ρ ρ1 ρ2 ρ3 : List Sl} {op op' : CmpOp} {k1 k2 : Bool} (h : BR X (compareOp op) x y (.bool k1)) (ha : XE X a ρ x ρ1) (hb : XE X b ρ1 y ρ2) (hc : k1 = true → ∃ u, BR X (compareOp op') y u (.bool k2) ∧ XE X c ρ2 u ρ3) (hn : k1 = false → k2 = false ∧ ρ3 = ρ2) (hm2 : lastMarks [op, op'] [b, c] = false) (o' : ∃ r, OpR X (compareOp op') r) :
    XT X (.Compare a [op, op'] [b, c] pos) ρ k2 ρ3 := by
  obtain ⟨r, o, g⟩ := h
  cases k1 with
  | true =>
    obtain ⟨u, ⟨r', o', g'⟩, hc⟩ := hc rfl
    exact .of (pt_chain o o' (pcE a) (pcE b) (pcE c) hm2) fun F0 G F H σ k Q q => ha F0 G F H σ k _ fun v F1 H1 kk1 f1 d1 => hb F0 G F1 H1 σ kk1 _ fun w F2 H2 kk2 f2 d2 =>
      g F2 H2 v w _ kk2.fh (rp_mono f2 _ _ d1) d2 fun u F3 H3 gr d3 => by
        cases d3
        refine ⟨true, rfl, ?_⟩
        rw [if_pos rfl]
        refine hc F0 G F3 H3 σ (kk2.gr gr) _ fun u F4 H4 kk4 f4 d4 => ?_
        exact g' F4 H4 w u _ kk4.fh (rp_mono (gr.f.trans f4) _ _ d2) d4 fun u F5 H5 gr5 d5 => by
          cases d5
          exact ⟨k2, rfl, q F5 H5 (kk4.gr gr5) ((((f1.trans f2).trans gr.f).trans f4).trans gr5.f)⟩
  | false =>
    obtain ⟨rfl, rfl⟩ := hn rfl
    obtain ⟨r', o'⟩ := o'
    exact .of (pt_chain o o' (pcE a) (pcE b) (pcE c) hm2) fun F0 G F H σ k Q q => ha F0 G F H σ k _ fun v F1 H1 kk1 f1 d1 => hb F0 G F1 H1 σ kk1 _ fun w F2 H2 kk2 f2 d2 =>
      g F2 H2 v w _ kk2.fh (rp_mono f2 _ _ d1) d2 fun u F3 H3 gr d3 => by
        cases d3
        refine ⟨false, rfl, ?_⟩
        rw [if_neg Bool.false_ne_true]
        exact ⟨false, rfl, q F3 H3 (kk2.gr gr) ((f1.trans f2).trans gr.f)⟩
theorem ce_ch {op op' : CmpOp} {g1 g2 : List D → Option Bool} (hb : ∀ x y z, g1 [x, y] = some z → BR X (compareOp op) x y (.bool z)) (hb2 : ∀ x y z, g2 [x, y] = some z → BR X (compareOp op') x y (.bool z)) (o' : ∃ r, OpR X (compareOp op') r) (h1 : CE X a ia) (h2 : CE X b ib) (h3 : CE X c ic) (hm2 : lastMarks [op, op'] [b, c] = false := by with_unfolding_all rfl) :
    CE X (.Compare a [op, op'] [b, c] pos) (.ch g1 g2 ia ib ic) := fun ρ d ρ' h => by
  unfold evE at h
  obtain ⟨p, e1, h⟩ := bnd h
  obtain ⟨q, e2, h⟩ := bnd h
  obtain ⟨k, e3, h⟩ := bnd h
  cases k with
  | true =>
    rw [if_pos rfl] at h
    obtain ⟨r, e4, h⟩ := bnd h
    obtain ⟨k2, e5, h⟩ := mp h
    cases h
    exact xe_chain2 (hb _ _ _ e3) (h1 _ _ _ e1) (h2 _ _ _ e2) (fun _ => ⟨_, hb2 _ _ _ e5, h3 _ _ _ e4⟩) (fun z => by cases z) hm2 o'
  | false =>
    rw [if_neg Bool.false_ne_true] at h
    cases h
    exact xe_chain2 (hb _ _ _ e3) (h1 _ _ _ e1) (h2 _ _ _ e2) (fun z => by cases z) (fun _ => ⟨rfl, rfl⟩) hm2 o'
theorem ct_ch {op op' : CmpOp} {g1 g2 : List D → Option Bool} (hb : ∀ x y z, g1 [x, y] = some z → BR X (compareOp op) x y (.bool z)) (hb2 : ∀ x y z, g2 [x, y] = some z → BR X (compareOp op') x y (.bool z)) (o' : ∃ r, OpR X (compareOp op') r) (h1 : CE X a ia) (h2 : CE X b ib) (h3 : CE X c ic) (hm2 : lastMarks [op, op'] [b, c] = false := by with_unfolding_all rfl) :
    CT X (.Compare a [op, op'] [b, c] pos) (.ch g1 g2 ia ib ic) := fun ρ d ρ' h => by
  unfold evT at h
  obtain ⟨p, e1, h⟩ := bnd h
  obtain ⟨q, e2, h⟩ := bnd h
  obtain ⟨k, e3, h⟩ := bnd h
  cases k with
  | true =>
    rw [if_pos rfl] at h
    obtain ⟨r, e4, h⟩ := bnd h
    obtain ⟨k2, e5, h⟩ := mp h
    cases h
    exact xt_chain2 (hb _ _ _ e3) (h1 _ _ _ e1) (h2 _ _ _ e2) (fun _ => ⟨_, hb2 _ _ _ e5, h3 _ _ _ e4⟩) (fun z => by cases z) hm2 o'
  | false =>
    rw [if_neg Bool.false_ne_true] at h
    cases h
    exact xt_chain2 (hb _ _ _ e3) (h1 _ _ _ e1) (h2 _ _ _ e2) (fun z => by cases z) (fun _ => ⟨rfl, rfl⟩) hm2 o'
/-! truth -/
theorem ct_val (h1 : CE X e ia) (he : ∀ whole, isTrue e X.env whole = (do let v ← whole; standAt e.pos; holding [v] (truthy v)) := by intro _; rfl) : CT X e (.val ia) := fun ρ d ρ' h => by
  unfold evT at h
  obtain ⟨p, e1, h⟩ := bnd h
  split at h
  · rename_i b hb
    cases h
    have e2 := h1 _ _ _ e1
    rw [hb] at e2
    exact xt_val e2 he
  · cases h
theorem ct_not (h1 : CT X a ta) : CT X (.UnaryOp .Not a pos) (.notT ta) := fun ρ d ρ' h => by
  unfold evT at h
  obtain ⟨p, e1, h⟩ := mp h
  cases h
  exact xt_not (h1 _ _ _ e1)
/-- a test with what stands behind it -/
def XW (X : Cx) (e : Expr) (ρ : List Sl) (b : Bool) (ρ' : List Sl) : Prop := ∃ t : TT, PW X e t ∧ ∀ (F0 G F H : Hp) (σ : L2.St), Ok X.K F0 G F H σ ρ → ∀ Q : Bool → Hp → Prop, (∀ F' H', Ok X.K F0 G F' H' σ ρ' → Same F F' → Q b H') → t σ H Q
def CW (X : Cx) (e : Expr) (i : IT) : Prop := ∃ t : TT, PW X e t ∧ ∀ ρ b ρ', evT i ρ = some (b, ρ') → ∀ (F0 G F H : Hp) (σ : L2.St), Ok X.K F0 G F H σ ρ → ∀ Q : Bool → Hp → Prop, (∀ F' H', Ok X.K F0 G F' H' σ ρ' → Same F F' → Q b H') → t σ H Q
theorem cw_t (h : CW X e it) : CT X e it := fun ρ b ρ' q => by
  obtain ⟨t, p, g⟩ := h
  exact .of p.pt (g ρ b ρ' q)
theorem cw_and1 (h : CT X a ta) : CW X (.BoolOp .And [a] pos) ta := ⟨_, pw_and1 (pcT a), fun ρ b ρ' q F0 G F H σ k Q r => h ρ b ρ' q F0 G F H σ k Q r⟩
theorem cw_or1 (h : CT X a ta) : CW X (.BoolOp .Or [a] pos) ta := ⟨_, pw_or1 (pcT a), fun ρ b ρ' q F0 G F H σ k Q r => h ρ b ρ' q F0 G F H σ k Q r⟩
theorem cw_and {rest : List Expr} (h : CT X a ta) (h2 : CW X (.BoolOp .And (b :: rest) pos) tb) : CW X (.BoolOp .And (a :: b :: rest) pos) (.andT ta tb) := by
  obtain ⟨t, p, g⟩ := h2
  refine ⟨_, pw_and (pcT a) p, fun ρ bb ρ' q F0 G F H σ k Q r => ?_⟩
  unfold evT at q
  obtain ⟨u, e1, q⟩ := bnd q
  obtain ⟨b1, ρ1⟩ := u
  refine h _ _ _ e1 F0 G F H σ k _ fun F1 H1 k1 f1 => ?_
  cases b1 with
  | true =>
    rw [if_pos rfl] at q ⊢
    exact g _ _ _ q F0 G F1 H1 σ k1 _ fun F2 H2 k2 f2 => r F2 H2 k2 (f1.trans f2)
  | false =>
    rw [if_neg Bool.false_ne_true] at q ⊢
    cases q
    exact r F1 H1 k1 f1
theorem cw_or {rest : List Expr} (h : CT X a ta) (h2 : CW X (.BoolOp .Or (b :: rest) pos) tb) : CW X (.BoolOp .Or (a :: b :: rest) pos) (.orT ta tb) := by
  obtain ⟨t, p, g⟩ := h2
  refine ⟨_, pw_or (pcT a) p, fun ρ bb ρ' q F0 G F H σ k Q r => ?_⟩
  unfold evT at q
  obtain ⟨u, e1, q⟩ := bnd q
  obtain ⟨b1, ρ1⟩ := u
  refine h _ _ _ e1 F0 G F H σ k _ fun F1 H1 k1 f1 => ?_
  cases b1 with
  | false =>
    rw [if_neg Bool.false_ne_true] at q ⊢
    exact g _ _ _ q F0 G F1 H1 σ k1 _ fun F2 H2 k2 f2 => r F2 H2 k2 (f1.trans f2)
  | true =>
    rw [if_pos rfl] at q ⊢
    cases q
    exact r F1 H1 k1 f1
theorem ce_one {op : BoolOp} (h : CE X a ia) : CE X (.BoolOp op [a] pos) ia := fun ρ d ρ' q => xe_one (h _ _ _ q)
theorem ce_and {rest : List Expr} (h1 : CE X a ia) (h2 : CE X (.BoolOp .And (b :: rest) pos) ib) : CE X (.BoolOp .And (a :: b :: rest) pos) (.andE ia ib) := fun ρ d ρ' h => by
  unfold evE at h
  obtain ⟨p, e1, h⟩ := bnd h
  obtain ⟨x, ρ1⟩ := p
  have e2 := h1 _ _ _ e1
  split at h
  · rename_i hb
    have hb : x = .bool true := hb
    subst hb
    exact xe_and e2 (fun _ => h2 _ _ _ h) (fun z => by cases z)
  · rename_i hb
    have hb : x = .bool false := hb
    subst hb
    cases h
    exact xe_and e2 (fun z => by cases z) (fun _ => ⟨rfl, rfl⟩)
  · cases h
theorem ce_or {rest : List Expr} (h1 : CE X a ia) (h2 : CE X (.BoolOp .Or (b :: rest) pos) ib) : CE X (.BoolOp .Or (a :: b :: rest) pos) (.orE ia ib) := fun ρ d ρ' h => by
  unfold evE at h
  obtain ⟨p, e1, h⟩ := bnd h
  obtain ⟨x, ρ1⟩ := p
  have e2 := h1 _ _ _ e1
  split at h
  · rename_i hb
    have hb : x = .bool false := hb
    subst hb
    exact xe_or e2 (fun _ => h2 _ _ _ h) (fun z => by cases z)
  · rename_i hb
    have hb : x = .bool true := hb
    subst hb
    cases h
    exact xe_or e2 (fun z => by cases z) (fun _ => ⟨rfl, rfl⟩)
  · cases h
def gNot : List D → Option D
  | [.bool b] => some (.bool (!b))
  | _ => none
theorem ce_not (h1 : CE X a ia) : CE X (.UnaryOp .Not a pos) (.f gNot (.cons ia .nil)) := fun ρ d ρ' h => by
  obtain ⟨ds, e1, e2⟩ := ff h
  obtain ⟨x, rfl, e3⟩ := a1 e1
  unfold gNot at e2
  split at e2
  · rename_i b hb
    cases hb
    cases e2
    exact xe_not (h1 _ _ _ e3)
  · cases e2
theorem ce_if (hc : CT X c ta) (h1 : CE X a ia) (h2 : CE X b ib) : CE X (.IfExp c a b pos) (.ife ta ia ib) := fun ρ d ρ' h => by
  unfold evE at h
  obtain ⟨p, e1, h⟩ := bnd h
  obtain ⟨bb, ρ1⟩ := p
  refine xe_if (hc _ _ _ e1) (fun z => ?_) (fun z => ?_)
  · subst z; rw [if_pos rfl] at h; exact h1 _ _ _ h
  · subst z; rw [if_neg Bool.false_ne_true] at h; exact h2 _ _ _ h
def gNeg : List D → Option D
  | [.int i] => some (.int (-i))
  | _ => none
theorem ce_neg (h1 : CE X a ia) : CE X (.UnaryOp .USub a pos) (.f gNeg (.cons ia .nil)) := fun ρ d ρ' h => by
  obtain ⟨ds, e1, e2⟩ := ff h
  obtain ⟨x, rfl, e3⟩ := a1 e1
  unfold gNeg at e2
  split at e2
  · rename_i b hb
    cases hb
    cases e2
    exact xe_un (h1 _ _ _ e3)
  · cases e2
/-! displays -/
def gTup (ds : List D) : Option D := if ds.length ≤ 100000 then some (.tuple ds) else none
def gLst (ds : List D) : Option (List D) := if ds.length ≤ 100000 then some ds else none
theorem ce_tup {n : Nat} (h1 : CA X es as) : CE X (.Tuple es n pos) (.f gTup as) := fun ρ d ρ' h => by
  obtain ⟨ds, e1, e2⟩ := ff h
  unfold gTup at e2
  split at e2
  · rename_i hz
    cases e2
    exact xe_tup (h1 _ _ _ e1) hz
  · cases e2
theorem co_lst (h1 : CA X es as) : CO X (.List es pos) (.f gLst as) := fun ρ d ρ' h => by
  obtain ⟨ds, e1, e2⟩ := fo h
  unfold gLst at e2
  split at e2
  · rename_i hz
    cases e2
    exact xo_lst (h1 _ _ _ e1) hz
  · cases e2
/-! places -/
def gIx : List D → Option D
  | [.tuple xs, .int i] => atI xs i
  | [.list xs, .int i] => atI xs i
  | [.dict [(.none, .none), (.none, .list xs)], .int i] => atI xs i
  | _ => none
theorem ce_ix (h1 : CE X a ia) (h2 : CE X b ib) (hs : PlainIx b := by exact fun _ _ => rfl) : CE X (.Subscript a b pos) (.f gIx (.cons ia (.cons ib .nil))) := fun ρ d ρ' h => by
  obtain ⟨ds, e1, e2⟩ := ff h
  obtain ⟨x, y, ρ1, rfl, e3, e4⟩ := a2 e1
  have h1 := h1 _ _ _ e3
  have h2 := h2 _ _ _ e4
  unfold gIx at e2
  split at e2
  · rename_i hb; cases hb; exact xe_ixT h1 h2 e2 hs
  · rename_i hb; cases hb; exact xe_ixL h1 h2 e2 hs
  · rename_i hb; cases hb; exact xe_ixS h1 h2 e2 hs
  · cases e2
def gIxO (xs : List D) : List D → Option D
  | [.int i] => atI xs i
  | _ => none
theorem own_at {ρ : List Sl} {n : Nat} {xs : List D} (h : ownAt ρ n = some xs) : ∃ s, ρ[n]? = some s ∧ s.own = some xs := bnd h
theorem dic_at {ρ : List Sl} {n : Nat} {kvs : List (Key × D)} (h : dicAt ρ n = some kvs) : ρ[n]? = some (.m kvs) := by
  unfold dicAt at h
  split at h
  · rename_i hb; cases h; exact hb
  · cases h
theorem put_atE {ρ : List Sl} {n : Nat} {xs : List D} {s : Sl} (h : ρ[n]? = some s) : putAt ρ n xs = ρ.set n (s.put xs) := by
  unfold putAt
  rw [h]
theorem rdd {n : Nat} {g : List D → List D → Option D} {as : IA} {ρ ρ' : List Sl} {d : D} (h : evE (.rd n g as) ρ = some (d, ρ')) : (∃ s0 xs0, ρ[n]? = some s0 ∧ s0.own = some xs0) ∧ ∃ ds s xs, evA as ρ = some (ds, ρ') ∧ ρ'[n]? = some s ∧ s.own = some xs ∧ g xs ds = some d := by
  unfold evE at h
  obtain ⟨xs0, e0, h⟩ := bnd h
  obtain ⟨p, e1, h⟩ := bnd h
  obtain ⟨xs, e2, h⟩ := bnd h
  obtain ⟨q, e3, h⟩ := mp h
  cases h
  obtain ⟨s0, q1, q2⟩ := own_at e0
  obtain ⟨s, q3, q4⟩ := own_at e2
  exact ⟨⟨s0, xs0, q1, q2⟩, _, s, xs, e1, q3, q4, e3⟩
theorem ce_ixO (n : Nat) {p1 : Pos} (h2 : CE X b ib) (hN : X.N[n]? = some nm := by rfl) (hv : Vis X.env.scope nm := by first | exact Or.inl rfl | exact Or.inr (Or.inl rfl) | exact Or.inr (Or.inr rfl))
    (hd : (nm == ("__debug__" : Str)) = false := by decide) (hcd : (nm == ("__classdict__" : Str)) = false := by decide) (hp : PlainIx b := by exact fun _ _ => rfl) : CE X (.Subscript (.Name nm p1) b pos) (.rd n gIxO (.cons ib .nil)) := fun ρ d ρ' h => by
  obtain ⟨h0, ds, s, xs, e1, e2, e3, e4⟩ := rdd h
  obtain ⟨x, rfl, e5⟩ := a1 e1
  unfold gIxO at e4
  split at e4
  · rename_i hb; cases hb
    exact xe_ixO n (h2 _ _ _ e5) e2 e3 e4 hN hv h0 hd hcd hp
  · cases e4
/-! calls -/
theorem ce_callB {id : String} {p : Pos} (hb : ∀ ds z, g ds = some z → CR X (.builtin id) ds z) (hm : X.mg nm = none) (hv : bootBuiltins nm = some (.builtin id)) (ha : CA X (e :: es) as) (hg : Gl X nm := by rfl) (hn : nm ≠ "__name__" := by decide) (hdb : (nm == ("__debug__" : Str)) = false := by decide) (he : starEach (e :: es) X.env = (false, eval e X.env) :: starEach es X.env := by rfl) (hpl : ((backTo pos (starEach es X.env)).any fun x => x.fst) = false := by rfl) :
    CE X (.Call (.Name nm p) (e :: es) [] pos) (.f g as) := fun ρ d ρ' h => by
  obtain ⟨ds, e1, e2⟩ := ff h
  exact xe_callB (hb _ _ e2) hg hm hv (ha _ _ _ e1) hn hdb he hpl
theorem ce_callT {id : String} {p : Pos} (hb : ∀ ds z, g ds = some z → CR X (.type id) ds z) (hm : X.mg nm = none) (hv : bootBuiltins nm = some (.type id)) (ha : CA X (e :: es) as) (hg : Gl X nm := by rfl) (hn : nm ≠ "__name__" := by decide) (hdb : (nm == ("__debug__" : Str)) = false := by decide) (he : starEach (e :: es) X.env = (false, eval e X.env) :: starEach es X.env := by rfl) (hpl : ((backTo pos (starEach es X.env)).any fun x => x.fst) = false := by rfl) :
    CE X (.Call (.Name nm p) (e :: es) [] pos) (.f g as) := fun ρ d ρ' h => by
  obtain ⟨ds, e1, e2⟩ := ff h
  exact xe_callTy (hb _ _ e2) hg hm hv (ha _ _ _ e1) hn hdb he hpl
theorem co_callB {id : String} {p : Pos} {g : List D → Option (List D)} (hb : ∀ ds z, g ds = some z → CRO X (.builtin id) ds z) (hm : X.mg nm = none) (hv : bootBuiltins nm = some (.builtin id)) (ha : CA X (e :: es) as) (hg : Gl X nm := by rfl) (hn : nm ≠ "__name__" := by decide) (hdb : (nm == ("__debug__" : Str)) = false := by decide) (he : starEach (e :: es) X.env = (false, eval e X.env) :: starEach es X.env := by rfl) (hpl : ((backTo pos (starEach es X.env)).any fun x => x.fst) = false := by rfl) :
    CO X (.Call (.Name nm p) (e :: es) [] pos) (.f g as) := fun ρ d ρ' h => by
  obtain ⟨ds, e1, e2⟩ := fo h
  exact xo_callB (hb _ _ e2) hg hm hv (ha _ _ _ e1) hn hdb he hpl
theorem co_callT {id : String} {p : Pos} {g : List D → Option (List D)} (hb : ∀ ds z, g ds = some z → CRO X (.type id) ds z) (hm : X.mg nm = none) (hv : bootBuiltins nm = some (.type id)) (ha : CA X (e :: es) as) (hg : Gl X nm := by rfl) (hn : nm ≠ "__name__" := by decide) (hdb : (nm == ("__debug__" : Str)) = false := by decide) (he : starEach (e :: es) X.env = (false, eval e X.env) :: starEach es X.env := by rfl) (hpl : ((backTo pos (starEach es X.env)).any fun x => x.fst) = false := by rfl) :
    CO X (.Call (.Name nm p) (e :: es) [] pos) (.f g as) := fun ρ d ρ' h => by
  obtain ⟨ds, e1, e2⟩ := fo h
  exact xo_callTy (hb _ _ e2) hg hm hv (ha _ _ _ e1) hn hdb he hpl
theorem ce_call {k n : Nat} {f : Addr} {fd : FuncData} {ps : List Str} {p : Pos} (F : FnOk X.prog X.w X.K X.mg X.base CX0 k f fd ps (spD X.K n (fun ds d => g ds = some d))) (hr : Room k X.A) (hm : X.mg nm = some (.ref f)) (hk : PySem.W.keepIn X.K (.ref f) = true) (hb : Binds X.K fd ps []) (ha : CA X (e :: es) as) (hn : ∀ ρ ds ρ', evA as ρ = some (ds, ρ') → ds.length = n) (hg : Gl X nm := by rfl) (hdb : (nm == ("__debug__" : Str)) = false := by decide) (he : starEach (e :: es) X.env = (false, eval e X.env) :: starEach es X.env := by rfl) (hpl : ((backTo pos (starEach es X.env)).any fun x => x.fst) = false := by rfl) :
    CE X (.Call (.Name nm p) (e :: es) [] pos) (.f g as) := fun ρ d ρ' h => by
  obtain ⟨ds, e1, e2⟩ := ff h
  exact xe_call F hr hg hm hk hb (ha _ _ _ e1) e2 (hn _ _ _ e1) hdb he hpl
def IA.len : IA → Nat
  | .nil => 0
  | .cons _ as => as.len + 1
theorem ev_len : ∀ (as : IA) (ρ : List Sl) (ds : List D) (ρ' : List Sl), evA as ρ = some (ds, ρ') → ds.length = as.len
  | .nil, ρ, ds, ρ', h => by unfold evA at h; cases h; rfl
  | .cons e as, ρ, ds, ρ', h => by
    unfold evA at h
    obtain ⟨p, e1, h⟩ := bnd h
    obtain ⟨q, e2, h⟩ := mp h
    cases h
    have := ev_len as _ _ _ e2
    simp [IA.len, this]
theorem ce_callL (n : Nat) {nm0 : Str} {p0 p : Pos} {m k : Nat} {f : Addr} {fd : FuncData} {ps : List Str} {g : List D → List D → Option (D × List D)} {R : List D → List D → D → List D → Prop} (hR : ∀ rs ds d rs', g rs ds = some (d, rs') → R rs ds d rs') (F : FnOk X.prog X.w X.K X.mg X.base CX0 k f fd ps (spB X.K m R)) (hr : Room k X.A) (hm : X.mg nm = some (.ref f)) (hk : PySem.W.keepIn X.K (.ref f) = true) (hb : Binds X.K fd ps []) (ha : CA X es as)
    (hm2 : as.len + 1 = m := by rfl) (hg : Gl X nm := by rfl) (hN : X.N[n]? = some nm0 := by rfl) (hv : Vis X.env.scope nm0 := by first | exact Or.inl rfl | exact Or.inr (Or.inl rfl) | exact Or.inr (Or.inr rfl)) (hd : (nm0 == ("__debug__" : Str)) = false := by decide) (hcd : (nm0 == ("__classdict__" : Str)) = false := by decide)
    (hst : starEach (.Name nm0 p0 :: es) X.env = (false, eval (.Name nm0 p0) X.env) :: starEach es X.env := by rfl) (hdb : (nm == ("__debug__" : Str)) = false := by decide) (hpl : ((backTo pos (starEach es X.env)).any fun x => x.fst) = false := by rfl) : CE X (.Call (.Name nm p) (.Name nm0 p0 :: es) [] pos) (.up n g as) := fun ρ d ρ' h => by
  unfold evE at h
  obtain ⟨xs0, e0, h⟩ := bnd h
  obtain ⟨q, e1, h⟩ := bnd h
  obtain ⟨xs, e2, h⟩ := bnd h
  obtain ⟨r, e3, h⟩ := mp h
  cases h
  obtain ⟨s0, q1, q2⟩ := own_at e0
  obtain ⟨s, q3, q4⟩ := own_at e2
  rw [put_atE q3]
  exact xe_callO n F hr hg hm hk hb (ha _ _ _ e1) q3 q4 (hR _ _ _ _ e3) (by rw [ev_len _ _ _ _ e1]; exact hm2) ⟨s0, xs0, q1, q2⟩ hN hv hd hcd hst hdb hpl
/-! what is walked -/
def gSeq : List D → Option (List D)
  | [.list xs] => some xs
  | [.tuple xs] => some xs
  | _ => none
theorem ci_seq {tg : Expr} (h1 : CE X e ia) : CI X tg e (.f gSeq (.cons ia .nil)) := fun ρ d ρ' h => by
  obtain ⟨ds, e1, e2⟩ := fi h
  obtain ⟨x, rfl, e3⟩ := a1 e1
  have h1 := h1 _ _ _ e3
  unfold gSeq at e2
  split at e2
  · rename_i hb; cases hb; cases e2; exact xi_list h1
  · rename_i hb; cases hb; cases e2; exact xi_tup h1
  · cases e2
/-- a small number (told so that the kernel does not count) -/
def small (i : Int) : Bool := Nat.ble i.natAbs 999999
theorem small_is {i : Int} (h : small i = true) : -1000000 < i ∧ i < 1000000 := by
  have : i.natAbs ≤ 999999 := Nat.le_of_ble_eq_true h
  omega
theorem small_of {i : Int} (h : -1000000 < i ∧ i < 1000000) : small i = true := Nat.ble_eq_true_of_le (by omega)
def gRng1 : List D → Option (List D)
  | [.int i] => if small i = true then some (rangeD 0 i.toNat) else none
  | _ => none
def gRng2 : List D → Option (List D)
  | [.int i, .int j] => if (small i && small j) = true then some (rangeD i (j - i).toNat) else none
  | _ => none
theorem ci_rng1 {tg : Expr} {p : Pos} (hm : X.mg "range" = none) (h1 : CE X a ia) (hg : Gl X "range" := by rfl) (hs : starEach [a] X.env = [(false, eval a X.env)] := by rfl) (hst : starEach [a] X.env = (false, eval a X.env) :: starEach [] X.env := by rfl) : CI X tg (.Call (.Name "range" p) [a] [] pos) (.f gRng1 (.cons ia .nil)) := fun ρ d ρ' h => by
  obtain ⟨ds, e1, e2⟩ := fi h
  obtain ⟨x, rfl, e3⟩ := a1 e1
  have h1 := h1 _ _ _ e3
  unfold gRng1 at e2
  split at e2
  · rename_i hb; cases hb
    split at e2
    · rename_i hb; cases e2; exact xi_range1 hg hm h1 (small_is hb).2 (small_is hb).1 hs hst
    · cases e2
  · cases e2
theorem ci_rng2 {tg : Expr} {p : Pos} (hm : X.mg "range" = none) (h1 : CE X a ia) (h2 : CE X b ib) (hg : Gl X "range" := by rfl) (hs : starEach [a, b] X.env = [(false, eval a X.env), (false, eval b X.env)] := by rfl) (hs2 : starEach [b] X.env = [(false, eval b X.env)] := by rfl)
    (hst : starEach [a, b] X.env = (false, eval a X.env) :: starEach [b] X.env := by rfl) (hst2 : starEach [b] X.env = (false, eval b X.env) :: starEach [] X.env := by rfl) : CI X tg (.Call (.Name "range" p) [a, b] [] pos) (.f gRng2 (.cons ia (.cons ib .nil))) := fun ρ d ρ' h => by
  obtain ⟨ds, e1, e2⟩ := fi h
  obtain ⟨x, y, ρ1, rfl, e3, e4⟩ := a2 e1
  have h1 := h1 _ _ _ e3
  have h2 := h2 _ _ _ e4
  unfold gRng2 at e2
  split at e2
  · rename_i hb; cases hb
    split at e2
    · rename_i hb; cases e2; rw [Bool.and_eq_true] at hb; exact xi_range2 hg hm h1 h2 ⟨(small_is hb.1).1, (small_is hb.1).2, (small_is hb.2).1, (small_is hb.2).2⟩ hs hs2 hst hst2
    · cases e2
  · cases e2
def gEnum : List D → Option (List D)
  | [.list xs] => some (enumD xs)
  | [.tuple xs] => some (enumD xs)
  | _ => none
theorem ci_enum {p tpos : Pos} {elts : List Expr} {kk : Nat} (hm : X.mg "enumerate" = none) (h1 : CE X e ia) (hg : Gl X "enumerate" := by rfl) (hs : starEach [e] X.env = [(false, eval e X.env)] := by rfl) (hst : starEach [e] X.env = (false, eval e X.env) :: starEach [] X.env := by rfl) :
    CI X (.Tuple elts kk tpos) (.Call (.Name "enumerate" p) [e] [] pos) (.f gEnum (.cons ia .nil)) := fun ρ d ρ' h => by
  obtain ⟨ds, e1, e2⟩ := fi h
  obtain ⟨x, rfl, e3⟩ := a1 e1
  have h1 := h1 _ _ _ e3
  unfold gEnum at e2
  split at e2
  · rename_i hb; cases hb; cases e2; exact xi_enumL hg hm h1 hs hst
  · rename_i hb; cases hb; cases e2; exact xi_enumT hg hm h1 hs hst
  · cases e2
/-! targets -/
theorem cg_n (n : Nat) (hN : X.N.Nodup) (hi : X.N[n]? = some nm := by rfl) (hx : Loc X.env.scope nm := by first | exact Or.inl rfl | exact Or.inr rfl) (hf : X.fn nm = true ∨ X.env.scope.names.lookup nm = some .local := by first | exact .inl rfl | exact .inr rfl | assumption) :
    CG X (.Name nm pos) (.n n) := fun d ρ ρ' h => by
  unfold evG at h
  cases h
  exact xg_name n hN hi hx hf
theorem cgs_nil : CGs X [] .nil := fun ds ρ ρ' h => by
  cases ds with
  | nil => unfold evGs at h; cases h; exact xgs_nil
  | cons d ds => unfold evGs at h; cases h
theorem cgs_cons {g : IG} {gs : IGs} (h1 : CG X e g) (h2 : CGs X es gs) (hs : (assignEach (e :: es) X.env).map (·.2) = assign e X.env :: (assignEach es X.env).map (·.2) := by rfl) : CGs X (e :: es) (.cons g gs) := fun ds ρ ρ' h => by
  cases ds with
  | nil => unfold evGs at h; cases h
  | cons d ds =>
    unfold evGs at h
    obtain ⟨ρ1, e1, h⟩ := bnd h
    exact xgs_cons (h1 _ _ _ e1) (h2 _ _ _ h) hs
theorem gs_len : ∀ (gs : IGs) (es : List Expr) (ds : List D) (ρ ρ' : List Sl), CGs X es gs → evGs gs ds ρ = some ρ' → ∀ n, (∀ ds ρ ρ', evGs gs ds ρ = some ρ' → ds.length = n) → ds.length = n := fun gs es ds ρ ρ' _ h n q => q _ _ _ h
def IGs.len : IGs → Nat
  | .nil => 0
  | .cons _ gs => gs.len + 1
theorem evGs_len : ∀ (gs : IGs) (ds : List D) (ρ ρ' : List Sl), evGs gs ds ρ = some ρ' → ds.length = gs.len
  | .nil, [], _, _, _ => rfl
  | .nil, _ :: _, _, _, h => by unfold evGs at h; cases h
  | .cons g gs, [], _, _, h => by unfold evGs at h; cases h
  | .cons g gs, d :: ds, ρ, ρ', h => by
    unfold evGs at h
    obtain ⟨ρ1, e1, h⟩ := bnd h
    have := evGs_len gs ds _ _ h
    simp [IGs.len, this]
theorem cg_t {k : Nat} {gs : IGs} (hc : X.calm = true) (h : CGs X es gs) (hn : (assignEach es X.env).length = gs.len := by rfl) (hst : (assignEach es X.env).findIdx? (·.1) = none := by rfl) : CG X (.Tuple es k pos) (.t gs) := fun d ρ ρ' q => by
  cases d with
  | tuple ds =>
    unfold evG at q
    exact xg_tup hc (h _ _ _ q) (evGs_len _ _ _ _ q) hn hst
  | _ => unfold evG at q; cases q
end
end DI
set_option Elab.async false
set_option linter.all false
set_option maxRecDepth 100000
set_option maxHeartbeats 2000000
namespace DI
open PySem PySem.Spec PyProof.Rows L2 DL
/-! ### comprehensions -/
section
variable {X : Cx} {scope : Scope}
theorem cts_nil : CTs X [] .tt := fun ρ b ρ' h => by
  unfold evT at h
  cases h
  exact xts_nil
theorem cts_one {c : Expr} {t : IT} (h1 : CT X c t) : CTs X [c] t := fun ρ b ρ' h => xts_one (h1 _ _ _ h)
theorem lc_of {tg elt : Expr} {ifs : List Expr} {ig : IG} {fs : IT} {ie : IE} {vs : List Nat} (hg : ∀ s H C cl fp, CG (bX X scope s H C cl fp) tg ig) (hv : ∀ i ∈ ig.vs, i ∈ vs) (ht : ∀ s H C cl fp, CTs (bX X scope s H C cl fp) ifs fs) (he : ∀ s H C cl fp, CE (bX X scope s H C cl fp) elt ie) :
    ∀ (xs : List D) (ρ : List Sl) (ys : List D) (ρ' : List Sl), lcGo (fun x ρ => (evG ig x ρ).bind fun ρ1 => (evT fs ρ1).bind fun q => if q.1 = true then (evE ie q.2).map fun r => (some r.1, wipeS r.2 vs) else some (none, wipeS q.2 vs)) xs ρ = some (ys, ρ') → LC X scope tg ifs elt vs xs ρ ys ρ'
  | [], ρ, ys, ρ', h => by unfold lcGo at h; cases h; exact .nil
  | x :: xs, ρ, ys, ρ', h => by
    unfold lcGo at h
    obtain ⟨p, e1, h⟩ := bnd h
    obtain ⟨q, e2, h⟩ := mp h
    obtain ⟨ρ1, e3, e1⟩ := bnd e1
    obtain ⟨t, e4, e1⟩ := bnd e1
    obtain ⟨b, ρ2⟩ := t
    have l := lc_of hg hv ht he xs _ _ _ e2
    cases b with
    | true =>
      rw [if_pos rfl] at e1
      obtain ⟨r, e5, e1⟩ := mp e1
      cases e1
      cases h
      exact .take (fun s H C cl fp => hg s H C cl fp _ _ _ e3) hv (fun s H C cl fp => ht s H C cl fp _ _ _ e4) (fun s H C cl fp => he s H C cl fp _ _ _ e5) l
    | false =>
      rw [if_neg Bool.false_ne_true] at e1
      cases e1
      cases h
      exact .skip (fun s H C cl fp => hg s H C cl fp _ _ _ e3) hv (fun s H C cl fp => ht s H C cl fp _ _ _ e4) l
theorem lc2_of {t0 t1 i1 elt : Expr} {fs0 fs1 : List Expr} {g0 g1 : IG} {j1 : II} {q0 q1 : IT} {ie : IE} {vs vs1 : List Nat} (hg : ∀ s H C cl fp, CG (bX X scope s H C cl fp) t0 g0) (hv : ∀ i ∈ g0.vs, i ∈ vs) (ht : ∀ s H C cl fp, CTs (bX X scope s H C cl fp) fs0 q0) (hi : ∀ s H C cl fp, CI (bX X scope s H C cl fp) t1 i1 j1)
    (hg1 : ∀ s H C cl fp, CG (bX X scope s H C cl fp) t1 g1) (hv1 : ∀ i ∈ g1.vs, i ∈ vs1) (ht1 : ∀ s H C cl fp, CTs (bX X scope s H C cl fp) fs1 q1) (he : ∀ s H C cl fp, CE (bX X scope s H C cl fp) elt ie) :
    ∀ (xs : List D) (ρ : List Sl) (ys : List D) (ρ' : List Sl), lc2Go (fun x ρ => (evG g0 x ρ).bind fun ρ1 => (evT q0 ρ1).bind fun q => if q.1 = true then (evI j1 q.2).bind fun u =>
      (lcGo (fun x ρ => (evG g1 x ρ).bind fun ρ1 => (evT q1 ρ1).bind fun q => if q.1 = true then (evE ie q.2).map fun r => (some r.1, wipeS r.2 vs1) else some (none, wipeS q.2 vs1)) u.1 (wipeS u.2 vs1)).map fun r => (r.1, wipeS r.2 vs) else some ([], wipeS q.2 vs)) xs ρ = some (ys, ρ') → LC2 X scope t0 fs0 t1 i1 fs1 elt vs vs1 xs ρ ys ρ'
  | [], ρ, ys, ρ', h => by unfold lc2Go at h; cases h; exact .nil
  | x :: xs, ρ, ys, ρ', h => by
    unfold lc2Go at h
    obtain ⟨p, e1, h⟩ := bnd h
    obtain ⟨q, e2, h⟩ := mp h
    obtain ⟨ρ1, e3, e1⟩ := bnd e1
    obtain ⟨t, e4, e1⟩ := bnd e1
    obtain ⟨b, ρ2⟩ := t
    have l := lc2_of hg hv ht hi hg1 hv1 ht1 he xs _ _ _ e2
    cases b with
    | true =>
      rw [if_pos rfl] at e1
      obtain ⟨u, e5, e1⟩ := bnd e1
      obtain ⟨r, e6, e1⟩ := mp e1
      cases e1
      cases h
      exact .take (fun s H C cl fp => hg s H C cl fp _ _ _ e3) hv (fun s H C cl fp => ht s H C cl fp _ _ _ e4) (fun s H C cl fp => hi s H C cl fp _ _ _ e5) (lc_of hg1 hv1 ht1 he _ _ _ _ e6) l
    | false =>
      rw [if_neg Bool.false_ne_true] at e1
      cases e1
      cases h
      exact .skip (fun s H C cl fp => hg s H C cl fp _ _ _ e3) hv (fun s H C cl fp => ht s H C cl fp _ _ _ e4) l
theorem few_lt {ys : List D} (h : few ys = true) : ys.length < 1000000 := of_decide_eq_true h
theorem co_lc {tg elt iter : Expr} {ifs : List Expr} {ig : IG} {ii : II} {fs : IT} {ie : IE} {own : List (Str × Nat)} {vs : List Nat} {pos : Pos} (hc : X.calm = true) (hN : X.N.Nodup) (hi : CI X tg iter ii) (ok : BlkOk X.N X.env.scope scope own) (hvs : own.map (·.2) = vs)
    (hg : ∀ s H C cl fp, CG (bX X scope s H C cl fp) tg ig) (ht : ∀ s H C cl fp, CTs (bX X scope s H C cl fp) ifs fs) (he : ∀ s H C cl fp, CE (bX X scope s H C cl fp) elt ie) (hv : ∀ i ∈ ig.vs, i ∈ vs := by decide)
    (hs : ∀ x, foldedSetIterable iter X.env x = pure x := by intro _; rfl) : CO X (.ListComp elt [⟨tg, iter, ifs, 0⟩] scope pos) (.lc ig ii fs ie vs) := fun ρ d ρ' h => by
  subst hvs
  unfold evO at h
  obtain ⟨p, e1, h⟩ := bnd h
  obtain ⟨r, e2, h⟩ := bnd h
  split at h
  · rename_i hz
    cases h
    exact xo_lc hc hN (hi _ _ _ e1) ok (lc_of hg hv ht he _ _ _ _ e2) (few_lt hz) hs
  · cases h
theorem co_lc2 {t0 i0 t1 i1 elt : Expr} {fs0 fs1 : List Expr} {g0 g1 : IG} {j0 j1 : II} {q0 q1 : IT} {ie : IE} {own : List (Str × Nat)} {vs vs1 : List Nat} {pos : Pos} (hc : X.calm = true) (hN : X.N.Nodup) (hi0 : CI X t0 i0 j0) (ok : BlkOk X.N X.env.scope scope own) (hvs : own.map (·.2) = vs)
    (hg : ∀ s H C cl fp, CG (bX X scope s H C cl fp) t0 g0) (ht : ∀ s H C cl fp, CTs (bX X scope s H C cl fp) fs0 q0) (hi : ∀ s H C cl fp, CI (bX X scope s H C cl fp) t1 i1 j1)
    (hg1 : ∀ s H C cl fp, CG (bX X scope s H C cl fp) t1 g1) (ht1 : ∀ s H C cl fp, CTs (bX X scope s H C cl fp) fs1 q1) (he : ∀ s H C cl fp, CE (bX X scope s H C cl fp) elt ie) (hv : ∀ i ∈ g0.vs, i ∈ vs := by decide) (hv1 : ∀ i ∈ g1.vs, i ∈ vs1 := by decide) (hvv : ∀ i ∈ vs1, i ∈ vs := by decide)
    (hs : ∀ x, foldedSetIterable i0 X.env x = pure x := by intro _; rfl) (hs1 : ∀ env x, foldedSetIterable i1 env x = pure x := by intro _ _; rfl) : CO X (.ListComp elt [⟨t0, i0, fs0, 0⟩, ⟨t1, i1, fs1, 0⟩] scope pos) (.lc2 g0 j0 q0 g1 j1 q1 ie vs vs1) := fun ρ d ρ' h => by
  subst hvs
  unfold evO at h
  obtain ⟨p, e1, h⟩ := bnd h
  obtain ⟨r, e2, h⟩ := bnd h
  split at h
  · rename_i hz
    cases h
    exact xo_lc2 hc hN (hi0 _ _ _ e1) ok hvv (lc2_of hg hv ht hi hg1 hv1 ht1 he _ _ _ _ e2) (few_lt hz) hs hs1
  · cases h
/-! toI -/
def toI : List D → Option (List Int)
  | [] => some []
  | .int i :: r => (toI r).map (i :: ·)
  | _ => none
theorem toI_map : ∀ ns : List Int, toI (ns.map .int) = some ns
  | [] => rfl
  | n :: ns => by simp [toI, toI_map ns]
theorem toI_eq : ∀ {ds : List D} {ns : List Int}, toI ds = some ns → ds = ns.map .int
  | [], _, h => by cases h; rfl
  | .int i :: r, ns, h => by
    unfold toI at h
    obtain ⟨m, e, h⟩ := mp h
    cases h
    rw [toI_eq e]
    rfl
def insI (a : Int) : List Int → List Int
  | [] => [a]
  | b :: l => if a ≤ b then a :: b :: l else b :: insI a l
def isort : List Int → List Int
  | [] => []
  | a :: l => insI a (isort l)
theorem insI_perm (a : Int) : ∀ l : List Int, (insI a l).Perm (a :: l)
  | [] => .refl _
  | b :: l => by
    unfold insI
    split
    · exact .refl _
    · exact ((insI_perm a l).cons b).trans (.swap a b l)
theorem insI_sorted (a : Int) : ∀ {l : List Int}, l.Pairwise (· ≤ ·) → (insI a l).Pairwise (· ≤ ·)
  | [], _ => List.pairwise_singleton _ _
  | b :: l, h => by
    obtain ⟨h1, h2⟩ := List.pairwise_cons.mp h
    unfold insI
    split
    · rename_i hab
      exact List.pairwise_cons.mpr ⟨fun c hc => (List.mem_cons.mp hc).elim (fun e => by omega) (fun e => by have := h1 c e; omega), h⟩
    · rename_i hab
      refine List.pairwise_cons.mpr ⟨fun c hc => ?_, insI_sorted a h2⟩
      rcases List.mem_cons.mp ((insI_perm a l).mem_iff.mp hc) with e | e
      · omega
      · exact h1 c e
theorem isort_perm : ∀ l : List Int, (isort l).Perm l
  | [] => .refl _
  | a :: l => (insI_perm a _).trans ((isort_perm l).cons a)
theorem isort_sorted : ∀ l : List Int, (isort l).Pairwise (· ≤ ·)
  | [] => .nil
  | a :: l => insI_sorted a (isort_sorted l)
theorem isort_eq (l : List Int) : isort l = sortI l := sorted_one ((isort_perm l).trans (sortI_perm l).symm) (isort_sorted l) (sortI_sorted l)
def dedup : List Int → List Int
  | [] => []
  | a :: l => if a ∈ l then dedup l else a :: dedup l
theorem dedup_mem {a : Int} : ∀ {l : List Int}, a ∈ dedup l ↔ a ∈ l
  | [] => Iff.rfl
  | b :: l => by
    unfold dedup
    split
    · rename_i h
      rw [dedup_mem (l := l), List.mem_cons]
      exact ⟨.inr, fun e => e.elim (fun e => by rw [e]; exact h) id⟩
    · rw [List.mem_cons, List.mem_cons, dedup_mem (l := l)]
theorem dedup_nodup : ∀ l : List Int, (dedup l).Nodup
  | [] => .nil
  | b :: l => by
    unfold dedup
    split
    · exact dedup_nodup l
    · rename_i h
      exact List.nodup_cons.mpr ⟨fun e => h (dedup_mem.mp e), dedup_nodup l⟩
def iset (l : List Int) : List Int := isort (dedup l)
theorem iset_eq (l : List Int) : iset l = setI l := by
  unfold iset setI
  rw [isort_eq]
  refine sorted_one ((sortI_perm _).trans (.trans ?_ (sortI_perm _).symm)) (sortI_sorted _) (sortI_sorted _)
  exact (List.perm_ext_iff_of_nodup (dedup_nodup l) (nodup_eraseDups l)).mpr fun a => by rw [dedup_mem, mem_eraseDups]
def gSort : List D → Option (List D)
  | [.list xs] => (toI xs).map fun ns => (isort ns).map .int
  | [.tuple xs] => (toI xs).map fun ns => (isort ns).map .int
  | _ => none
theorem cro_gSort : ∀ ds z, gSort ds = some z → CRO X (.builtin "sorted") ds z := fun ds z h => by
  unfold gSort at h
  split at h
  · obtain ⟨ns, e, h⟩ := mp h
    cases h
    rw [toI_eq e, isort_eq]
    exact cro_sorted
  · obtain ⟨ns, e, h⟩ := mp h
    cases h
    rw [toI_eq e, isort_eq]
    exact cro_sortedT
  · cases h
def gSet : List D → Option (List D)
  | [.list xs] => (toI xs).bind fun ns => if ns.length < 64 then some ((iset ns).map .int) else none
  | [.tuple xs] => (toI xs).bind fun ns => if ns.length < 64 then some ((iset ns).map .int) else none
  | _ => none
theorem co_sortset {e : Expr} {ie : IE} {p1 p2 pp pos : Pos} (hc : X.calm = true) (hm : X.mg "sorted" = none) (hm2 : X.mg "set" = none) (h : CE X e ie) (hg : Gl X "sorted" := by rfl) (hg2 : Gl X "set" := by rfl)
    (q1 : starEach [e] X.env = (false, eval e X.env) :: starEach [] X.env := by rfl) (q2 : ((backTo pp (starEach [] X.env)).any fun x => x.fst) = false := by rfl) (q3 : starEach [.Call (.Name "set" p2) [e] [] pp] X.env = (false, eval (.Call (.Name "set" p2) [e] [] pp) X.env) :: starEach [] X.env := by rfl) (q4 : ((backTo pos (starEach [] X.env)).any fun x => x.fst) = false := by rfl) :
    CO X (.Call (.Name "sorted" p1) [.Call (.Name "set" p2) [e] [] pp] [] pos) (.f gSet (.cons ie .nil)) := fun ρ d ρ' hh => by
  obtain ⟨ds, e1, e2⟩ := fo hh
  obtain ⟨x, rfl, e3⟩ := a1 e1
  have h := h _ _ _ e3
  unfold gSet at e2
  split at e2
  · rename_i hb; cases hb
    obtain ⟨ns, e4, e2⟩ := bnd e2
    split at e2
    · rename_i hl
      cases e2
      rw [iset_eq]
      rw [toI_eq e4] at h
      exact xo_sortset hc h hl hg hm b_sorted hg2 hm2 b_set rfl rfl q1 q2 q3 q4
    · cases e2
  · rename_i hb; cases hb
    obtain ⟨ns, e4, e2⟩ := bnd e2
    split at e2
    · rename_i hl
      cases e2
      rw [iset_eq]
      rw [toI_eq e4] at h
      exact xo_sortsetT hc h hl hg hm b_sorted hg2 hm2 b_set rfl rfl q1 q2 q3 q4
    · cases e2
  · cases e2
/-- sorted({elt for t0 in i0 if .. for t1 in i1 if ..}) -/
theorem co_sortsc2 {t0 i0 t1 i1 elt : Expr} {fs0 fs1 : List Expr} {g0 g1 : IG} {j0 j1 : II} {q0 q1 : IT} {ie : IE} {own : List (Str × Nat)} {vs vs1 : List Nat} {p1 pp pos : Pos} (hc : X.calm = true) (hN : X.N.Nodup) (hm : X.mg "sorted" = none) (hi0 : CI X t0 i0 j0) (ok : BlkOk X.N X.env.scope scope own) (hvs : own.map (·.2) = vs)
    (hg : ∀ s H C cl fp, CG (bX X scope s H C cl fp) t0 g0) (ht : ∀ s H C cl fp, CTs (bX X scope s H C cl fp) fs0 q0) (hi : ∀ s H C cl fp, CI (bX X scope s H C cl fp) t1 i1 j1)
    (hg1 : ∀ s H C cl fp, CG (bX X scope s H C cl fp) t1 g1) (ht1 : ∀ s H C cl fp, CTs (bX X scope s H C cl fp) fs1 q1) (he : ∀ s H C cl fp, CE (bX X scope s H C cl fp) elt ie) (hgl : Gl X "sorted" := by rfl) (hv : ∀ i ∈ g0.vs, i ∈ vs := by decide) (hv1 : ∀ i ∈ g1.vs, i ∈ vs1 := by decide) (hvv : ∀ i ∈ vs1, i ∈ vs := by decide)
    (hs : ∀ x, foldedSetIterable i0 X.env x = pure x := by intro _; rfl) (hs1 : ∀ env x, foldedSetIterable i1 env x = pure x := by intro _ _; rfl)
    (q3 : starEach [sc2 elt t0 i0 t1 i1 fs0 fs1 scope pp] X.env = (false, eval (sc2 elt t0 i0 t1 i1 fs0 fs1 scope pp) X.env) :: starEach [] X.env := by rfl) (q4 : ((backTo pos (starEach [] X.env)).any fun x => x.fst) = false := by rfl) :
    CO X (.Call (.Name "sorted" p1) [sc2 elt t0 i0 t1 i1 fs0 fs1 scope pp] [] pos) (.f gSet (.cons (.o (.lc2 g0 j0 q0 g1 j1 q1 ie vs vs1)) .nil)) := fun ρ d ρ' hh => by
  subst hvs
  obtain ⟨ds, e1, e2⟩ := fo hh
  obtain ⟨x, rfl, e3⟩ := a1 e1
  have e30 : (evO (.lc2 g0 j0 q0 g1 j1 q1 ie (own.map (·.2)) vs1) ρ).map (fun p => ((PyData.list p.1 : D), p.2)) = some (x, ρ') := by rw [← e3]; unfold evE; rfl
  obtain ⟨u, e31, e5⟩ := mp e30
  obtain ⟨u1, u2⟩ := u
  obtain ⟨rfl, rfl⟩ := Prod.mk.inj e5
  unfold evO at e31
  obtain ⟨p, e4, e32⟩ := bnd e31
  obtain ⟨r, e55, e33⟩ := bnd e32
  split at e33
  · obtain ⟨rfl, rfl⟩ := Prod.mk.inj (Option.some.inj e33)
    have e2 : (toI r.1).bind (fun ns => if ns.length < 64 then some ((iset ns).map .int) else none) = some d := e2
    obtain ⟨ns, e6, e2⟩ := bnd e2
    split at e2
    · rename_i hl
      cases e2
      rw [iset_eq]
      have l := lc2_of hg hv ht hi hg1 hv1 ht1 he _ _ _ _ e55
      rw [toI_eq e6] at l
      exact xo_sortsc2 hc hN (hi0 _ _ _ e4) ok hvv l hl hgl hm b_sorted rfl hs hs1 q3 q4
    · cases e2
  · cases e33
end
end DI
set_option Elab.async false
set_option linter.all false
set_option maxRecDepth 100000
set_option maxHeartbeats 2000000
namespace DI
open PySem PySem.Spec PyProof.Rows L2 DL
section
variable {K : PySem.W.Frag} {F0 G F H : Hp} {σ : L2.St} {ρ ρ1 : List Sl} {X : Cx} {sts : List Stmt}
/-- a list of one's own is data from now on -/
theorem Ok_frz {n : Nat} {xs : List D} (k : Ok K F0 G F H σ ρ) (hr : ρ[n]? = some (.o xs)) : ∃ F', Ok K F0 G F' H σ (ρ.set n (.d (.list xs))) ∧ Same F F' := by
  obtain ⟨p, vs, e1, e2, e3, e4, e5⟩ := k.own n _ xs hr rfl
  have s1 : Same F (upd F p (.lst vs)) := fun b u e => by rw [upd_ne (ne_of_none e e3)]; exact e
  have hn : n < ρ.length := (List.getElem?_eq_some_iff.mp hr).1
  refine ⟨upd F p (.lst vs), ⟨by rw [List.length_set]; exact k.len, fun b u e => ?_, k.gh, fun b hb => ?_, fun i y h => ?_, fun i a' ys h => ?_, fun i s ys h1 h2 => ?_, fun i j s t ys zs a h1 h2 h3 h4 => ?_⟩, s1⟩
  · by_cases hbp : b = p
    · subst hbp; rw [upd_same] at e; cases e; exact e2
    · rw [upd_ne hbp] at e; exact k.fh b u e
  · rw [upd_ne (mut_ne e4 hb)]; exact k.g0 b hb
  · by_cases hi : i = n
    · subst hi
      rw [List.getElem?_set_self hn] at h
      cases h
      exact ⟨.ref p, e1, .lst upd_same (rps_mono s1 _ _ e5)⟩
    · rw [List.getElem?_set_ne (Ne.symm hi)] at h
      obtain ⟨v, q1, q2⟩ := k.dat i y h
      exact ⟨v, q1, rp_mono s1 _ _ q2⟩
  · by_cases hi : i = n
    · subst hi
      rw [List.getElem?_set_self hn] at h
      cases h
    · rw [List.getElem?_set_ne (Ne.symm hi)] at h
      exact k.bor i a' ys h
  · by_cases hi : i = n
    · subst hi
      rw [List.getElem?_set_self hn] at h1
      cases h1
      cases h2
    · rw [List.getElem?_set_ne (Ne.symm hi)] at h1
      obtain ⟨a, ws, q1, q2, q3, q4, q5⟩ := k.has i s ys h1 h2
      have hap : a ≠ p := fun z => hi (k.djh i n s (.o xs) ys (.l xs) p h1 h2 hr rfl (by rw [q1, z]) e1)
      exact ⟨a, ws, q1, q2, by rw [upd_ne hap]; exact q3, q4, q5.mono s1⟩
  · by_cases hi : i = n
    · subst hi
      rw [List.getElem?_set_self hn] at h1
      cases h1; cases h2
    · by_cases hj : j = n
      · subst hj
        rw [List.getElem?_set_self hn] at h3
        cases h3; cases h4
      · rw [List.getElem?_set_ne (Ne.symm hi)] at h1
        rw [List.getElem?_set_ne (Ne.symm hj)] at h3
        exact k.djh i j s t ys zs a h1 h2 h3 h4
theorem xs_fr (n : Nat) {st : Stmt} {xs : List D} {ρ2 : List Sl} (h : XS X st ρ (.nx ρ1)) (hr : ρ1[n]? = some (.o xs)) (e : ρ1.set n (.d (.list xs)) = ρ2) : XS X st ρ (.nx ρ2) := fun F0 G F H σ k Dn r => h F0 G F H σ k Dn fun σ1 F1 H1 k1 f1 => by
  obtain ⟨F2, k2, f2⟩ := Ok_frz k1 hr
  rw [e] at k2
  exact r σ1 F2 H1 k2 (f1.trans f2)
/-- weaker -/
theorem weak_set (ρ : List Sl) (v : Nat) : Weak ρ (ρ.set v .u) := ⟨by rw [List.length_set], fun i s e => by
  by_cases hi : i = v
  · subst hi
    have hn : i < ρ.length := by
      have := (List.getElem?_eq_some_iff.mp e).1
      rwa [List.length_set] at this
    rw [List.getElem?_set_self hn] at e
    exact .inl (Option.some.inj e).symm
  · rw [List.getElem?_set_ne (Ne.symm hi)] at e
    exact .inr e⟩
theorem Weak.tr {a b c : List Sl} (h1 : Weak a b) (h2 : Weak b c) : Weak a c := ⟨by rw [h2.1, h1.1], fun i s e => by
  rcases h2.2 i s e with z | z
  · exact .inl z
  · exact h1.2 i s z⟩
theorem weak_wipe (ρ : List Sl) : ∀ vs : List Nat, Weak ρ (wipeS ρ vs)
  | [] => Weak.refl _
  | v :: vs => Weak.tr (weak_wipe ρ vs) (weak_set _ v)
theorem lr_in {tg : Expr} {body : List Stmt} {xs : List D} {ρ2 : List Sl} {o : Out} (w : Weak ρ ρ2) (h : ∀ ρ, ρ = ρ2 → True) : True := trivial
end
section
variable {X : Cx} {e a b c tg iter : Expr} {es : List Expr} {ia ib ic : IE} {as : IA} {io : IO} {it ta tb : IT} {ii : II} {ig : IG} {pos p1 p2 p3 : Pos} {nm : Str} {body sa sb : List Stmt} {ba bb : ISs}
theorem out_weak {sts : List Stmt} {ρ : List Sl} {o : Out} (h : XSs X sts ρ o) (vs : List Nat) : XSs X sts ρ (wipeO vs o) := fun F0 G F H σ k Dn q => h F0 G F H σ k Dn (by
  cases o with
  | nx ρ1 => exact fun σ1 F1 H1 k1 f1 => q σ1 F1 H1 (k1.weak (weak_wipe _ vs)) f1
  | ct ρ1 => exact fun σ1 F1 H1 k1 f1 => q σ1 F1 H1 (k1.weak (weak_wipe _ vs)) f1
  | bk ρ1 => exact fun σ1 F1 H1 k1 f1 => q σ1 F1 H1 (k1.weak (weak_wipe _ vs)) f1
  | rt d ρ1 => exact q)
/-! ### statements -/
theorem css_nil : CSs X [] .nil := fun ρ o h => by unfold evSs at h; cases h; exact xss_nil
theorem css_cons {s : Stmt} {ss : List Stmt} {i : IS} {is : ISs} (h1 : CS X s i) (h2 : CSs X ss is) : CSs X (s :: ss) (.cons i is) := fun ρ o h => by
  unfold evSs at h
  obtain ⟨o1, e1, h⟩ := bnd h
  cases o1 with
  | nx ρ1 => exact xss_cons (h1 _ _ e1) (h2 _ _ h)
  | rt d ρ1 => cases h; exact xss_stop (h1 _ _ e1)
  | bk ρ1 => cases h; exact xss_stop (h1 _ _ e1)
  | ct ρ1 => cases h; exact xss_stop (h1 _ _ e1)
theorem cs_set (n : Nat) (hN : X.N.Nodup) (h : CE X e ia) (hi : X.N[n]? = some nm := by rfl) (hx : Loc X.env.scope nm := by first | exact Or.inl rfl | exact Or.inr rfl) (hs : swapsWith e (some (.Name nm p1)) pos.line X.env = pure false := by rfl)
    (hf : X.fn nm = true ∨ X.env.scope.names.lookup nm = some .local := by first | exact .inl rfl | exact .inr rfl | assumption) : CS X (.Assign [.Name nm p1] e pos) (.set n ia) := fun ρ o q => by
  unfold evS at q
  obtain ⟨p, e1, q⟩ := mp q
  cases q
  exact xs_set n hN (h _ _ _ e1) hi hx hs hf
theorem cs_setO (n : Nat) (hN : X.N.Nodup) (h : CO X e io) (hi : X.N[n]? = some nm := by rfl) (hx : Loc X.env.scope nm := by first | exact Or.inl rfl | exact Or.inr rfl) (hs : swapsWith e (some (.Name nm p1)) pos.line X.env = pure false := by rfl)
    (hf : X.fn nm = true ∨ X.env.scope.names.lookup nm = some .local := by first | exact .inl rfl | exact .inr rfl | assumption) : CS X (.Assign [.Name nm p1] e pos) (.setO n io) := fun ρ o q => by
  unfold evS at q
  obtain ⟨p, e1, q⟩ := mp q
  cases q
  exact xs_setO n hN (h _ _ _ e1) hi hx hs hf
theorem cs_setF (n : Nat) (hN : X.N.Nodup) (h : CO X e io) (hi : X.N[n]? = some nm := by rfl) (hx : Loc X.env.scope nm := by first | exact Or.inl rfl | exact Or.inr rfl) (hs : swapsWith e (some (.Name nm p1)) pos.line X.env = pure false := by rfl)
    (hf : X.fn nm = true ∨ X.env.scope.names.lookup nm = some .local := by first | exact .inl rfl | exact .inr rfl | assumption) : CS X (.Assign [.Name nm p1] e pos) (.setF n io) := fun ρ o q => by
  unfold evS at q
  obtain ⟨p, e1, q⟩ := mp q
  cases q
  exact xs_set n hN (h _ _ _ e1).xe hi hx hs hf
theorem cs_setLc (n : Nat) {elt : Expr} {ifs : List Expr} {fs : IT} {ie : IE} {own : List (Str × Nat)} {vs : List Nat} {scope : Scope} (hc : X.calm = true) (hN : X.N.Nodup) (hi : CI X tg iter ii) (ok : BlkOk X.N X.env.scope scope own) (hvs : own.map (·.2) = vs)
    (hg : ∀ s H C cl fp, CG (bX X scope s H C cl fp) tg ig) (ht : ∀ s H C cl fp, CTs (bX X scope s H C cl fp) ifs fs) (he : ∀ s H C cl fp, CE (bX X scope s H C cl fp) elt ie) (hv : ∀ i ∈ ig.vs, i ∈ vs := by decide)
    (hy : X.N[n]? = some nm := by rfl) (hyl : X.env.scope.names.lookup nm = some .local := by rfl) (hsw : swapsWith (.ListComp elt [⟨tg, iter, ifs, 0⟩] scope p2) (some (.Name nm p1)) pos.line X.env = pure true := by exact sw_true rfl rfl rfl (by decide +kernel))
    (hs : ∀ x, foldedSetIterable iter X.env x = pure x := by intro _; rfl) : CS X (.Assign [.Name nm p1] (.ListComp elt [⟨tg, iter, ifs, 0⟩] scope p2) pos) (.setO n (.lc ig ii fs ie vs)) := fun ρ o q => by
  subst hvs
  unfold evS at q
  obtain ⟨p, e1, q⟩ := mp q
  cases q
  unfold evO at e1
  obtain ⟨u, e2, e1⟩ := bnd e1
  obtain ⟨r, e3, e1⟩ := bnd e1
  split at e1
  · rename_i hz
    cases e1
    exact xs_setLc n hc hN (hi _ _ _ e2) ok (lc_of hg hv ht he _ _ _ _ e3) (few_lt hz) hy hyl hsw hs
  · cases e1
theorem cs_frz (n : Nat) {s : Stmt} (h : CS X s (.setO n io)) : CS X s (.setF n io) := fun ρ o q => by
  unfold evS at q
  obtain ⟨p, e1, q⟩ := mp q
  cases q
  have h1 := h ρ (.nx (p.2.set n (.o p.1))) (by unfold evS; rw [e1]; rfl)
  by_cases hn : n < p.2.length
  · exact xs_fr n h1 (List.getElem?_set_self hn) (by rw [List.set_set])
  · rw [List.set_eq_of_length_le (by omega)] at h1 ⊢
    exact h1
theorem cs_dict (n : Nat) (hN : X.N.Nodup) (hi : X.N[n]? = some nm := by rfl) (hx : Loc X.env.scope nm := by first | exact Or.inl rfl | exact Or.inr rfl) (hs : swapsWith (.Dict [] [] p2) (some (.Name nm p1)) pos.line X.env = pure false := by rfl)
    (hf : X.fn nm = true ∨ X.env.scope.names.lookup nm = some .local := by first | exact .inl rfl | exact .inr rfl | assumption) : CS X (.Assign [.Name nm p1] (.Dict [] [] p2) pos) (.setM n) := fun ρ o q => by
  unfold evS at q
  cases q
  exact xs_setM n hN xw_dict hi hx hs hf
theorem cs_tup (h : CE X e ia) (hg : CG X tg ig) (hs : swapsWithSole [tg] e pos.line X.env = pure false := by rfl) (hw : swappedStores [tg] e X.env = pure none := by rfl)
    (h1 : (assignEach [tg] X.env).map (·.2) = [assign tg X.env] := by rfl) : CS X (.Assign [tg] e pos) (.tup ig ia) := fun ρ o q => by
  unfold evS at q
  obtain ⟨p, e1, q⟩ := bnd q
  obtain ⟨ρ1, e2, q⟩ := mp q
  cases q
  exact xs_asg (h _ _ _ e1) (hg _ _ _ e2) hs hw h1
theorem cs_par (n m : Nat) {nm' : Str} {px py pt : Pos} {kt k2 : Nat} {pt2 : Pos} (hc : X.calm = true) (hN : X.N.Nodup) (ha : CE X a ia) (hb : CE X b ib) (hi : X.N[n]? = some nm := by rfl) (hj : X.N[m]? = some nm' := by rfl) (hij : n ≠ m := by decide)
    (hx : X.env.scope.names.lookup nm = some .local := by rfl) (hy : X.env.scope.names.lookup nm' = some .local := by rfl) (hs : starEach [a, b] X.env = (false, eval a X.env) :: starEach [b] X.env := by rfl) (hs' : starEach [b] X.env = (false, eval b X.env) :: starEach [] X.env := by rfl)
    (hw : swappedStores [.Tuple [.Name nm px, .Name nm' py] kt pt] (.Tuple [a, b] k2 pt2) X.env = pure (some [nm, nm']) := by rfl) :
    CS X (.Assign [.Tuple [.Name nm px, .Name nm' py] kt pt] (.Tuple [a, b] k2 pt2) pos) (.par n m ia ib) := fun ρ o q => by
  unfold evS at q
  obtain ⟨p, e1, q⟩ := bnd q
  obtain ⟨r, e2, q⟩ := mp q
  cases q
  exact xs_par n m hc hN (ha _ _ _ e1) (hb _ _ _ e2) hi hj hij hx hy hs hs' hw
theorem cs_parO (n m : Nat) {nm' : Str} {px py pt : Pos} {kt k2 : Nat} {pt2 : Pos} (hc : X.calm = true) (hN : X.N.Nodup) (ha : CE X a ia) (hb : CO X b io) (hi : X.N[n]? = some nm := by rfl) (hj : X.N[m]? = some nm' := by rfl) (hij : n ≠ m := by decide)
    (hx : X.env.scope.names.lookup nm = some .local := by rfl) (hy : X.env.scope.names.lookup nm' = some .local := by rfl) (hs : starEach [a, b] X.env = (false, eval a X.env) :: starEach [b] X.env := by rfl) (hs' : starEach [b] X.env = (false, eval b X.env) :: starEach [] X.env := by rfl)
    (hw : swappedStores [.Tuple [.Name nm px, .Name nm' py] kt pt] (.Tuple [a, b] k2 pt2) X.env = pure (some [nm, nm']) := by rfl) :
    CS X (.Assign [.Tuple [.Name nm px, .Name nm' py] kt pt] (.Tuple [a, b] k2 pt2) pos) (.parO n m ia io) := fun ρ o q => by
  unfold evS at q
  obtain ⟨p, e1, q⟩ := bnd q
  obtain ⟨r, e2, q⟩ := mp q
  cases q
  exact xs_parO n m hc hN (ha _ _ _ e1) (hb _ _ _ e2) hi hj hij hx hy hs hs' hw
theorem updd {n : Nat} {g : List D → List D → Option (List D)} {ρ : List Sl} {o : Out} (h : evS (.upd n g as) ρ = some o) : (∃ s0 xs0, ρ[n]? = some s0 ∧ s0.own = some xs0) ∧ ∃ ds ρ' s xs ys, evA as ρ = some (ds, ρ') ∧ ρ'[n]? = some s ∧ s.own = some xs ∧ g xs ds = some ys ∧ o = .nx (ρ'.set n (s.put ys)) := by
  unfold evS at h
  obtain ⟨xs0, e0, h⟩ := bnd h
  obtain ⟨p, e1, h⟩ := bnd h
  obtain ⟨xs, e2, h⟩ := bnd h
  obtain ⟨q, e3, h⟩ := mp h
  cases h
  obtain ⟨s0, q1, q2⟩ := own_at e0
  obtain ⟨s, q3, q4⟩ := own_at e2
  exact ⟨⟨s0, xs0, q1, q2⟩, _, _, s, xs, _, e1, q3, q4, e3, by rw [put_atE q3]⟩
def gApp (xs : List D) : List D → Option (List D)
  | [x] => if xs.length < 1000000 then some (xs ++ [x]) else none
  | _ => none
theorem cs_app (n : Nat) (h : CE X e ia) (hN : X.N[n]? = some nm := by rfl) (hv : Vis X.env.scope nm := by first | exact Or.inl rfl | exact Or.inr (Or.inl rfl) | exact Or.inr (Or.inr rfl))
    (hd : (nm == ("__debug__" : Str)) = false := by decide) (hcd : (nm == ("__classdict__" : Str)) = false := by decide) (hst : starEach [e] X.env = (false, eval e X.env) :: starEach [] X.env := by rfl)
    (hbm : ∀ (ta te : TE), PE X (.Name nm p1) ta → PE X e te → PE X (.Call (.Attribute (.Name nm p1) "append" p2) [e] [] p3) (tBM X.K "list" rAppend ta (tCons te tNil)) := by exact fun _ _ h1 h2 => pe_bm PySem.F.plainAttrs_list PySem.F.slot_list_append PySem.F.type_list_append mt_append h1 (pa_cons h2 pa_nil))
    (hs : swapsWith (.Call (.Attribute (.Name nm p1) "append" p2) [e] [] p3) none pos.line X.env = pure false := by rfl) : CS X (.Expr (.Call (.Attribute (.Name nm p1) "append" p2) [e] [] p3) pos) (.upd n gApp (.cons ia .nil)) := fun ρ o q => by
  obtain ⟨h0, ds, ρ', s, xs, ys, e1, e2, e3, e4, rfl⟩ := updd q
  obtain ⟨x, rfl, e5⟩ := a1 e1
  have e4 : (if xs.length < 1000000 then some (xs ++ [x]) else none) = some ys := e4
  split at e4
  · rename_i hl
    cases e4
    exact xs_append n (h _ _ _ e5) e2 e3 hl h0 hN hv hd hcd hst hbm hs
  · cases e4
theorem cs_store (n : Nat) (h : CE X e ia) (hb : CE X b ib) (hN : X.N[n]? = some nm := by rfl) (hv : Vis X.env.scope nm := by first | exact Or.inl rfl | exact Or.inr (Or.inl rfl) | exact Or.inr (Or.inr rfl))
    (hd : (nm == ("__debug__" : Str)) = false := by decide) (hcd : (nm == ("__classdict__" : Str)) = false := by decide)
    (hg : ∀ (ta tb : TE), PE X (.Name nm p1) ta → PE X b tb → PG X (.Subscript (.Name nm p1) b p2) (gSub ta tb L2.rSetL) := by exact fun _ _ h1 h2 => pg_sub h1 h2 set_list)
    (hs : swapsWithSole [.Subscript (.Name nm p1) b p2] e pos.line X.env = pure false := by rfl) (hw : swappedStores [.Subscript (.Name nm p1) b p2] e X.env = pure none := by rfl)
    (h1 : (assignEach [.Subscript (.Name nm p1) b p2] X.env).map (·.2) = [assign (.Subscript (.Name nm p1) b p2) X.env] := by rfl) : CS X (.Assign [.Subscript (.Name nm p1) b p2] e pos) (.store n ia ib) := fun ρ o q => by
  unfold evS at q
  obtain ⟨p, e1, q⟩ := bnd q
  obtain ⟨xs0, e0, q⟩ := bnd q
  obtain ⟨r, e2, q⟩ := bnd q
  obtain ⟨xs, e3, q⟩ := bnd q
  obtain ⟨s0, q1, q2⟩ := own_at e0
  obtain ⟨s, q3, q4⟩ := own_at e3
  have hb := hb _ _ _ e2
  split at q
  · rename_i i hi
    obtain ⟨m, e5, q⟩ := mp q
    cases q
    rw [hi] at hb
    rw [put_atE q3]
    exact xs_setitem n m (h _ _ _ e1) hb q3 q4 e5 ⟨s0, xs0, q1, q2⟩ hN hv hd hcd hg hs hw h1
  · cases q
theorem cs_putK (n : Nat) (hu : X.A.units + 1 < cLine) (h : CE X e ia) (hb : CE X b ib) (hN : X.N[n]? = some nm := by rfl) (hv : Vis X.env.scope nm := by first | exact Or.inl rfl | exact Or.inr (Or.inl rfl) | exact Or.inr (Or.inr rfl))
    (hd : (nm == ("__debug__" : Str)) = false := by decide) (hcd : (nm == ("__classdict__" : Str)) = false := by decide)
    (hg : ∀ (ta tb : TE), X.A.units + 1 < cLine → PE X (.Name nm p1) ta → PE X b tb → PG X (.Subscript (.Name nm p1) b p2) (gSub ta tb rSetD) := by exact fun _ _ hu h1 h2 => pg_sub h1 h2 (set_dict hu))
    (hs : swapsWithSole [.Subscript (.Name nm p1) b p2] e pos.line X.env = pure false := by rfl) (hw : swappedStores [.Subscript (.Name nm p1) b p2] e X.env = pure none := by rfl)
    (h1 : (assignEach [.Subscript (.Name nm p1) b p2] X.env).map (·.2) = [assign (.Subscript (.Name nm p1) b p2) X.env] := by rfl) : CS X (.Assign [.Subscript (.Name nm p1) b p2] e pos) (.putK n ia ib) := fun ρ o q => by
  unfold evS at q
  obtain ⟨p, e1, q⟩ := bnd q
  obtain ⟨k0, e2, q⟩ := bnd q
  obtain ⟨r, e3, q⟩ := bnd q
  obtain ⟨kvs, e4, q⟩ := bnd q
  split at q
  · rename_i hz
    have hb := hb _ _ _ e3
    split at q
    · rename_i i hi
      cases q
      rw [hi] at hb
      exact xs_putKP n kvs (.inl i) hu (h _ _ _ e1) hb ⟨_, dic_at e2⟩ (dic_at e4) hz rfl hN hv hd hcd hg hs hw h1
    · rename_i i hi
      cases q
      rw [hi] at hb
      exact xs_putKP n kvs (.inr i) hu (h _ _ _ e1) hb ⟨_, dic_at e2⟩ (dic_at e4) hz rfl hN hv hd hcd hg hs hw h1
    · cases q
  · cases q
theorem cs_ex (h : CE X e ia) (hs : swapsWith e none pos.line X.env = pure false := by rfl) : CS X (.Expr e pos) (.ex ia) := fun ρ o q => by
  unfold evS at q
  obtain ⟨p, e1, q⟩ := mp q
  cases q
  exact xs_expr (h _ _ _ e1) hs
theorem cs_ret (h : CE X e ia) : CS X (.Return (some e) pos) (.ret ia) := fun ρ o q => by
  unfold evS at q
  obtain ⟨p, e1, q⟩ := mp q
  cases q
  exact xs_ret (h _ _ _ e1)
theorem cs_if (hc : CT X c ta) (h1 : CSs X sa ba) (h2 : CSs X sb bb) : CS X (.If c sa sb pos) (.ife ta ba bb) := fun ρ o q => by
  unfold evS at q
  obtain ⟨p, e1, q⟩ := bnd q
  obtain ⟨k, ρ1⟩ := p
  refine xs_if (hc _ _ _ e1) (fun z => ?_) (fun z => ?_)
  · subst z; rw [if_pos rfl] at q; exact h1 _ _ q
  · subst z; rw [if_neg Bool.false_ne_true] at q; exact h2 _ _ q
theorem cs_pass : CS X (.Pass pos) .pass := fun ρ o q => by
  unfold evS at q
  cases q
  exact .of ps_pass fun F0 G F H σ k Dn q => q σ F H k (Same.refl _)
theorem cs_brk : CS X (.Break pos) .brk := fun ρ o q => by
  unfold evS at q
  cases q
  exact .of ps_break fun F0 G F H σ k Dn q => q σ F H k (Same.refl _)
theorem cs_cnt : CS X (.Continue pos) .cnt := fun ρ o q => by
  unfold evS at q
  cases q
  exact .of ps_continue fun F0 G F H σ k Dn q => q σ F H k (Same.refl _)
theorem cs_stuck {s : Stmt} : CS X s .stuck := fun ρ o q => by unfold evS at q; cases q
theorem lr_of {vs : List Nat} (hg : CG X tg ig) (hb : CSs X body ba) : ∀ (xs : List D) (ρ : List Sl) (o : Out), foGo (fun x ρ => (evG ig x ρ).bind fun ρ1 => (evSs ba ρ1).map (wipeO vs)) xs ρ = some o → LR X tg body xs ρ o
  | [], ρ, o, h => by unfold foGo at h; cases h; exact .nil
  | x :: xs, ρ, o, h => by
    unfold foGo at h
    obtain ⟨o1, e1, h⟩ := bnd h
    obtain ⟨ρ1, e2, e1⟩ := bnd e1
    obtain ⟨o2, e3, e1⟩ := mp e1
    have hb1 := out_weak (hb _ _ e3) vs
    rw [e1] at hb1
    cases o1 with
    | nx ρ2 => exact .next (hg _ _ _ e2) hb1 (lr_of hg hb xs _ _ h)
    | ct ρ2 => exact .cont (hg _ _ _ e2) hb1 (lr_of hg hb xs _ _ h)
    | bk ρ2 => cases h; exact .brk (hg _ _ _ e2) hb1
    | rt d ρ2 => cases h; exact .ret (hg _ _ _ e2) hb1
theorem xi_weak {ρ ρ1 ρ2 : List Sl} {xs : List D} (h : XI X tg e ρ xs ρ1) (w : Weak ρ1 ρ2) : XI X tg e ρ xs ρ2 := fun F0 G F H σ k R q => h F0 G F H σ k R fun J F1 H1 k1 => q J F1 H1 (k1.weak w)
theorem cs_for {vs : List Nat} (hc : X.calm = true) (hi : CI X tg iter ii) (hg : CG X tg ig) (hb : CSs X body ba) (hp : PassesOwn (model X.prog X.w) X.A X.env X.xe := by exact PassesOwn.never) (hfs : ∀ x, foldedSetIterable iter X.env x = pure x := by intro _; rfl) : CS X (.For tg iter body [] pos) (.fo ig ii ba vs) := fun ρ o q => by
  unfold evS at q
  obtain ⟨p, e1, q⟩ := bnd q
  exact xs_for hp hc (xi_weak (hi _ _ _ e1) (weak_wipe _ vs)) (lr_of hg hb _ _ _ q) hfs
theorem wr_of {vs : List Nat} (hc : CT X c ta) (hb : CSs X body ba) : ∀ (n : Nat) (ρ : List Sl) (o : Out), whGo (evT ta) (fun ρ => (evSs ba ρ).map (wipeO vs)) n ρ = some o → WR X c body n ρ o
  | 0, ρ, o, h => by
    unfold whGo at h
    obtain ⟨p, e1, h⟩ := bnd h
    obtain ⟨k, ρ1⟩ := p
    cases k with
    | true => rw [if_pos rfl] at h; cases h
    | false => rw [if_neg Bool.false_ne_true] at h; cases h; exact .stop (hc _ _ _ e1)
  | n + 1, ρ, o, h => by
    unfold whGo at h
    obtain ⟨p, e1, h⟩ := bnd h
    obtain ⟨k, ρ1⟩ := p
    cases k with
    | true =>
      rw [if_pos rfl] at h
      obtain ⟨o1, e2, h⟩ := bnd h
      obtain ⟨o2, e3, e2⟩ := mp e2
      have hb1 := out_weak (hb _ _ e3) vs
      rw [e2] at hb1
      cases o1 with
      | nx ρ2 => exact .next (hc _ _ _ e1) hb1 (wr_of hc hb n _ _ h)
      | rt d ρ2 => cases h; exact .ret (hc _ _ _ e1) hb1
      | bk ρ2 => cases h; exact .bk (hc _ _ _ e1) hb1
      | ct ρ2 => exact .ct (hc _ _ _ e1) hb1 (wr_of hc hb n _ _ h)
    | false => rw [if_neg Bool.false_ne_true] at h; cases h; exact .stop (hc _ _ _ e1)
theorem cs_while {n : Nat} {vs : List Nat} (hc : CT X c ta) (hb : CSs X body ba) (hp : PassesOwn (model X.prog X.w) X.A X.env X.xe := by exact PassesOwn.never) : CS X (.While c body [] pos) (.wh n ta ba vs) := fun ρ o q => by
  unfold evS at q
  exact xs_in (xs_while hp (wr_of hc hb _ _ _ q)) (weak_wipe _ vs)
end
/-! ### defs -/
section
variable {P : Program} {w : World} {K : PySem.W.Frag} {mg : Str → Option Value} {base : Heap} {x qual : Str} {st : Stmt} {f : Addr} {fd : FuncData} {N ps : List Str} {k : Nat}
theorem fn_i {body : ISs} (F : Fun K x qual st f fd) (S : FnScope N ps (defScope st)) (hps : ps.length ≤ N.length)
    (hb : ∀ (cdv : Value) (A : Around) (outer : List Env) (s : Shared) (H : Hp) (E : XK), Room k (A.deeper (envOfC qual (defScope st) s.heap.objs.size f cdv)) → CSs (fX P w K mg base N qual st f cdv A outer s H E) (defBody st) body) :
    FnOk P w K mg base CX0 (k + 1) f fd ps (spD K ps.length fun ds d => runD N.length body ds = some d) :=
  fn_D F S hps fun cdv A outer s H E ds d hl hr hR => by
    unfold runD at hR
    obtain ⟨o, e1, e2⟩ := bnd hR
    have h := hb cdv A outer s H E hr _ _ e1
    cases o with
    | rt d' ρ' => cases e2; exact ⟨_, _, .rt, h⟩
    | nx ρ' => cases e2; exact ⟨_, _, .nx rfl, h⟩
    | bk ρ' => cases e2
    | ct ρ' => cases e2
/-- a def that changes its first argument, a list -/
def RunB (n : Nat) (body : ISs) (rs ds : List D) (d : D) (rs' : List D) : Prop := ∀ a : Addr, ∃ o ρ, evSs body (startS n (.b a rs :: args ds)) = some o ∧ DL.Fin d o ρ ∧ ρ[0]? = some (.b a rs')
theorem fn_iB {body : ISs} (F : Fun K x qual st f fd) (S : FnScope N ps (defScope st)) (hps : ps.length ≤ N.length)
    (hb : ∀ (cdv : Value) (A : Around) (outer : List Env) (s : Shared) (H : Hp) (E : XK), Room k (A.deeper (envOfC qual (defScope st) s.heap.objs.size f cdv)) → CSs (fX P w K mg base N qual st f cdv A outer s H E) (defBody st) body) :
    FnOk P w K mg base CX0 (k + 1) f fd ps (spB K ps.length (RunB N.length body)) :=
  fn_B F S hps fun cdv A outer s H E a rs ds d rs' hl hr hR => by
    obtain ⟨o, ρ, e1, e2, e3⟩ := hR a
    exact ⟨o, ρ, e2, e3, hb cdv A outer s H E hr _ _ e1⟩
end
end DI
set_option Elab.async false
set_option linter.all false
set_option maxRecDepth 100000
set_option maxHeartbeats 2000000
namespace DI
open PySem PySem.Spec PyProof.Rows L2 DL
section
variable {X : Cx}
/-! ### operators -/
theorem br_addS {i j : Str} (h : i.length + j.length ≤ 1000000) : BR X (binaryOp .Add) (.str i) (.str j) (.str (i ++ j)) := ⟨_, op_add_str, fun F H v w Q fh h1 h2 q => by
  cases h1; cases h2
  exact ⟨i, j, rfl, rfl, Nat.le_trans h (by decide), q _ F H (.refl fh) (.str _)⟩⟩
theorem br_addT {xs ys : List D} (h : xs.length + ys.length ≤ 1000000) : BR X (binaryOp .Add) (.tuple xs) (.tuple ys) (.tuple (xs ++ ys)) := ⟨_, op_catA, fun F H v w Q fh h1 h2 q => by
  cases h1 with
  | @tup a vs _ s1 r1 =>
    cases h2 with
    | @tup b ws _ s2 r2 =>
      refine ⟨a, b, vs, ws, rfl, rfl, sqT_mono fh s1, sqT_mono fh s2, by rw [r1.length, r2.length]; exact Nat.le_trans h (by decide), fun e => ?_, fun e e2 => ?_, fun e e2 p hp => ?_⟩
      · subst e
        have : xs = [] := by cases xs with
          | nil => rfl
          | cons _ _ => cases r1
        subst this
        exact q _ F H (.refl fh) (.tup s2 r2)
      · subst e2
        have : ys = [] := by cases ys with
          | nil => rfl
          | cons _ _ => cases r2
        subst this
        exact q _ F H (.refl fh) (by rw [List.append_nil]; exact .tup s1 r1)
      · have gr : Gr F H (upd F p (.tup (vs ++ ws))) (upd H p (.tup (vs ++ ws))) := .laid fh hp
        exact q _ _ _ gr (.tup upd_same (rps_mono gr.f _ _ (Rps.append r1 r2)))⟩
def gAdd : List D → Option D
  | [.int i, .int j] => some (.int (i + j))
  | [.list xs, .list ys] => if xs.length + ys.length ≤ 1000000 then some (.list (xs ++ ys)) else none
  | [.tuple xs, .tuple ys] => if xs.length + ys.length ≤ 1000000 then some (.tuple (xs ++ ys)) else none
  | [.str i, .str j] => if i.length + j.length ≤ 1000000 then some (.str (i ++ j)) else none
  | _ => none
theorem br_gAdd : ∀ x y z, gAdd [x, y] = some z → BR X (binaryOp .Add) x y z := fun x y z h => by
  unfold gAdd at h
  split at h
  · rename_i e; cases e; cases h; exact br_add
  · rename_i e; cases e; split at h
    · rename_i hz; cases h; exact (bro_cat hz).br
    · cases h
  · rename_i e; cases e; split at h
    · rename_i hz; cases h; exact br_addT hz
    · cases h
  · rename_i e; cases e; split at h
    · rename_i hz; cases h; exact br_addS hz
    · cases h
  · cases h
def gSub : List D → Option D
  | [.int i, .int j] => some (.int (i - j))
  | _ => none
theorem br_gSub : ∀ x y z, gSub [x, y] = some z → BR X (binaryOp .Sub) x y z := fun x y z h => by
  unfold gSub at h
  split at h
  · rename_i e; cases e; cases h; exact br_sub
  · cases h
instance (i j : Int) : Decidable (CMul i j) := by unfold CMul; infer_instance
instance (i j : Int) : Decidable (CDiv i j) := by unfold CDiv; infer_instance
instance (i j : Int) : Decidable (CPow i j) := by unfold CPow; infer_instance
def gMul : List D → Option D
  | [.int i, .int j] => if CMul i j then some (.int (i * j)) else none
  | _ => none
theorem br_gMul : ∀ x y z, gMul [x, y] = some z → BR X (binaryOp .Mult) x y z := fun x y z h => by
  unfold gMul at h
  split at h
  · rename_i e; cases e
    split at h
    · rename_i hz; cases h; exact br_mul hz
    · cases h
  · cases h
def gDiv : List D → Option D
  | [.int i, .int j] => if CDiv i j then some (.int (i / j)) else none
  | _ => none
theorem br_gDiv : ∀ x y z, gDiv [x, y] = some z → BR X (binaryOp .FloorDiv) x y z := fun x y z h => by
  unfold gDiv at h
  split at h
  · rename_i e; cases e
    split at h
    · rename_i hz; cases h; exact br_fdiv hz
    · cases h
  · cases h
def gMod : List D → Option D
  | [.int i, .int j] => if 0 < j then some (.int (i % j)) else none
  | _ => none
theorem br_gMod : ∀ x y z, gMod [x, y] = some z → BR X (binaryOp .Mod) x y z := fun x y z h => by
  unfold gMod at h
  split at h
  · rename_i e; cases e
    split at h
    · rename_i hz; cases h; exact br_mod hz
    · cases h
  · cases h
def gPow : List D → Option D
  | [.int i, .int j] => if CPow i j then some (.int (i ^ j.toNat)) else none
  | _ => none
theorem br_gPow : ∀ x y z, gPow [x, y] = some z → BR X (binaryOp .Pow) x y z := fun x y z h => by
  unfold gPow at h
  split at h
  · rename_i e; cases e
    split at h
    · rename_i hz; cases h; exact br_pow hz
    · cases h
  · cases h
/-! comparisons -/
def gLt : List D → Option Bool
  | [.int i, .int j] => some (decide (i < j))
  | _ => none
def gLe : List D → Option Bool
  | [.int i, .int j] => some (decide (i ≤ j))
  | _ => none
def gGt : List D → Option Bool
  | [.int i, .int j] => some (decide (j < i))
  | _ => none
def gGe : List D → Option Bool
  | [.int i, .int j] => some (decide (j ≤ i))
  | _ => none
theorem br_gLt : ∀ x y z, gLt [x, y] = some z → BR X (compareOp .Lt) x y (.bool z) := fun x y z h => by
  unfold gLt at h
  split at h
  · rename_i e; cases e; cases h; exact br_lt
  · cases h
theorem br_gLe : ∀ x y z, gLe [x, y] = some z → BR X (compareOp .LtE) x y (.bool z) := fun x y z h => by
  unfold gLe at h
  split at h
  · rename_i e; cases e; cases h; exact br_le
  · cases h
theorem br_gGt : ∀ x y z, gGt [x, y] = some z → BR X (compareOp .Gt) x y (.bool z) := fun x y z h => by
  unfold gGt at h
  split at h
  · rename_i e; cases e; cases h; exact br_gt
  · cases h
theorem br_gGe : ∀ x y z, gGe [x, y] = some z → BR X (compareOp .GtE) x y (.bool z) := fun x y z h => by
  unfold gGe at h
  split at h
  · rename_i e; cases e; cases h; exact br_ge
  · cases h
theorem dec_strV (i j : Str) : decide (V.str i = V.str j) = decide (i = j) := by by_cases h : i = j <;> simp [h]
theorem br_eqS {i j : Str} : BR X (compareOp .Eq) (.str i) (.str j) (.bool (decide (i = j))) :=
  ⟨_, op_eq, fun F H v w Q fh h1 h2 q => by
    cases h1; cases h2
    refine ⟨rfl, ?_⟩
    rw [dec_strV]
    exact q _ F H (.refl fh) (.bl _)⟩
theorem br_neS {i j : Str} : BR X (compareOp .NotEq) (.str i) (.str j) (.bool (!decide (i = j))) :=
  ⟨_, op_ne, fun F H v w Q fh h1 h2 q => by
    cases h1; cases h2
    refine ⟨rfl, ?_⟩
    rw [dec_strV]
    exact q _ F H (.refl fh) (.bl _)⟩
def gEq : List D → Option Bool
  | [.int i, .int j] => some (decide (i = j))
  | [.bool i, .bool j] => some (i == j)
  | [.str i, .str j] => some (decide (i = j))
  | [x, y] => if SeqAt.shaped x = true ∧ SeqAt.shaped y = true then some (PyData.eqv x y) else none
  | _ => none
theorem br_gEq (hu : X.A.units + 64 < cLine) : ∀ x y z, gEq [x, y] = some z → BR X (compareOp .Eq) x y (.bool z) := fun x y z h => by
  unfold gEq at h
  split at h
  · rename_i e; cases e; cases h; exact br_eqI
  · rename_i e; cases e; cases h; exact br_eqB
  · rename_i e; cases e; cases h; exact br_eqS
  · rename_i e; cases e
    split at h
    · rename_i hz; cases h; exact br_eqD hu hz.1 hz.2
    · cases h
  · cases h
def gNe (ds : List D) : Option Bool := (gEq ds).map (!·)
theorem br_gNe (hu : X.A.units + 64 < cLine) : ∀ x y z, gNe [x, y] = some z → BR X (compareOp .NotEq) x y (.bool z) := fun x y z h => by
  obtain ⟨k, h', hz⟩ := mp (show (gEq [x, y]).map (!·) = some z from h)
  subst hz
  clear h
  have h := h'
  clear h'
  unfold gEq at h
  split at h
  · rename_i e; cases e; cases h; exact br_neI
  · rename_i e; cases e; cases h; exact br_neB
  · rename_i e; cases e; cases h; exact br_neS
  · rename_i e; cases e
    split at h
    · rename_i hz; obtain rfl := Option.some.inj h; exact br_neD hu hz.1 hz.2
    · cases h
  · cases h
def gIs : List D → Option Bool
  | [x, .none] => some (isNo x)
  | _ => none
theorem br_gIs : ∀ x y z, gIs [x, y] = some z → BR X (compareOp .Is) x y (.bool z) := fun x y z h => by
  unfold gIs at h
  split at h
  · rename_i e; cases e; cases h; exact br_isN
  · cases h
def gNis : List D → Option Bool
  | [x, .none] => some (!isNo x)
  | [.bool i, .bool j] => some (!decide (i = j))
  | _ => none
theorem br_gNis : ∀ x y z, gNis [x, y] = some z → BR X (compareOp .IsNot) x y (.bool z) := fun x y z h => by
  unfold gNis at h
  split at h
  · rename_i e; cases e; cases h; exact br_notN
  · rename_i e; cases e; cases h; exact br_notB
  · cases h
/-! x in a list or tuple of numbers, texts, None, bools -/
def flatD : D → Bool
  | .none => true
  | .bool _ => true
  | .int _ => true
  | .str _ => true
  | _ => false
def eqF : D → D → Bool
  | .none, .none => true
  | .bool a, .bool b => a == b
  | .bool a, .int b => (if a then 1 else 0) == b
  | .int a, .bool b => a == (if b then 1 else 0)
  | .int a, .int b => a == b
  | .str a, .str b => a == b
  | _, _ => false
theorem flat_rp {K : PySem.W.Frag} {F : Hp} {v : V} {x : D} (h : Rp K F v x) (f : flatD x = true) : flatV v = true := by
  cases h <;> first | rfl | (cases f; done)
theorem eqF_rp {K : PySem.W.Frag} {F : Hp} {v w : V} {x y : D} (h : Rp K F v x) (f : flatD x = true) (h2 : Rp K F w y) (f2 : flatD y = true) : eqV v w = eqF x y := by
  cases h <;> cases h2 <;> first | rfl | (cases f; done) | (cases f2; done)
theorem flat_all {K : PySem.W.Frag} {F : Hp} : ∀ {xs : List D} {vs : List V}, Rps K F vs xs → xs.all flatD = true → vs.all flatV = true
  | [], _, h, _ => by cases h; rfl
  | x :: xs, _, h, f => by
    cases h with
    | cons h1 h2 =>
      rw [List.all_cons, Bool.and_eq_true] at f ⊢
      exact ⟨flat_rp h1 f.1, flat_all h2 f.2⟩
theorem in_rp {K : PySem.W.Frag} {F : Hp} {v : V} {x : D} (h : Rp K F v x) (f : flatD x = true) : ∀ {xs : List D} {vs : List V}, Rps K F vs xs → xs.all flatD = true → inV v vs = xs.any fun y => eqF y x
  | [], _, r, _ => by cases r; rfl
  | y :: xs, _, r, g => by
    cases r with
    | cons r1 r2 =>
      rw [List.all_cons, Bool.and_eq_true] at g
      have := in_rp h f r2 g.2
      unfold inV at this ⊢
      rw [List.any_cons, List.any_cons, this, eqF_rp r1 g.1 h f]
/-- data of any form in a list or tuple of such -/
def wideD (x : D) (xs : List D) : Bool := x.canLay0 && decide (x.depth ≤ 60) && PyData.canLayAll0 xs
def rInDL (K : PySem.W.Frag) (neg : Bool) : L2.R2 := fun x y H Q => ∃ d ds, Dp K H x d ∧ (Dp K H y (.list ds) ∨ Dp K H y (.tuple ds)) ∧ wideD d ds = true ∧ Q (.bl (if neg then !(ds.any fun y => PyData.eqv y d) else ds.any fun y => PyData.eqv y d)) H
theorem wide_at {x : D} {xs : List D} (h : wideD x xs = true) : x.canLay0 = true ∧ x.depth ≤ 60 ∧ PyData.canLayAll0 xs = true := by
  unfold wideD at h
  rw [Bool.and_eq_true, Bool.and_eq_true] at h
  exact ⟨h.1.1, of_decide_eq_true h.1.2, h.2⟩
theorem op_inDL (hu : X.A.units + 64 < cLine) : OpR X (compareOp .In) (rInDL X.K false) := by
  intro pins s σ H x y v u Q I rx ry h
  obtain ⟨d, ds, hd, he, hw, q⟩ := h
  obtain ⟨w1, w2, w3⟩ := wide_at hw
  obtain ⟨as, r1⟩ := Dp.reads I d x v hd rx
  have hm : min (PyData.depthAll ds) d.depth ≤ d.depth := Nat.min_le_right _ _
  rcases he with he | he
  · obtain ⟨bs, r2⟩ := Dp.reads I _ y u he ry
    exact SeqAt.in_list_data r2 r1 (PyData.plainAll_of_canLay0 ds w3) (PyData.plain_of_canLay0 d w1) (by omega) ⟨.bl _, H, I, rfl, q⟩
  · obtain ⟨bs, r2⟩ := Dp.reads I _ y u he ry
    exact SeqAt.in_tuple_data r2 r1 (PyData.plainAll_of_canLay0 ds w3) (PyData.plain_of_canLay0 d w1) (by omega) ⟨.bl _, H, I, rfl, q⟩
theorem op_ninDL (hu : X.A.units + 64 < cLine) : OpR X (compareOp .NotIn) (rInDL X.K true) := by
  intro pins s σ H x y v u Q I rx ry h
  obtain ⟨d, ds, hd, he, hw, q⟩ := h
  obtain ⟨w1, w2, w3⟩ := wide_at hw
  obtain ⟨as, r1⟩ := Dp.reads I d x v hd rx
  have hm : min (PyData.depthAll ds) d.depth ≤ d.depth := Nat.min_le_right _ _
  rcases he with he | he
  · obtain ⟨bs, r2⟩ := Dp.reads I _ y u he ry
    exact SeqAt.notIn_list_data r2 r1 (PyData.plainAll_of_canLay0 ds w3) (PyData.plain_of_canLay0 d w1) (by omega) ⟨.bl _, H, I, rfl, q⟩
  · obtain ⟨bs, r2⟩ := Dp.reads I _ y u he ry
    exact SeqAt.notIn_tuple_data r2 r1 (PyData.plainAll_of_canLay0 ds w3) (PyData.plain_of_canLay0 d w1) (by omega) ⟨.bl _, H, I, rfl, q⟩
def inL (x : D) (xs : List D) : Option Bool := if flatD x = true ∧ xs.all flatD = true then some (xs.any fun y => eqF y x) else if wideD x xs = true then some (xs.any fun y => PyData.eqv y x) else none
def gIn : List D → Option Bool
  | [x, .list xs] => inL x xs
  | [x, .tuple xs] => inL x xs
  | _ => none
/-- x in xs, the list being tracked -/
theorem in_run {K : PySem.W.Frag} {X : Cx} (hK : X.K = K) (hu : X.A.units + 64 < cLine) (neg : Bool) {x : D} {xs : List D} {z : Bool} (h : inL x xs = some z) : ∃ R : L2.R2, OpR X (compareOp (if neg then .NotIn else .In)) R ∧ ∀ (F H : Hp) (v : V) (a : Addr) (vs : List V) (Q : VK), Rp K F v x → Same F H → Rps K F vs xs → (H a = some (.lst vs) ∨ H a = some (.tup vs)) → Q (.bl (if neg then !z else z)) H → R v (.ref a) H Q := by
  subst hK
  unfold inL at h
  split at h
  · rename_i hz
    cases h
    cases neg with
    | false =>
      refine ⟨_, op_in_seq, fun F H v a vs Q h1 fh r s q => ⟨a, vs, rfl, ?_, flat_rp h1 hz.1, flat_all r hz.2, ?_⟩⟩
      · exact s.elim (fun s => .inl (.of s)) fun s => .inr (.of s)
      · rw [if_neg Bool.false_ne_true, in_rp h1 hz.1 r hz.2]; exact q
    | true =>
      refine ⟨_, op_notIn_seq, fun F H v a vs Q h1 fh r s q => ⟨a, vs, rfl, ?_, flat_rp h1 hz.1, flat_all r hz.2, ?_⟩⟩
      · exact s.elim (fun s => .inl (.of s)) fun s => .inr (.of s)
      · rw [if_pos rfl, in_rp h1 hz.1 r hz.2]; exact q
  · split at h
    · rename_i hw
      cases h
      obtain ⟨w1, w2, w3⟩ := wide_at hw
      have go : ∀ (F H : Hp) (v : V) (a : Addr) (vs : List V), Rp X.K F v x → Same F H → Rps X.K F vs xs → (H a = some (.lst vs) ∨ H a = some (.tup vs)) → Dp X.K H v x ∧ (Dp X.K H (.ref a) (.list xs) ∨ Dp X.K H (.ref a) (.tuple xs)) := fun F H v a vs h1 fh r s =>
        ⟨rp_dp _ _ (rp_mono fh _ _ h1) w1, s.elim (fun s => .inl (.lst (.of s) (rps_dp _ _ (rps_mono fh _ _ r) w3))) fun s => .inr (.tup (.of s) (rps_dp _ _ (rps_mono fh _ _ r) w3))⟩
      cases neg with
      | false =>
        refine ⟨_, op_inDL hu, fun F H v a vs Q h1 fh r s q => ?_⟩
        obtain ⟨g1, g2⟩ := go F H v a vs h1 fh r s
        exact ⟨x, xs, g1, g2, hw, q⟩
      | true =>
        refine ⟨_, op_ninDL hu, fun F H v a vs Q h1 fh r s q => ?_⟩
        obtain ⟨g1, g2⟩ := go F H v a vs h1 fh r s
        exact ⟨x, xs, g1, g2, hw, q⟩
    · cases h
theorem br_gIn (hu : X.A.units + 64 < cLine) : ∀ x y z, gIn [x, y] = some z → BR X (compareOp .In) x y (.bool z) := fun x y z h => by
  unfold gIn at h
  split at h
  · rename_i e; cases e
    obtain ⟨R, o, g⟩ := in_run rfl hu false h
    exact ⟨R, o, fun F H v w Q fh h1 h2 q => by
      cases h2 with
      | lst s r => exact g F H v _ _ Q h1 fh r (.inl (fh _ _ s)) (q _ F H (.refl fh) (.bl _))⟩
  · rename_i e; cases e
    obtain ⟨R, o, g⟩ := in_run rfl hu false h
    exact ⟨R, o, fun F H v w Q fh h1 h2 q => by
      cases h2 with
      | tup s r => exact g F H v _ _ Q h1 fh r (.inr (fh _ _ s)) (q _ F H (.refl fh) (.bl _))⟩
  · cases h
def gNin (ds : List D) : Option Bool := (gIn ds).map (!·)
theorem br_gNin (hu : X.A.units + 64 < cLine) : ∀ x y z, gNin [x, y] = some z → BR X (compareOp .NotIn) x y (.bool z) := fun x y z h => by
  obtain ⟨k, h', hz⟩ := mp (show (gIn [x, y]).map (!·) = some z from h)
  subst hz
  clear h
  have h := h'
  clear h'
  unfold gIn at h
  split at h
  · rename_i e; cases e
    obtain ⟨R, o, g⟩ := in_run rfl hu true h
    exact ⟨R, o, fun F H v w Q fh h1 h2 q => by
      cases h2 with
      | lst s r => exact g F H v _ _ Q h1 fh r (.inl (fh _ _ s)) (q _ F H (.refl fh) (.bl _))⟩
  · rename_i e; cases e
    obtain ⟨R, o, g⟩ := in_run rfl hu true h
    exact ⟨R, o, fun F H v w Q fh h1 h2 q => by
      cases h2 with
      | tup s r => exact g F H v _ _ Q h1 fh r (.inr (fh _ _ s)) (q _ F H (.refl fh) (.bl _))⟩
  · cases h
theorem op_leq : ∃ r, OpR X (compareOp .LtE) r := ⟨_, op_le⟩
theorem op_ltq : ∃ r, OpR X (compareOp .Lt) r := ⟨_, op_lt⟩
/-! ### built-ins -/
def gLen : List D → Option D
  | [.list xs] => some (.int xs.length)
  | [.tuple xs] => some (.int xs.length)
  | [.dict [(.none, .none), (.none, .list xs)]] => some (.int xs.length)
  | _ => none
theorem cr_gLen : ∀ ds z, gLen ds = some z → CR X (.builtin "len") ds z := fun ds z h => by
  unfold gLen at h
  split at h
  · cases h; exact cr_lenL
  · cases h; exact cr_lenT
  · cases h; exact cr_lenS
  · cases h
def gInt : List D → Option D
  | [.int i] => some (.int i)
  | [.bool k] => some (.int (if k then 1 else 0))
  | _ => none
theorem cr_gInt : ∀ ds z, gInt ds = some z → CR X (.type "int") ds z := fun ds z h => by
  unfold gInt at h
  split at h
  · cases h; exact cr_intI
  · cases h; exact cr_intB
  · cases h
def gTuple : List D → Option D
  | [.list xs] => some (.tuple xs)
  | [.tuple xs] => some (.tuple xs)
  | _ => none
theorem cr_gTuple : ∀ ds z, gTuple ds = some z → CR X (.type "tuple") ds z := fun ds z h => by
  unfold gTuple at h
  split at h
  · cases h; exact cr_tupleL
  · cases h; exact cr_tupleT
  · cases h
def gList : List D → Option (List D)
  | [.list xs] => some xs
  | [.tuple xs] => some xs
  | _ => none
theorem cro_gList : ∀ ds z, gList ds = some z → CRO X (.type "list") ds z := fun ds z h => by
  unfold gList at h
  split at h
  · cases h; exact cro_listL
  · cases h; exact cro_listT
  · cases h
def bls : List D → Option (List Bool)
  | [] => some []
  | .bool b :: r => (bls r).map (b :: ·)
  | _ => none
theorem bls_map : ∀ ns : List Bool, bls (ns.map .bool) = some ns
  | [] => rfl
  | n :: ns => by simp [bls, bls_map ns]
theorem bls_eq : ∀ {ds : List D} {ns : List Bool}, bls ds = some ns → ds = ns.map .bool
  | [], _, h => by cases h; rfl
  | .bool i :: r, ns, h => by
    unfold bls at h
    obtain ⟨m, e, h⟩ := mp h
    cases h
    rw [bls_eq e]
    rfl
def gAll : List D → Option D
  | [.list xs] => (bls xs).map fun bs => .bool (bs.all id)
  | _ => none
theorem cr_gAll (hc : X.calm = true) : ∀ ds z, gAll ds = some z → CR X (.builtin "all") ds z := fun ds z h => by
  unfold gAll at h
  split at h
  · obtain ⟨bs, e, h⟩ := mp h
    cases h
    rw [bls_eq e]
    exact crd_all hc
  · cases h
def gAny : List D → Option D
  | [.list xs] => (bls xs).map fun bs => .bool (bs.any id)
  | _ => none
theorem cr_gAny (hc : X.calm = true) : ∀ ds z, gAny ds = some z → CR X (.builtin "any") ds z := fun ds z h => by
  unfold gAny at h
  split at h
  · obtain ⟨bs, e, h⟩ := mp h
    cases h
    rw [bls_eq e]
    exact crd_any hc
  · cases h
def gMin : List D → Option D
  | [.int i, .int j] => some (.int (if j < i then j else i))
  | _ => none
theorem cr_gMin (hc : X.calm = true) : ∀ ds z, gMin ds = some z → CR X (.builtin "min") ds z := fun ds z h => by
  unfold gMin at h
  split at h
  · cases h; exact cr_min2 hc
  · cases h
def gMax : List D → Option D
  | [.int i, .int j] => some (.int (if j > i then j else i))
  | _ => none
theorem cr_gMax2 (hc : X.calm = true) : ∀ ds z, gMax ds = some z → CR X (.builtin "max") ds z := fun ds z h => by
  unfold gMax at h
  split at h
  · cases h; exact cr_max2 hc
  · cases h
/-! isinstance -/
def gIsi (T : String) : List D → Option D
  | [x] => if dctB x = true then none else (kitB (tyD x) T).map .bool
  | _ => none
theorem ce_isi {e : Expr} {ie : IE} {nm2 : Str} {T : String} {p p2 pos : Pos} (h : CE X e ie) (hm : X.mg "isinstance" = none) (hm2 : X.mg nm2 = none) (hv2 : bootBuiltins nm2 = some (.type T)) (hg : Gl X "isinstance" := by rfl) (hg2 : Gl X nm2 := by rfl) (hn2 : nm2 ≠ "__name__" := by decide) (hdb2 : (nm2 == ("__debug__" : Str)) = false := by decide)
    (q1 : starEach [e, .Name nm2 p2] X.env = (false, eval e X.env) :: starEach [.Name nm2 p2] X.env := by rfl) (q2 : starEach [.Name nm2 p2] X.env = (false, eval (.Name nm2 p2) X.env) :: starEach [] X.env := by rfl) (q3 : ((backTo pos (starEach [.Name nm2 p2] X.env)).any fun x => x.fst) = false := by rfl) :
    CE X (.Call (.Name "isinstance" p) [e, .Name nm2 p2] [] pos) (.f (gIsi T) (.cons ie .nil)) := fun ρ d ρ' q => by
  obtain ⟨ds, e1, e2⟩ := ff q
  obtain ⟨x, rfl, e3⟩ := a1 e1
  have e2 : (if dctB x = true then none else (kitB (tyD x) T).map PyData.bool) = some d := e2
  split at e2
  · cases e2
  · rename_i hx
    obtain ⟨b, e4, e5⟩ := mp e2
    subst e5
    exact xe_isi (h _ _ _ e3) e4 hg hm b_isinstance hg2 hm2 hv2 (by decide) (by decide) hn2 hdb2 q1 q2 q3 (Bool.eq_false_iff.mpr hx)
/-! ### texts -/
def gStr : List D → Option D
  | [.int i] => if i.natAbs.log2 < 1920 then some (.str (toString i)) else none
  | [.str s] => some (.str s)
  | _ => none
theorem cr_strI {i : Int} (h : i.natAbs.log2 < 1920) : CR X (.type "str") [.int i] (.str (toString i)) := ⟨_, call_str_int, fun F H vs Q fh hh q => by
  obtain ⟨v, rfl, h1⟩ := rps1 hh
  cases h1
  exact ⟨i, rfl, h, q _ F H (.refl fh) (.str _)⟩⟩
end
end DI
set_option Elab.async false
set_option linter.all false
set_option maxRecDepth 100000
set_option maxHeartbeats 2000000
namespace DI
open PySem PySem.Spec PyProof.Rows L2 DL
section
variable {X : Cx}
theorem cr_strS {i : Str} : CR X (.type "str") [.str i] (.str i) := ⟨_, SkE.call_str_str, fun F H vs Q fh hh q => by
  obtain ⟨v, rfl, h1⟩ := rps1 hh
  cases h1
  exact ⟨i, rfl, q _ F H (.refl fh) (.str _)⟩⟩
theorem cr_gStr : ∀ ds z, gStr ds = some z → CR X (.type "str") ds z := fun ds z h => by
  unfold gStr at h
  split at h
  · split at h
    · rename_i hz; cases h; exact cr_strI hz
    · cases h
  · cases h; exact cr_strS
  · cases h
/-! sep.join(texts) -/
def toS : List D → Option (List Str)
  | [] => some []
  | .str b :: r => (toS r).map (b :: ·)
  | _ => none
theorem toS_map : ∀ ns : List Str, toS (ns.map .str) = some ns
  | [] => rfl
  | n :: ns => by simp [toS, toS_map ns]
theorem toS_eq : ∀ {ds : List D} {ns : List Str}, toS ds = some ns → ds = ns.map .str
  | [], _, h => by cases h; rfl
  | .str i :: r, ns, h => by
    unfold toS at h
    obtain ⟨m, e, h⟩ := mp h
    cases h
    rw [toS_eq e]
    rfl
theorem rps_toS {K : PySem.W.Frag} {H : Hp} : ∀ {ns : List Str} {vs : List V}, Rps K H vs (ns.map .str) → vs = ns.map V.str
  | [], _, h => by cases h; rfl
  | n :: ns, _, h => by
    cases h with
    | cons h1 h2 =>
      cases h1
      rw [rps_toS h2]
      rfl
def joinOk (a : Str) (ys : List Str) : Bool := decide ((ys.map (·.length)).sum + ys.length * a.length ≤ 16777216)
def gJoin : List D → Option D
  | [.str a, .list xs] => (toS xs).bind fun ys => if joinOk a ys = true then some (.str (Str.join a ys)) else none
  | [.str a, .tuple xs] => (toS xs).bind fun ys => if joinOk a ys = true then some (.str (Str.join a ys)) else none
  | _ => none
theorem ce_join {e o : Expr} {ie io : IE} {p2 p3 : Pos} (ho : CE X o io) (h : CE X e ie) (hst : starEach [e] X.env = (false, eval e X.env) :: starEach [] X.env := by rfl)
    (hbm : ∀ (to te : TE), PE X o to → PE X e te → PE X (.Call (.Attribute o "join" p2) [e] [] p3) (tBM X.K "str" (fun x xs H Q => ∃ a p, ∃ ys : List Str, x = .str a ∧ xs = [.ref p] ∧ (SqL X.K H p (ys.map V.str) ∨ SqT X.K H p (ys.map V.str)) ∧ (ys.map (·.length)).sum + ys.length * a.length ≤ 16777216 ∧ Q (.str (Txt.join a ys)) H) to (tCons te tNil)) := by
      exact fun _ _ h1 h2 => pe_bm PySem.F.plainAttrs_str PySem.F.slot_str_join PySem.F.type_str_join mt_join h1 (pa_cons h2 pa_nil)) :
    CE X (.Call (.Attribute o "join" p2) [e] [] p3) (.f gJoin (.cons io (.cons ie .nil))) := fun ρ d ρ' q => by
  obtain ⟨ds, e1, e2⟩ := ff q
  obtain ⟨x, y, ρ1, rfl, e3, e4⟩ := a2 e1
  have ho := ho _ _ _ e3
  have h := h _ _ _ e4
  refine XE.of (hbm _ _ (pcE o) (pcE e)) fun F0 G F H σ k Q q => ho F0 G F H σ k _ fun v F1 H1 k1 f1 d1 => ?_
  unfold gJoin at e2
  split at e2
  · rename_i a xs hb
    cases hb
    obtain ⟨ys, e5, e2⟩ := bnd e2
    split at e2
    · rename_i hz
      cases e2
      cases d1
      refine ⟨rfl, h F0 G F1 H1 σ k1 _ fun w F2 H2 k2 f2 d2 => ?_⟩
      rw [toS_eq e5] at d2
      cases d2 with
      | @lst p vs _ s r =>
        rw [rps_toS r] at s
        refine ⟨a, p, ys, rfl, rfl, .inl (.of (k2.fh _ _ s)), of_decide_eq_true hz, ?_⟩
        rw [TL.join_eq]
        exact q _ F2 H2 k2 (f1.trans f2) (.str _)
    · cases e2
  · rename_i a xs hb
    cases hb
    obtain ⟨ys, e5, e2⟩ := bnd e2
    split at e2
    · rename_i hz
      cases e2
      cases d1
      refine ⟨rfl, h F0 G F1 H1 σ k1 _ fun w F2 H2 k2 f2 d2 => ?_⟩
      rw [toS_eq e5] at d2
      cases d2 with
      | @tup p vs _ s r =>
        rw [rps_toS r] at s
        refine ⟨a, p, ys, rfl, rfl, .inr (sqT_mono k2.fh s), of_decide_eq_true hz, ?_⟩
        rw [TL.join_eq]
        exact q _ F2 H2 k2 (f1.trans f2) (.str _)
    · cases e2
  · cases e2
/-! f'..' -/
def fsOk (y : Str) : Bool := decide (y.length ≤ 16777216)
/-- {x}: a text or a number -/
def gFmt : List D → Option D
  | [.int i] => if i.natAbs.log2 < 1920 then some (.str (toString i)) else none
  | [.str s] => if s.length ≤ 1000000 then some (.str s) else none
  | _ => none
theorem ce_fmt {e : Expr} {ie : IE} {pos : Pos} (h : CE X e ie) : CE X (.FormattedValue e (-1) none pos) (.f gFmt (.cons ie .nil)) := fun ρ d ρ' q => by
  obtain ⟨ds, e1, e2⟩ := ff q
  obtain ⟨x, rfl, e3⟩ := a1 e1
  have h := h _ _ _ e3
  refine XE.of (pe_fmt (pcE e)) fun F0 G F H σ k Q q => h F0 G F H σ k _ fun v F1 H1 k1 f1 d1 => ?_
  unfold gFmt at e2
  split at e2
  · rename_i hb
    cases hb
    split at e2
    · rename_i hz
      cases e2
      cases d1
      exact .inr ⟨_, rfl, hz, q _ F1 H1 k1 f1 (.str _)⟩
    · cases e2
  · rename_i hb
    cases hb
    split at e2
    · rename_i hz
      cases e2
      cases d1
      exact .inl ⟨_, rfl, Nat.le_trans hz (by decide), q _ F1 H1 k1 f1 (.str _)⟩
    · cases e2
  · cases e2
def fGo : List Str → Str → Option Str
  | [], acc => some acc
  | y :: ys, acc => if (acc ++ y).length ≤ 1000000 then fGo ys (acc ++ y) else none
def gFs (ds : List D) : Option D := (toS ds).bind fun ys => (fGo ys Str.empty).map .str
/-- the parts -/
inductive CJ (X : Cx) : List Expr → IA → Prop
  | nil : CJ X [] .nil
  | cons {e : Expr} {ie : IE} {es : List Expr} {as : IA} : CE X e ie → CJ X es as → CJ X (e :: es) (.cons ie as)
theorem js_run {es : List Expr} {as : IA} (h : CJ X es as) : ∃ ts, PJ X es ts ∧ ∀ (acc : Str) (ρ : List Sl) (ds : List D) (ρ' : List Sl) (ys : List Str) (out : Str), evA as ρ = some (ds, ρ') → toS ds = some ys → fGo ys acc = some out →
    ∀ (F0 G F H : Hp) (σ : L2.St), Ok X.K F0 G F H σ ρ → ∀ Q : Str → Hp → Prop, (∀ F' H', Ok X.K F0 G F' H' σ ρ' → Same F F' → Q out H') → tJs ts acc σ H Q := by
  induction h with
  | nil =>
    refine ⟨[], .nil, fun acc ρ ds ρ' ys out e1 e2 e3 F0 G F H σ k Q q => ?_⟩
    unfold evA at e1
    cases e1
    cases e2
    cases e3
    exact q F H k (Same.refl _)
  | @cons e ie es as h1 _ ih =>
    obtain ⟨ts, pj, g⟩ := ih
    refine ⟨_ :: ts, .cons (pcE e) pj, fun acc ρ ds ρ' ys out e1 e2 e3 F0 G F H σ k Q q => ?_⟩
    unfold evA at e1
    obtain ⟨p, e4, e1⟩ := bnd e1
    obtain ⟨r, e5, e1⟩ := mp e1
    cases e1
    obtain ⟨x, ρ1⟩ := p
    cases x with
    | str y =>
      have e2 : (toS r.1).map (y :: ·) = some ys := e2
      obtain ⟨zs, e6, rfl⟩ := mp e2
      unfold fGo at e3
      split at e3
      · rename_i hz
        refine h1 _ _ _ e4 F0 G F H σ k _ fun v F1 H1 k1 f1 d1 => ?_
        cases d1
        exact ⟨y, rfl, Nat.le_trans hz (by decide), g (acc ++ y) ρ1 r.1 r.2 zs out e5 e6 e3 F0 G F1 H1 σ k1 Q fun F2 H2 k2 f2 => q F2 H2 k2 (f1.trans f2)⟩
      · cases e3
    | _ => cases e2
theorem ce_fs {v1 v2 : Expr} {rest : List Expr} {as : IA} {pos : Pos} (h : CJ X (v1 :: v2 :: rest) as) : CE X (.JoinedStr (v1 :: v2 :: rest) pos) (.f gFs as) := fun ρ d ρ' q => by
  obtain ⟨ds, e1, e2⟩ := ff q
  obtain ⟨ys, e3, e2⟩ := bnd (show (toS ds).bind (fun ys => (fGo ys Str.empty).map PyData.str) = some d from e2)
  obtain ⟨out, e4, rfl⟩ := mp e2
  obtain ⟨ts, pj, g⟩ := js_run h
  exact XE.of (pe_joined pj) fun F0 G F H σ k Q q => g Str.empty ρ ds ρ' ys out e1 e3 e4 F0 G F H σ k _ fun F1 H1 k1 f1 => q _ F1 H1 k1 f1 (.str _)
/-! ### enumerate(t, start=k) -/
theorem cw_type_kw {M : Model} {A : Around} {E : Value → Shared → Prop} {s : Shared} {env : Env} {pos : Pos} {T : String} {e : Expr} {rest : List Expr} {kws : List Keyword} {Q : Value → Shared → Prop}
    (h : wpAny M A (spliced (backTo pos (starEach (e :: rest) env))) (fun vs s₁ => wpAny M A (evalAll ((backToKw pos (keywordEach kws env)).map (·.2)))
      (fun kvs s₂ => wpAny M A (call (.type T) vs (((backToKw pos (keywordEach kws env)).filterMap (·.1)).zip kvs)) Q E s₂) E s₁) E s)
    (he : backTo pos (starEach (e :: rest) env) = (false, eval e env) :: backTo pos (starEach rest env) := by rfl)
    (hplain : (backTo pos (starEach (e :: rest) env)).any (·.1) = false := by rfl)
    (hall : (backToKw pos (keywordEach kws env)).all (·.1.isSome) = true := by rfl)
    (hkw : (backToKw pos (keywordEach kws env)).any (·.1.isNone) = false := by rfl) :
    wpAny M A (callWith pos (.type T) [] (backTo pos (starEach (e :: rest) env)) (backToKw pos (keywordEach kws env))) Q E s := by
  unfold callWith
  refine wpAny_bind (wpAny_holding (wpAny_mono (?_ : wpAny M A (evalArgs _ _ _ _) (fun a s₁ => wpAny M A (call (.type T) ([] ++ a.pos) a.kw) Q E s₁) E s) (fun a s₁ h₁ => wpAny_bind (wpAny_standAt ?_)) fun _ _ x => x))
  · rw [he] at h ⊢
    exact evalArgs_kwB hall h
  · simp only [hplain, hkw, Bool.or_false]
    refine wpAny_bind (wpAny_pure ?_)
    exact wpAny_bind (wpAny_mono h₁ (fun r s₂ hr => wpAny_bind (wpAny_holding (wpAny_point (wpAny_pure hr)))) fun _ _ x => x)
/-- the tuple at a with numbers from k on: new pairs -/
def IteK (K : PySem.W.Frag) (k0 : Int) (a : Addr) : It :=
  ⟨fun i H => ∃ (xs : List V) (x : V), SqT K H a xs ∧ xs[i]? = some x, fun i H v H' => ∃ T x, v = .ref T ∧ H T = none ∧ H' = upd H T (.tup [.int (k0 + (i : Nat)), x]) ∧ ∀ xs, SqT K H a xs → xs[i]? = some x, fun i H => ∃ xs : List V, SqT K H a xs ∧ xs.length = i⟩
theorem turn_enumK {P : Program} {w : World} {K : PySem.W.Frag} {elts : List Expr} {kk : Nat} {tpos : Pos} (k0 : Int) (a e it : Addr) :
    Turn P w K (.Tuple elts kk tpos) (IteK K k0 a) [e, it] e (fun i h => (∃ old, IsEnum h e it (k0 + ((i : Nat) : Int)) old) ∧ h.IsTupleIter it a i ∧ e ≠ it) where
  mem := List.mem_cons_self
  obj := fun i h st b hb => by
    obtain ⟨⟨old, he⟩, ⟨o, ho, hc, hd⟩, _⟩ := st
    rcases List.mem_cons.mp hb with z | z
    · rw [z]; exact ⟨_, he, fun v q => by cases q⟩
    · rw [List.mem_singleton.mp z]; exact ⟨o, ho, fun v q => by rw [hd] at q; cases q⟩
  keep := fun i h h' st k => let ⟨⟨old, he⟩, hi, hne⟩ := st; ⟨⟨old, k e List.mem_cons_self _ he⟩, hi.at fun o q => k it (List.mem_cons_of_mem _ List.mem_cons_self) o q, hne⟩
  item := by
    intro X hP hw hK hc i pins s σ H E I hf st hg
    subst hP hw hK
    obtain ⟨⟨old, he⟩, hit, hne⟩ := st
    obtain ⟨xs, x, hq, hx⟩ := hg
    obtain ⟨its, rv, p, hz⟩ := I.tuple hq
    obtain ⟨u, hu, ru⟩ := rv.get hx
    have lt_e : e < s.heap.objs.size := Heap.lt_size he
    have lt_it : it < s.heap.objs.size := by obtain ⟨_, q, _⟩ := id hit; exact Heap.lt_size q
    have apart : ∀ b ∈ [e, it], b ≠ a := fun b hb z => by
      subst z
      have tup : ∃ o, s.heap.get? b = some o ∧ o.cls = .type "tuple" := by
        obtain ⟨o, ho, hc, _⟩ := p
        exact ⟨o, ho, hc⟩
      obtain ⟨o, ho, hc⟩ := tup
      rcases List.mem_cons.mp hb with z | z
      · subst z
        have he' : s.heap.get? b = some _ := he
        rw [he'] at ho
        rw [← Option.some.inj ho] at hc
        exact absurd hc (by simp)
      · obtain ⟨o', ho', hc', _⟩ := hit
        rw [List.mem_singleton.mp z] at ho
        rw [ho'] at ho
        rw [← Option.some.inj ho, hc'] at hc
        exact absurd hc (by simp)
    have hlt : i < its.toArray.size := by
      rw [List.size_toArray]
      exact (List.getElem?_eq_some_iff.mp hu).1
    have W := GoesN.enumFrom (prog := X.prog) (w := X.w) (A := X.A) (elts := elts) (x1 := kk) (pos := tpos) k0 (Draws.tuple (prog := X.prog) (w := X.w) (A := X.A.in1) (I.ok.hd hc) it a (Ne.symm (apart it (by simp))) its.toArray) e hne (by simp only [List.mem_cons, List.not_mem_nil, or_false, not_or]; exact ⟨hne, apart e (by simp)⟩) (by simp)
    refine W.goes i s _ E hlt ⟨⟨old, he⟩, hit, p⟩ fun v h' tk hY st' hk htk => ?_
    obtain ⟨T, t, y, rfl, hT, hy, hTup⟩ := hY
    have ey : y = u := by
      have q : its.toArray[i]? = some y := hy
      rw [List.getElem?_toArray, hu] at q
      exact (Option.some.inj q).symm
    subst ey
    have new : ObjOk X.prog X.w (upd H T (.tup [.int (k0 + (i : Nat)), x])) h' T (.tup [.int (k0 + (i : Nat)), x]) :=
      ⟨by show 2 ≤ sizeLine; decide, [.int (k0 + (i : Nat)) t, y], .cons ⟨t, rfl⟩ (.cons ru .nil), hTup⟩
    have I1 : Inv X pins σ (upd H T (.tup [.int (k0 + (i : Nat)), x])) { s with heap := h', toks := tk } := I.turnedNew (ch := [e, it]) hk hf hT new
    obtain ⟨⟨old', he'⟩, hit', _⟩ := st'
    refine ⟨.ref T, _, I1, rfl, ⟨T, x, rfl, I.hok.fresh hT, rfl, fun ys hys => by rw [I.tuple_inj hys hq]; exact hx⟩, ⟨⟨old', he'⟩, hit', hne⟩, fun b hb => ?_⟩
    have hb' : b < s.heap.objs.size := by
      rcases List.mem_cons.mp hb with z | z
      · rw [z]; exact lt_e
      · rw [List.mem_singleton.mp z]; exact lt_it
    rw [upd_ne (Nat.ne_of_lt (Nat.lt_of_lt_of_le hb' hT))]
    exact (hf b hb).1
  done := by
    intro X hP hw hK hc i pins s σ H E I hf st hg
    subst hP hw hK
    obtain ⟨⟨old, he⟩, hit, hne⟩ := st
    obtain ⟨xs, hq, hx⟩ := hg
    obtain ⟨its, rv, p, hz⟩ := I.tuple hq
    have hn : its.toArray.size = i := by rw [List.size_toArray, ← rv.length, hx]
    obtain ⟨f0, f1, f2, f3, f4, f5⟩ := hf it (by simp)
    have nit : a ≠ it := fun z => by
      obtain ⟨o, ho, hc, _⟩ := p
      obtain ⟨o', ho', hc', _⟩ := hit
      rw [z, ho'] at ho
      rw [← Option.some.inj ho, hc'] at hc
      exact absurd hc (by simp)
    exact wpAny_pyNext_enum_endD (Draws.tuple (prog := X.prog) (w := X.w) (A := X.A.in1) (I.ok.hd hc) it a nit its.toArray) he ⟨by rw [hn]; exact hit, p⟩ fun h' eb => ⟨rfl, I.turned (t' := s.toks) (fun b o hb q => eb b o hb q) f0 f1 f3 f4 f5⟩
  self := fun A i s Q E st h => let ⟨⟨_, he⟩, _⟩ := st; wpAny_pyIter_enum he h
def iEnumK (K : PySem.W.Frag) (k0 : Int) (ta tk : TA) : TI := fun σ H R => ta σ H fun vs H1 => tk σ H1 fun zs H2 => ∃ a xs, vs = [.ref a] ∧ zs = [.int k0] ∧ SqT K H2 a xs ∧ R (IteK K k0 a) H2
theorem pi_enumK {e : Expr} {ta tk : TA} {p pos tpos : Pos} {elts : List Expr} {kk : Nat} {k0 : Int} {kws : List Keyword} (hk0 : -(2 ^ 63) ≤ k0) (hk1 : k0 < 2 ^ 63) (hg : Gl X "enumerate") (hm : X.mg "enumerate" = none) (ha : PA X [e] ta) (hk : PK X kws tk)
    (he : backTo pos (starEach [e] X.env) = (false, eval e X.env) :: backTo pos (starEach [] X.env) := by rfl) (hpl : (backTo pos (starEach [e] X.env)).any (·.1) = false := by rfl)
    (hall : (backToKw pos (keywordEach kws X.env)).all (·.1.isSome) = true := by rfl) (hnone : (backToKw pos (keywordEach kws X.env)).any (·.1.isNone) = false := by rfl) (hks : (backToKw pos (keywordEach kws X.env)).filterMap (·.1) = [Str.ofString "start"] := by rfl) :
    PI X (.Tuple elts kk tpos) (.Call (.Name "enumerate" p) [e] kws pos) (iEnumK X.K k0 ta tk) := by
  refine ⟨fun pins s σ H R I h => ?_⟩
  refine wpAny_Call_Name_kw (ld_blt I hg hm boot_enumerate ?_)
  refine cw_type_kw (thn (ha.run pos pins s σ H _ I h) fun us s1 ⟨vs, H1, I1, r1, q1⟩ => thn (hk.run pos pins s1 σ H1 _ I1 q1) fun ws s2 ⟨zs, H2, I2, r2, q2⟩ => ?_) he hpl hall hnone
  rw [hks]
  obtain ⟨a, xs, rfl, rfl, hq, q⟩ := q2
  rw [Vals.ref1 r1]
  cases r2 with
  | cons r rr =>
    cases rr
    obtain ⟨t, rfl⟩ := r
    obtain ⟨its, rv, p', hz⟩ := I2.tuple hq
    refine enum_begins_start (begins_tuple a its.toArray) p' hk0 hk1 fun h' he hit _ hk => wpAny_pyIter_enum he ?_
    refine ⟨s2.heap.objs.size + 1, [s2.heap.objs.size + 1, s2.heap.objs.size], _, _, H2, rfl, I2.kept (t' := s2.toks) hk, turn_enumK k0 a (s2.heap.objs.size + 1) s2.heap.objs.size, ⟨⟨.none, by rw [show ((0 : Nat) : Int) = 0 from rfl, Int.add_zero]; exact he⟩, ⟨_, hit, rfl, rfl⟩, Nat.succ_ne_self _⟩, fun b hb => ?_, q⟩
    have le : s2.heap.objs.size ≤ b := by
      rcases List.mem_cons.mp hb with z | z
      · rw [z]; exact Nat.le_add_right _ _
      · rw [List.mem_singleton.mp z]; exact Nat.le_refl _
    exact I2.fpOk le (I2.hok.fresh le)
def enumKD (k0 : Int) (xs : List D) : List D := xs.mapIdx fun i x => .tuple [.int (k0 + (i : Nat)), x]
theorem enumKD_at {k0 : Int} {xs : List D} {i : Nat} {d : D} (h : (enumKD k0 xs)[i]? = some d) : ∃ x, xs[i]? = some x ∧ d = .tuple [.int (k0 + (i : Nat)), x] := by
  unfold enumKD at h
  rw [List.getElem?_mapIdx, Option.map_eq_some_iff] at h
  obtain ⟨x, h1, h2⟩ := h
  exact ⟨x, h1, h2.symm⟩
theorem enumKD_len (k0 : Int) (xs : List D) : (enumKD k0 xs).length = xs.length := List.length_mapIdx
def gEnumK : List D → Option (List D)
  | [.tuple xs, .int k0] => if small k0 = true then some (enumKD k0 xs) else none
  | _ => none
theorem ci_enumK {e ek : Expr} {ie ik : IE} {p pos tpos kpos : Pos} {elts : List Expr} {kk : Nat} (hm : X.mg "enumerate" = none) (h1 : CE X e ie) (h2 : CE X ek ik) (hg : Gl X "enumerate" := by rfl) (hst : starEach [e] X.env = (false, eval e X.env) :: starEach [] X.env := by rfl)
    (hpi : ∀ (k0 : Int) (te tk : TE), -(2 ^ 63) ≤ k0 → k0 < 2 ^ 63 → Gl X "enumerate" → X.mg "enumerate" = none → PE X e te → PE X ek tk → PI X (.Tuple elts kk tpos) (.Call (.Name "enumerate" p) [e] [⟨some "start", ek, kpos⟩] pos) (iEnumK X.K k0 (tCons te tNil) (tCons tk tNil)) := by exact fun k0 te tk h1 h2 hg hm h3 h4 => pi_enumK h1 h2 hg hm (pa_cons h3 pa_nil) (pk_cons h4 pk_nil)) :
    CI X (.Tuple elts kk tpos) (.Call (.Name "enumerate" p) [e] [⟨some "start", ek, kpos⟩] pos) (.f gEnumK (.cons ie (.cons ik .nil))) := fun ρ d ρ' q => by
  obtain ⟨ds, e1, e2⟩ := fi q
  obtain ⟨x, y, ρ1, rfl, e3, e4⟩ := a2 e1
  have h1 := h1 _ _ _ e3
  have h2 := h2 _ _ _ e4
  unfold gEnumK at e2
  split at e2
  · rename_i xs k0 hb
    cases hb
    split at e2
    · rename_i hz
      have hz := small_is hz
      cases e2
      refine XI.of (hpi k0 _ _ (by omega) (by omega) hg hm (pcE e) (pcE ek)) fun F0 G F H σ k R q => ?_
      show cE X e σ H _
      refine h1 F0 G F H σ k _ fun v F1 H1 k1 f1 d1 => ?_
      show cE X ek σ H1 _
      refine h2 F0 G F1 H1 σ k1 _ fun w F2 H2 k2 f2 d2 => ?_
      cases d1 with
      | @tup a vs _ s r =>
        cases d2
        refine ⟨a, vs, rfl, rfl, sqT_mono (f2.trans k2.fh) s, q _ F2 H2 k2 (f1.trans f2) ⟨fun i H3 f3 hi => ?_, fun H3 f3 => ⟨vs, sqT_mono (f2.trans f3) s, by rw [Rps.length r, enumKD_len]⟩, fun i H3 x H4 F3 f3 f4 hy d hd => ?_⟩⟩
        · rw [enumKD_len] at hi
          obtain ⟨y, hy⟩ := atN (xs := vs) (i := i) (by rw [Rps.length r]; exact hi)
          exact ⟨vs, y, sqT_mono (f2.trans f3) s, hy⟩
        · obtain ⟨T, y, rfl, hT, rfl, hy⟩ := hy
          obtain ⟨x', h5, rfl⟩ := enumKD_at hd
          obtain ⟨w, e5, e6⟩ := Rps.get r h5
          have := hy vs (sqT_mono ((f2.trans f3).trans f4) s)
          rw [e5] at this
          cases this
          exact new_pair f4 hT (rp_mono (f2.trans f3) _ _ e6)
    · cases e2
  · cases e2
end
end DI
set_option Elab.async false
set_option linter.all false
set_option maxRecDepth 100000
set_option maxHeartbeats 2000000
/-! a lent list's address changes nothing -/
namespace DI
open PySem PySem.Spec PyProof.Rows L2 DL
def reb (a : Addr) : Sl → Sl
  | .b _ xs => .b a xs
  | s => s
section
variable {a : Addr}
theorem reb_own (s : Sl) : (reb a s).own = s.own := by cases s <;> rfl
theorem reb_put (s : Sl) (xs : List D) : (reb a s).put xs = reb a (s.put xs) := by cases s <;> rfl
theorem reb_kept (s : Option Sl) : Sl.kept (s.map (reb a)) = reb a (Sl.kept s) := by
  cases s with
  | none => rfl
  | some s => cases s <;> rfl
abbrev R (a : Addr) (ρ : List Sl) : List Sl := ρ.map (reb a)
theorem R_set (ρ : List Sl) (n : Nat) (s : Sl) : R a (ρ.set n s) = (R a ρ).set n (reb a s) := List.map_set
theorem R_at (ρ : List Sl) (n : Nat) : (R a ρ)[n]? = (ρ[n]?).map (reb a) := List.getElem?_map ..
theorem R_own (ρ : List Sl) (n : Nat) : ownAt (R a ρ) n = ownAt ρ n := by
  unfold ownAt
  rw [R_at]
  cases ρ[n]? with
  | none => rfl
  | some s => exact reb_own s
theorem R_dic (ρ : List Sl) (n : Nat) : dicAt (R a ρ) n = dicAt ρ n := by
  unfold dicAt
  rw [R_at]
  cases ρ[n]? with
  | none => rfl
  | some s => cases s <;> rfl
theorem R_tup (ρ : List Sl) (n : Nat) : tupAt (R a ρ) n = tupAt ρ n := by
  unfold tupAt
  rw [R_at]
  cases ρ[n]? with
  | none => rfl
  | some s => cases s <;> rfl
theorem R_n (ρ : List Sl) (n : Nat) : nAt (R a ρ) n = nAt ρ n := by
  unfold nAt
  rw [R_at]
  cases ρ[n]? with
  | none => rfl
  | some s => cases s <;> rfl
theorem R_put (ρ : List Sl) (n : Nat) (xs : List D) : putAt (R a ρ) n xs = R a (putAt ρ n xs) := by
  unfold putAt
  rw [R_at]
  cases ρ[n]? with
  | none => rfl
  | some s => show (R a ρ).set n ((reb a s).put xs) = _; rw [reb_put, R_set]
theorem R_wipe (ρ : List Sl) : ∀ vs : List Nat, wipeS (R a ρ) vs = R a (wipeS ρ vs)
  | [] => rfl
  | v :: vs => by unfold wipeS; rw [R_wipe ρ vs, R_set]; rfl
theorem R_back (ρ0 ρ : List Sl) : ∀ vs : List Nat, backS (R a ρ0) (R a ρ) vs = R a (backS ρ0 ρ vs)
  | [] => rfl
  | v :: vs => by unfold backS; rw [R_back ρ0 ρ vs, R_set, R_at, reb_kept]
abbrev R2 {α : Type} (a : Addr) (p : α × List Sl) : α × List Sl := (p.1, R a p.2)
def RO (a : Addr) : Out → Out
  | .nx ρ => .nx (R a ρ)
  | .rt d ρ => .rt d (R a ρ)
  | .bk ρ => .bk (R a ρ)
  | .ct ρ => .ct (R a ρ)
theorem bindR {α β : Type} {o : Option (α × List Sl)} {f f' : α × List Sl → Option β} {g : β → β} (h : ∀ p, f' (R2 a p) = (f p).map g) : (o.map (R2 a)).bind f' = (o.bind f).map g := by
  cases o with
  | none => rfl
  | some p => exact h p
theorem mapR {α β : Type} {o : Option (α × List Sl)} {f f' : α × List Sl → β} {g : β → β} (h : ∀ p, f' (R2 a p) = g (f p)) : (o.map (R2 a)).map f' = (o.map f).map g := by
  cases o with
  | none => rfl
  | some p => exact congrArg some (h p)
theorem bindS {α β : Type} {o : Option α} {f f' : α → Option β} {g : β → β} (h : ∀ p, f' p = (f p).map g) : o.bind f' = (o.bind f).map g := by
  cases o with
  | none => rfl
  | some p => exact h p
theorem mapS {α β : Type} {o : Option α} {f f' : α → β} {g : β → β} (h : ∀ p, f' p = g (f p)) : o.map f' = (o.map f).map g := by
  cases o with
  | none => rfl
  | some p => exact congrArg some (h p)
theorem iteR {β : Type} {c : Prop} [Decidable c] {x y x' y' : Option β} {g : β → β} (h1 : x' = x.map g) (h2 : y' = y.map g) : (if c then x' else y') = (if c then x else y).map g := by
  by_cases h : c
  · rw [if_pos h, if_pos h, h1]
  · rw [if_neg h, if_neg h, h2]
theorem bindL {β : Type} {o : Option (List Sl)} {f f' : List Sl → Option β} {g : β → β} (h : ∀ p, f' (R a p) = (f p).map g) : (o.map (R a)).bind f' = (o.bind f).map g := by
  cases o with
  | none => rfl
  | some p => exact h p
theorem lcR {f f' : D → List Sl → Option (Option D × List Sl)} (h : ∀ x ρ, f' x (R a ρ) = (f x ρ).map (R2 a)) : ∀ (xs : List D) (ρ : List Sl), lcGo f' xs (R a ρ) = (lcGo f xs ρ).map (R2 a)
  | [], ρ => rfl
  | x :: xs, ρ => by
    unfold lcGo
    rw [h x ρ]
    refine bindR fun p => ?_
    show (lcGo f' xs (R a p.2)).map _ = _
    rw [lcR h xs p.2]
    exact mapR fun q => rfl
theorem lc2R {f f' : D → List Sl → Option (List D × List Sl)} (h : ∀ x ρ, f' x (R a ρ) = (f x ρ).map (R2 a)) : ∀ (xs : List D) (ρ : List Sl), lc2Go f' xs (R a ρ) = (lc2Go f xs ρ).map (R2 a)
  | [], ρ => rfl
  | x :: xs, ρ => by
    unfold lc2Go
    rw [h x ρ]
    refine bindR fun p => ?_
    show (lc2Go f' xs (R a p.2)).map _ = _
    rw [lc2R h xs p.2]
    exact mapR fun q => rfl
mutual
theorem natG : ∀ (g : IG) (d : D) (ρ : List Sl), evG g d (R a ρ) = (evG g d ρ).map (R a)
  | .n k, d, ρ => by unfold evG; show some _ = some _; rw [R_set]; rfl
  | .t gs, d, ρ => by
    cases d with
    | tuple ds => unfold evG; exact natGs gs ds ρ
    | _ => unfold evG; rfl
theorem natGs : ∀ (g : IGs) (d : List D) (ρ : List Sl), evGs g d (R a ρ) = (evGs g d ρ).map (R a)
  | .nil, [], ρ => by unfold evGs; rfl
  | .nil, _ :: _, ρ => by unfold evGs; rfl
  | .cons g gs, [], ρ => by unfold evGs; rfl
  | .cons g gs, d :: ds, ρ => by
    unfold evGs
    rw [natG g d ρ]
    exact bindL fun p => natGs gs ds p
end
mutual
theorem natE : ∀ (i : IE) (ρ : List Sl), evE i (R a ρ) = (evE i ρ).map (R2 a)
  | .v n, ρ => by
    unfold evE
    rw [R_at]
    cases h : ρ[n]? with
    | none => rfl
    | some s =>
      cases s with
      | o xs =>
        show some _ = some _
        have e : R a (ρ.set n (.d (.list xs))) = (R a ρ).set n (.d (.list xs)) := R_set ρ n _
        show _ = some (PyData.list xs, R a (ρ.set n (.d (.list xs))))
        rw [e]
      | t kvs =>
        have e : R a (ρ.set n (.d (tdD kvs))) = (R a ρ).set n (.d (tdD kvs)) := R_set ρ n _
        show _ = some (tdD kvs, R a (ρ.set n (.d (tdD kvs))))
        rw [e]
        rfl
      | n kvs =>
        have e : R a (ρ.set n (.d (ndD kvs))) = (R a ρ).set n (.d (ndD kvs)) := R_set ρ n _
        show _ = some (ndD kvs, R a (ρ.set n (.d (ndD kvs))))
        rw [e]
        rfl
      | m kvs =>
        have e : R a (ρ.set n (.d (kdD kvs))) = (R a ρ).set n (.d (kdD kvs)) := R_set ρ n _
        show _ = some (kdD kvs, R a (ρ.set n (.d (kdD kvs))))
        rw [e]
        rfl
      | _ => rfl
  | .c d, ρ => by unfold evE; rfl
  | .f g as, ρ => by
    unfold evE
    rw [natA as ρ]
    exact bindR fun p => mapS fun d => rfl
  | .o e, ρ => by
    unfold evE
    rw [natO e ρ]
    exact mapR fun p => rfl
  | .rd n g as, ρ => by
    unfold evE
    rw [R_own, natA as ρ]
    refine bindS fun _ => bindR fun p => ?_
    show (ownAt (R a p.2) n).bind _ = _
    rw [R_own]
    exact bindS fun xs => mapS fun d => rfl
  | .rk n g as, ρ => by
    unfold evE
    rw [R_dic, natA as ρ]
    refine bindS fun _ => bindR fun p => ?_
    show (dicAt (R a p.2) n).bind _ = _
    rw [R_dic]
    exact bindS fun xs => mapS fun d => rfl
  | .rt n g as, ρ => by
    unfold evE
    rw [R_tup, natA as ρ]
    refine bindS fun _ => bindR fun p => ?_
    show (tupAt (R a p.2) n).bind _ = _
    rw [R_tup]
    exact bindS fun xs => mapS fun d => rfl
  | .rn n g as, ρ => by
    unfold evE
    rw [R_n, natA as ρ]
    refine bindS fun _ => bindR fun p => ?_
    show (nAt (R a p.2) n).bind _ = _
    rw [R_n]
    exact bindS fun xs => mapS fun d => rfl
  | .up n g as, ρ => by
    unfold evE
    rw [R_own, natA as ρ]
    refine bindS fun _ => bindR fun p => ?_
    show (ownAt (R a p.2) n).bind _ = _
    rw [R_own]
    refine bindS fun xs => mapS fun d => ?_
    show (d.1, putAt (R a p.2) n d.2) = _
    rw [R_put]
  | .ife t x y, ρ => by
    unfold evE
    rw [natT t ρ]
    exact bindR fun p => iteR (natE x p.2) (natE y p.2)
  | .andE x y, ρ => by
    unfold evE
    rw [natE x ρ]
    refine bindR fun p => ?_
    obtain ⟨d, ρ1⟩ := p
    show (match d with
      | .bool true => evE y (R a ρ1)
      | .bool false => some (.bool false, R a ρ1)
      | _ => none) = _
    split
    · exact natE y ρ1
    · rfl
    · rename_i h1 h2
      cases d with
      | bool b => cases b <;> first | exact absurd rfl h1 | exact absurd rfl h2
      | _ => rfl
  | .orE x y, ρ => by
    unfold evE
    rw [natE x ρ]
    refine bindR fun p => ?_
    obtain ⟨d, ρ1⟩ := p
    show (match d with
      | .bool false => evE y (R a ρ1)
      | .bool true => some (.bool true, R a ρ1)
      | _ => none) = _
    split
    · exact natE y ρ1
    · rfl
    · rename_i h1 h2
      cases d with
      | bool b => cases b <;> first | exact absurd rfl h1 | exact absurd rfl h2
      | _ => rfl
  | .ch g1 g2 x y z, ρ => by
    unfold evE
    rw [natE x ρ]
    refine bindR fun p => ?_
    show (evE y (R a p.2)).bind _ = _
    rw [natE y p.2]
    refine bindR fun q => bindS fun k => iteR ?_ rfl
    show (evE z (R a q.2)).bind _ = _
    rw [natE z q.2]
    exact bindR fun r => mapS fun k => rfl
theorem natA : ∀ (i : IA) (ρ : List Sl), evA i (R a ρ) = (evA i ρ).map (R2 a)
  | .nil, ρ => by unfold evA; rfl
  | .cons e as, ρ => by
    unfold evA
    rw [natE e ρ]
    refine bindR fun p => ?_
    show (evA as (R a p.2)).map _ = _
    rw [natA as p.2]
    exact mapR fun q => rfl
theorem natO : ∀ (i : IO) (ρ : List Sl), evO i (R a ρ) = (evO i ρ).map (R2 a)
  | .f g as, ρ => by
    unfold evO
    rw [natA as ρ]
    exact bindR fun p => mapS fun d => rfl
  | .rk n g as, ρ => by
    unfold evO
    rw [R_dic, natA as ρ]
    refine bindS fun _ => bindR fun p => ?_
    show (dicAt (R a p.2) n).bind _ = _
    rw [R_dic]
    exact bindS fun xs => mapS fun d => rfl
  | .rt n g as, ρ => by
    unfold evO
    rw [R_tup, natA as ρ]
    refine bindS fun _ => bindR fun p => ?_
    show (tupAt (R a p.2) n).bind _ = _
    rw [R_tup]
    exact bindS fun xs => mapS fun d => rfl
  | .rn n g as, ρ => by
    unfold evO
    rw [R_n, natA as ρ]
    refine bindS fun _ => bindR fun p => ?_
    show (nAt (R a p.2) n).bind _ = _
    rw [R_n]
    exact bindS fun xs => mapS fun d => rfl
  | .lc tg it fs elt vs, ρ => by
    unfold evO
    rw [natI it ρ]
    refine bindR fun p => ?_
    show (lcGo _ p.1 (wipeS (R a p.2) vs)).bind _ = _
    rw [R_wipe, lcR (f := fun x ρ => (evG tg x ρ).bind fun ρ1 => (evT fs ρ1).bind fun q => if q.1 = true then (evE elt q.2).map fun r => (some r.1, wipeS r.2 vs) else some (none, wipeS q.2 vs))]
    · refine bindR fun r => iteR ?_ rfl
      show some (r.1, backS (R a p.2) (R a r.2) vs) = _
      rw [R_back]; rfl
    · intro x ρ
      rw [natG tg x ρ]
      refine bindL fun ρ1 => ?_
      rw [natT fs ρ1]
      refine bindR fun q => iteR ?_ ?_
      · show (evE elt (R a q.2)).map _ = _
        rw [natE elt q.2]
        refine mapR fun r => ?_
        show (some r.1, wipeS (R a r.2) vs) = _
        rw [R_wipe]
      · show some (none, wipeS (R a q.2) vs) = _
        rw [R_wipe]; rfl
  | .lc2 t0 i0 fs0 t1 i1 fs1 elt vs vs1, ρ => by
    unfold evO
    rw [natI i0 ρ]
    refine bindR fun p => ?_
    show (lc2Go _ p.1 (wipeS (R a p.2) vs)).bind _ = _
    rw [R_wipe, lc2R (f := fun x ρ => (evG t0 x ρ).bind fun ρ1 => (evT fs0 ρ1).bind fun q => if q.1 = true then (evI i1 q.2).bind fun u =>
      (lcGo (fun x ρ => (evG t1 x ρ).bind fun ρ1 => (evT fs1 ρ1).bind fun q => if q.1 = true then (evE elt q.2).map fun r => (some r.1, wipeS r.2 vs1) else some (none, wipeS q.2 vs1)) u.1 (wipeS u.2 vs1)).map fun r => (r.1, wipeS r.2 vs) else some ([], wipeS q.2 vs))]
    · refine bindR fun r => iteR ?_ rfl
      show some (r.1, backS (R a p.2) (R a r.2) vs) = _
      rw [R_back]; rfl
    · intro x ρ
      rw [natG t0 x ρ]
      refine bindL fun ρ1 => ?_
      rw [natT fs0 ρ1]
      refine bindR fun q => iteR ?_ ?_
      · show (evI i1 (R a q.2)).bind _ = _
        rw [natI i1 q.2]
        refine bindR fun u => ?_
        show (lcGo _ u.1 (wipeS (R a u.2) vs1)).map _ = _
        rw [R_wipe, lcR (f := fun x ρ => (evG t1 x ρ).bind fun ρ1 => (evT fs1 ρ1).bind fun q => if q.1 = true then (evE elt q.2).map fun r => (some r.1, wipeS r.2 vs1) else some (none, wipeS q.2 vs1))]
        · refine mapR fun r => ?_
          show (r.1, wipeS (R a r.2) vs) = _
          rw [R_wipe]
        · intro x ρ
          rw [natG t1 x ρ]
          refine bindL fun ρ1 => ?_
          rw [natT fs1 ρ1]
          refine bindR fun q => iteR ?_ ?_
          · show (evE elt (R a q.2)).map _ = _
            rw [natE elt q.2]
            refine mapR fun r => ?_
            show (some r.1, wipeS (R a r.2) vs1) = _
            rw [R_wipe]
          · show some (none, wipeS (R a q.2) vs1) = _
            rw [R_wipe]; rfl
      · show some ([], wipeS (R a q.2) vs) = _
        rw [R_wipe]; rfl
theorem natT : ∀ (i : IT) (ρ : List Sl), evT i (R a ρ) = (evT i ρ).map (R2 a)
  | .tt, ρ => by unfold evT; rfl
  | .val e, ρ => by
    unfold evT
    rw [natE e ρ]
    refine bindR fun p => ?_
    obtain ⟨d, ρ1⟩ := p
    cases d <;> rfl
  | .cmp g x y, ρ => by
    unfold evT
    rw [natE x ρ]
    refine bindR fun p => ?_
    show (evE y (R a p.2)).bind _ = _
    rw [natE y p.2]
    exact bindR fun q => mapS fun k => rfl
  | .ch g1 g2 x y z, ρ => by
    unfold evT
    rw [natE x ρ]
    refine bindR fun p => ?_
    show (evE y (R a p.2)).bind _ = _
    rw [natE y p.2]
    refine bindR fun q => bindS fun k => iteR ?_ rfl
    show (evE z (R a q.2)).bind _ = _
    rw [natE z q.2]
    exact bindR fun r => mapS fun k => rfl
  | .notT t, ρ => by
    unfold evT
    rw [natT t ρ]
    exact mapR fun p => rfl
  | .andT x y, ρ => by
    unfold evT
    rw [natT x ρ]
    exact bindR fun p => iteR (natT y p.2) rfl
  | .orT x y, ρ => by
    unfold evT
    rw [natT x ρ]
    exact bindR fun p => iteR rfl (natT y p.2)
theorem natI : ∀ (i : II) (ρ : List Sl), evI i (R a ρ) = (evI i ρ).map (R2 a)
  | .f g as, ρ => by
    unfold evI
    rw [natA as ρ]
    exact bindR fun p => mapS fun d => rfl
end
theorem wipeO_R (vs : List Nat) (o : Out) : wipeO vs (RO a o) = RO a (wipeO vs o) := by
  cases o with
  | nx ρ => show Out.nx (wipeS (R a ρ) vs) = _; rw [R_wipe]; rfl
  | ct ρ => show Out.ct (wipeS (R a ρ) vs) = _; rw [R_wipe]; rfl
  | bk ρ => show Out.bk (wipeS (R a ρ) vs) = _; rw [R_wipe]; rfl
  | rt d ρ => rfl
theorem bindO {β : Type} {o : Option Out} {f f' : Out → Option β} {g : β → β} (h : ∀ p, f' (RO a p) = (f p).map g) : (o.map (RO a)).bind f' = (o.bind f).map g := by
  cases o with
  | none => rfl
  | some p => exact h p
theorem foR {f f' : D → List Sl → Option Out} (h : ∀ x ρ, f' x (R a ρ) = (f x ρ).map (RO a)) : ∀ (xs : List D) (ρ : List Sl), foGo f' xs (R a ρ) = (foGo f xs ρ).map (RO a)
  | [], ρ => rfl
  | x :: xs, ρ => by
    unfold foGo
    rw [h x ρ]
    refine bindO fun o => ?_
    cases o with
    | nx ρ1 => exact foR h xs ρ1
    | ct ρ1 => exact foR h xs ρ1
    | bk ρ1 => rfl
    | rt d ρ1 => rfl
theorem whR {t t' : List Sl → Option (Bool × List Sl)} {f f' : List Sl → Option Out} (ht : ∀ ρ, t' (R a ρ) = (t ρ).map (R2 a)) (h : ∀ ρ, f' (R a ρ) = (f ρ).map (RO a)) : ∀ (n : Nat) (ρ : List Sl), whGo t' f' n (R a ρ) = (whGo t f n ρ).map (RO a)
  | 0, ρ => by
    unfold whGo
    rw [ht ρ]
    exact bindR fun p => iteR rfl rfl
  | n + 1, ρ => by
    unfold whGo
    rw [ht ρ]
    refine bindR fun p => iteR ?_ rfl
    show (f' (R a p.2)).bind _ = _
    rw [h p.2]
    refine bindO fun o => ?_
    cases o with
    | nx ρ1 => exact whR ht h n ρ1
    | ct ρ1 => exact whR ht h n ρ1
    | bk ρ1 => rfl
    | rt d ρ1 => rfl
theorem nxR {ρ : List Sl} {n : Nat} {s : Sl} (h : reb a s = s) : Out.nx ((R a ρ).set n s) = RO a (.nx (ρ.set n s)) := by
  show _ = Out.nx (R a (ρ.set n s))
  rw [R_set, h]
mutual
theorem natS : ∀ (i : IS) (ρ : List Sl), evS i (R a ρ) = (evS i ρ).map (RO a)
  | .set n e, ρ => by
    unfold evS
    rw [natE e ρ]
    exact mapR fun p => nxR rfl
  | .setO n e, ρ => by
    unfold evS
    rw [natO e ρ]
    exact mapR fun p => nxR rfl
  | .setF n e, ρ => by
    unfold evS
    rw [natO e ρ]
    exact mapR fun p => nxR rfl
  | .setM n, ρ => by
    unfold evS
    exact congrArg some (nxR rfl)
  | .setT n, ρ => by
    unfold evS
    exact congrArg some (nxR rfl)
  | .setN n, ρ => by
    unfold evS
    exact congrArg some (nxR rfl)
  | .tup tg e, ρ => by
    unfold evS
    rw [natE e ρ]
    refine bindR fun p => ?_
    show (evG tg p.1 (R a p.2)).map _ = _
    rw [natG tg p.1 p.2]
    cases evG tg p.1 p.2 <;> rfl
  | .par n m x y, ρ => by
    unfold evS
    rw [natE x ρ]
    refine bindR fun p => ?_
    show (evE y (R a p.2)).map _ = _
    rw [natE y p.2]
    refine mapR fun q => ?_
    show Out.nx (((R a q.2).set n _).set m _) = Out.nx (R a _)
    rw [R_set, R_set]; rfl
  | .parO n m x y, ρ => by
    unfold evS
    rw [natE x ρ]
    refine bindR fun p => ?_
    show (evO y (R a p.2)).map _ = _
    rw [natO y p.2]
    refine mapR fun q => ?_
    show Out.nx (((R a q.2).set n _).set m _) = Out.nx (R a _)
    rw [R_set, R_set]; rfl
  | .par3 n m l x y z, ρ => by
    unfold evS
    rw [natE x ρ]
    refine bindR fun p => ?_
    show (evO y (R a p.2)).bind _ = _
    rw [natO y p.2]
    refine bindR fun q => ?_
    show (evE z (R a q.2)).map _ = _
    rw [natE z q.2]
    refine mapR fun r => ?_
    show Out.nx ((((R a r.2).set n _).set m _).set l _) = Out.nx (R a _)
    rw [R_set, R_set, R_set]; rfl
  | .upd n g as, ρ => by
    unfold evS
    rw [R_own, natA as ρ]
    refine bindS fun _ => bindR fun p => ?_
    show (ownAt (R a p.2) n).bind _ = _
    rw [R_own]
    refine bindS fun xs => mapS fun ys => ?_
    show Out.nx (putAt (R a p.2) n ys) = _
    rw [R_put]; rfl
  | .store n x y, ρ => by
    unfold evS
    rw [natE x ρ]
    refine bindR fun p => ?_
    show (ownAt (R a p.2) n).bind _ = _
    rw [R_own]
    refine bindS fun _ => ?_
    show (evE y (R a p.2)).bind _ = _
    rw [natE y p.2]
    refine bindR fun q => ?_
    show (ownAt (R a q.2) n).bind _ = _
    rw [R_own]
    refine bindS fun xs => ?_
    obtain ⟨d, ρ1⟩ := q
    cases d with
    | int i =>
      refine mapS fun m => ?_
      show Out.nx (putAt (R a ρ1) n _) = _
      rw [R_put]; rfl
    | _ => rfl
  | .putK n x y, ρ => by
    unfold evS
    rw [natE x ρ]
    refine bindR fun p => ?_
    show (dicAt (R a p.2) n).bind _ = _
    rw [R_dic]
    refine bindS fun _ => ?_
    show (evE y (R a p.2)).bind _ = _
    rw [natE y p.2]
    refine bindR fun q => ?_
    show (dicAt (R a q.2) n).bind _ = _
    rw [R_dic]
    refine bindS fun xs => iteR ?_ rfl
    obtain ⟨d, ρ1⟩ := q
    cases d with
    | int i => exact congrArg some (nxR rfl)
    | str i => exact congrArg some (nxR rfl)
    | _ => rfl
  | .putT n x y, ρ => by
    unfold evS
    rw [natE x ρ]
    refine bindR fun p => ?_
    show (tupAt (R a p.2) n).bind _ = _
    rw [R_tup]
    refine bindS fun _ => ?_
    show (evE y (R a p.2)).bind _ = _
    rw [natE y p.2]
    refine bindR fun q => ?_
    show (tupAt (R a q.2) n).bind _ = _
    rw [R_tup]
    refine bindS fun xs => iteR ?_ rfl
    exact mapS fun ks => nxR rfl
  | .putN n x y, ρ => by
    unfold evS
    rw [natE x ρ]
    refine bindR fun p => ?_
    show (nAt (R a p.2) n).bind _ = _
    rw [R_n]
    refine bindS fun _ => ?_
    show (evE y (R a p.2)).bind _ = _
    rw [natE y p.2]
    refine bindR fun q => ?_
    show (nAt (R a q.2) n).bind _ = _
    rw [R_n]
    refine bindS fun xs => iteR ?_ rfl
    exact mapS fun ks => nxR rfl
  | .ex e, ρ => by
    unfold evS
    rw [natE e ρ]
    exact mapR fun p => rfl
  | .ret e, ρ => by
    unfold evS
    rw [natE e ρ]
    exact mapR fun p => rfl
  | .ife t x y, ρ => by
    unfold evS
    rw [natT t ρ]
    exact bindR fun p => iteR (natSs x p.2) (natSs y p.2)
  | .fo tg it body vs, ρ => by
    unfold evS
    rw [natI it ρ]
    refine bindR fun p => ?_
    show foGo _ p.1 (wipeS (R a p.2) vs) = _
    rw [R_wipe]
    refine foR (fun x ρ => ?_) _ _
    rw [natG tg x ρ]
    refine bindL fun ρ1 => ?_
    rw [natSs body ρ1]
    cases evSs body ρ1 with
    | none => rfl
    | some o => exact congrArg some (wipeO_R vs o)
  | .wh fuel t body vs, ρ => by
    unfold evS
    rw [R_wipe]
    refine whR (fun ρ => natT t ρ) (fun ρ => ?_) _ _
    rw [natSs body ρ]
    cases evSs body ρ with
    | none => rfl
    | some o => exact congrArg some (wipeO_R vs o)
  | .brk, ρ => by unfold evS; rfl
  | .cnt, ρ => by unfold evS; rfl
  | .pass, ρ => by unfold evS; rfl
  | .stuck, ρ => by unfold evS; rfl
theorem natSs : ∀ (i : ISs) (ρ : List Sl), evSs i (R a ρ) = (evSs i ρ).map (RO a)
  | .nil, ρ => by unfold evSs; rfl
  | .cons s ss, ρ => by
    unfold evSs
    rw [natS s ρ]
    refine bindO fun o => ?_
    cases o with
    | nx ρ1 => exact natSs ss ρ1
    | ct ρ1 => rfl
    | bk ρ1 => rfl
    | rt d ρ1 => rfl
end
end
/-- a def that changes its first argument: the value, the list behind -/
def runB (n : Nat) (body : ISs) (rs ds : List D) : Option (D × List D) := (evSs body (startS n (.b (0 : Nat) rs :: args ds))).bind fun o => match o with
  | .rt d ρ => match ρ[0]? with
    | some (Sl.b _ rs') => some (d, rs')
    | _ => none
  | .nx ρ => match ρ[0]? with
    | some (Sl.b _ rs') => some (.none, rs')
    | _ => none
  | _ => none
theorem startS_R (n : Nat) (rs ds : List D) (a : Addr) : R a (startS n (.b (0 : Nat) rs :: args ds)) = startS n (.b a rs :: args ds) := by
  unfold startS args R
  rw [List.map_append, List.map_replicate, List.map_cons, List.map_map]
  simp only [List.length_cons, List.length_map]
  rfl
theorem runB_ok {n : Nat} {body : ISs} {rs ds : List D} {d : D} {rs' : List D} (h : runB n body rs ds = some (d, rs')) : RunB n body rs ds d rs' := fun a => by
  unfold runB at h
  obtain ⟨o, e1, h⟩ := bnd h
  have e2 := natSs (a := a) body (startS n (.b (0 : Nat) rs :: args ds))
  rw [startS_R, e1] at e2
  have at0 : ∀ {ρ : List Sl} {b : Addr} {xs : List D}, ρ[0]? = some (.b b xs) → (R a ρ)[0]? = some (.b a xs) := fun {ρ b xs} e => by rw [R_at, e]; rfl
  cases o with
  | rt d' ρ =>
    have h : (match ρ[0]? with
      | some (Sl.b _ rs') => some (d', rs')
      | _ => none) = some (d, rs') := h
    split at h
    · rename_i hb
      cases h
      exact ⟨_, _, e2, .rt, at0 hb⟩
    · cases h
  | nx ρ =>
    have h : (match ρ[0]? with
      | some (Sl.b _ rs') => some (PyData.none, rs')
      | _ => none) = some (d, rs') := h
    split at h
    · rename_i hb
      cases h
      exact ⟨_, _, e2, .nx rfl, at0 hb⟩
    · cases h
  | bk ρ => cases h
  | ct ρ => cases h
/-- a def that may be called by its name -/
structure Fn (P : Program) (w : World) (K : PySem.W.Frag) (mg : Str → Option Value) (base : Heap) (n : Nat) (nm : Str) (ps : List Str) (sp : Sp) (f : Addr) (fd : FuncData) : Prop where
  g : FnOk P w K mg base CX0 n f fd ps sp
  k : PySem.W.keepIn K (.ref f) = true
  b : Binds K fd ps []
  m : mg nm = some (.ref f)
end DI
set_option Elab.async false
set_option linter.all false
set_option maxRecDepth 100000
set_option maxHeartbeats 2000000
namespace DI
open PySem PySem.Spec PyProof.Rows L2 DL
section
variable {X : Cx}
theorem rps_rg {K : PySem.W.Frag} {F : Hp} (b : Int) : Rps K F (rgV 0 b) (rangeD 0 b.toNat) := by
  unfold rgV rangeD
  rw [Int.sub_zero]
  generalize List.range b.toNat = l
  induction l with
  | nil => exact .nil
  | cons a l ih => exact .cons (.int _) ih
/-- list(range(n)) -/
def gRngL : List D → Option (List D)
  | [.int (.ofNat i)] => if Nat.ble i 999999 = true then some (rangeD 0 i) else none
  | _ => none
theorem co_listR {a : Expr} {ia : IE} {p1 p2 pp pos : Pos} (hc : X.calm = true) (hm : X.mg "list" = none) (hm2 : X.mg "range" = none) (h : CE X a ia) (hg : Gl X "list" := by rfl) (hg2 : Gl X "range" := by rfl)
    (q1 : starEach [a] X.env = (false, eval a X.env) :: starEach [] X.env := by rfl) (q2 : starEach [.Call (.Name "range" p2) [a] [] pp] X.env = (false, eval (.Call (.Name "range" p2) [a] [] pp) X.env) :: starEach [] X.env := by rfl) :
    CO X (.Call (.Name "list" p1) [.Call (.Name "range" p2) [a] [] pp] [] pos) (.f gRngL (.cons ia .nil)) := fun ρ d ρ' q => by
  obtain ⟨ds, e1, e2⟩ := fo q
  obtain ⟨x, rfl, e3⟩ := a1 e1
  have h := h _ _ _ e3
  unfold gRngL at e2
  split at e2
  · rename_i i hb
    cases hb
    split at e2
    · rename_i hz
      cases e2
      refine XO.of (pe_listRg hc hg hm (prg_1 hg2 hm2 (pcE a) q1) q2) fun F0 G F H σ k Q q => h F0 G F H σ k _ fun v F1 H1 k1 f1 d1 => ?_
      cases d1
      have hz := Nat.le_of_ble_eq_true hz
      exact ⟨_, rfl, RgOk.of_le (Int.le_refl 0) (by show (i : Int) ≤ _; omega) (by decide) (Int.natCast_nonneg i), fun p hp => q p _ F1 H1 k1 f1 hp (rps_rg _)⟩
    · cases e2
  · cases e2
end
end DI
set_option Elab.async false
set_option linter.all false
set_option maxRecDepth 100000
set_option maxHeartbeats 2000000
namespace DI
open PySem PySem.Spec PyProof.Rows L2 DL
/-! own dicts, keys numbers or texts -/
def toK : D → Option Key
  | .int i => some (.inl i)
  | .str s => some (.inr s)
  | _ => none
def gKeys (kvs : List (Key × D)) : List D → Option (List D)
  | [] => some (kvs.map fun kv => kD kv.1)
  | _ => none
def gIxK (kvs : List (Key × D)) : List D → Option D
  | [d] => (toK d).bind fun k => getD kvs k
  | _ => none
def gInK (kvs : List (Key × D)) : List D → Option D
  | [d] => (toK d).map fun k => .bool (getD kvs k).isSome
  | _ => none
def gNinK (kvs : List (Key × D)) : List D → Option D
  | [d] => (toK d).map fun k => .bool (!(getD kvs k).isSome)
  | _ => none
def gLenO (xs : List D) : List D → Option D
  | [] => some (.int xs.length)
  | _ => none
def gIsi2 (T1 T2 : String) : List D → Option D
  | [x] => if dctB x = true then none else (kitB (tyD x) T1).bind fun a => (kitB (tyD x) T2).map fun b => .bool (a || b)
  | _ => none
def pairs : List D → List D → List D
  | x :: xs, y :: ys => .tuple [x, y] :: pairs xs ys
  | _, _ => []
def gZip : List D → Option (List D)
  | [.list xs, .list ys] => some (pairs xs ys)
  | [.tuple xs, .tuple ys] => some (pairs xs ys)
  | [.list xs, .tuple ys] => some (pairs xs ys)
  | [.tuple xs, .list ys] => some (pairs xs ys)
  | _ => none
def upTo {α : Type} (xs : List α) (m : Int) : List α := if 0 ≤ m then xs.take m.toNat else xs.take (xs.length - (-m).toNat)
def from_ {α : Type} (xs : List α) (m : Int) : List α := if 0 ≤ m then xs.drop m.toNat else xs.drop (xs.length - (-m).toNat)
def gCutTo : List D → Option D
  | [.tuple xs, .int m] => some (.tuple (upTo xs m))
  | [.list xs, .int m] => some (.list (upTo xs m))
  | _ => none
def gCutFrom : List D → Option D
  | [.tuple xs, .int m] => some (.tuple (from_ xs m))
  | [.list xs, .int m] => some (.list (from_ xs m))
  | _ => none
def gCut : List D → Option D
  | [.tuple xs, .int m, .int k] => if 0 ≤ m ∧ 0 ≤ k then some (.tuple ((xs.take k.toNat).drop m.toNat)) else none
  | [.list xs, .int m, .int k] => if 0 ≤ m ∧ 0 ≤ k then some (.list ((xs.take k.toNat).drop m.toNat)) else none
  | _ => none
def gMaxL : List D → Option D
  | [.list xs] => (toI xs).bind fun ns => ns.max?.map .int
  | _ => none
def gSum : List D → Option D
  | [.list xs] => (toI xs).map fun ns => .int ns.sum
  | _ => none
section
variable {X : Cx}
theorem rkk {n : Nat} {g : List (Key × D) → List D → Option (List D)} {as : IA} {ρ ρ' : List Sl} {xs : List D} (h : evO (.rk n g as) ρ = some (xs, ρ')) : ∃ ds kvs, evA as ρ = some (ds, ρ') ∧ ρ'[n]? = some (.m kvs) ∧ g kvs ds = some xs := by
  unfold evO at h
  obtain ⟨xs0, e0, h⟩ := bnd h
  obtain ⟨p, e1, h⟩ := bnd h
  obtain ⟨kvs, e2, h⟩ := bnd h
  obtain ⟨q, e3, h⟩ := mp h
  cases h
  exact ⟨_, kvs, e1, dic_at e2, e3⟩
/-- list(d), d a dict of one's own -/
theorem co_listK (n : Nat) {nm0 : Str} {p p0 pos : Pos} (hc : X.calm = true) (hm : X.mg "list" = none) (hg : Gl X "list" := by rfl) (hN : X.N[n]? = some nm0 := by rfl) (hv : Vis X.env.scope nm0 := by first | exact Or.inl rfl | exact Or.inr (Or.inl rfl) | exact Or.inr (Or.inr rfl))
    (hd : (nm0 == ("__debug__" : Str)) = false := by decide) (hcd : (nm0 == ("__classdict__" : Str)) = false := by decide)
    (he : starEach [.Name nm0 p0] X.env = (false, eval (.Name nm0 p0) X.env) :: starEach [] X.env := by rfl) (hpl : ((backTo pos (starEach [] X.env)).any fun x => x.fst) = false := by rfl) : CO X (.Call (.Name "list" p) [.Name nm0 p0] [] pos) (.rk n gKeys .nil) := fun ρ d ρ' q => by
  obtain ⟨ds, kvs, e1, e2, e3⟩ := rkk q
  unfold evA at e1
  cases e1
  cases e3
  exact xo_listD n hc e2 hg hm b_list hN hv hd hcd (by decide) (by decide) he hpl
end
end DI
set_option Elab.async false
set_option linter.all false
set_option maxRecDepth 100000
set_option maxHeartbeats 2000000
/-! more of own lists and of own dicts by numbers or texts -/
namespace DI
open PySem PySem.Spec PyProof.Rows L2 DL
section
variable {X : Cx} {e a b : Expr} {ia ib : IE} {as : IA} {nm : Str} {p1 p2 p3 pos : Pos}
/-- len(xs), xs one's own -/
theorem ce_lenO (n : Nat) {p0 p : Pos} {nm0 : Str} (hm : X.mg "len" = none) (hg : Gl X "len" := by rfl) (hN : X.N[n]? = some nm0 := by rfl) (hv : Vis X.env.scope nm0 := by first | exact Or.inl rfl | exact Or.inr (Or.inl rfl) | exact Or.inr (Or.inr rfl))
    (hd : (nm0 == ("__debug__" : Str)) = false := by decide) (hcd : (nm0 == ("__classdict__" : Str)) = false := by decide) (he : starEach [.Name nm0 p0] X.env = (false, eval (.Name nm0 p0) X.env) :: starEach [] X.env := by rfl) (hpl : ((backTo pos (starEach [] X.env)).any fun x => x.fst) = false := by rfl) :
    CE X (.Call (.Name "len" p) [.Name nm0 p0] [] pos) (.rd n gLenO .nil) := fun ρ d ρ' h => by
  obtain ⟨h0, ds, s, xs, e1, e2, e3, e4⟩ := rdd h
  unfold evA at e1
  cases e1
  cases e4
  exact .of (pe_callB call_len_seq hg hm b_len (pa_cons (pe_var hN hv hd hcd) pa_nil he) (by decide) (by decide) he hpl) fun F0 G F H σ k Q q => by
    obtain ⟨a, vs, q1, q2, q3, q4, q5⟩ := k.own n s xs e2 e3
    exact ⟨.ref a, q1, a, vs, rfl, .inl (.of q2), by rw [Rps.length q5]; exact q _ F H k (Same.refl _) (.int _)⟩
/-- xs.pop() -/
def gPop (xs : List D) : List D → Option (D × List D)
  | [] => (xs[xs.length - 1]?).map fun x => (x, xs.dropLast)
  | _ => none
theorem rps_dropLast {K : PySem.W.Frag} {H : Hp} {vs : List V} {ds : List D} (h : Rps K H vs ds) : Rps K H vs.dropLast ds.dropLast := by
  rw [List.dropLast_eq_take, List.dropLast_eq_take, h.length]
  exact Rps.take h _
theorem ce_pop (n : Nat) (hN : X.N[n]? = some nm := by rfl) (hv : Vis X.env.scope nm := by first | exact Or.inl rfl | exact Or.inr (Or.inl rfl) | exact Or.inr (Or.inr rfl))
    (hd : (nm == ("__debug__" : Str)) = false := by decide) (hcd : (nm == ("__classdict__" : Str)) = false := by decide)
    (hbm : ∀ (ta : TE), PE X (.Name nm p1) ta → PE X (.Call (.Attribute (.Name nm p1) "pop" p2) [] [] p3) (tBM0 X.K "list" rPop ta) := by exact fun _ h1 => pe_bm0 PySem.F.plainAttrs_list PySem.F.slot_list_pop PySem.F.type_list_pop mt_pop h1) :
    CE X (.Call (.Attribute (.Name nm p1) "pop" p2) [] [] p3) (.up n gPop .nil) := fun ρ d ρ' h => by
  unfold evE at h
  obtain ⟨xs0, e0, h⟩ := bnd h
  obtain ⟨q, e1, h⟩ := bnd h
  obtain ⟨xs, e2, h⟩ := bnd h
  obtain ⟨r, e3, h⟩ := mp h
  unfold evA at e1
  cases e1
  cases h
  obtain ⟨s, q3, q4⟩ := own_at e2
  rw [put_atE q3]
  obtain ⟨y, e5, e6⟩ := mp (show (xs[xs.length - 1]?).map (fun x => (x, xs.dropLast)) = some r from e3)
  subst e6
  exact .of (hbm _ (pe_var hN hv hd hcd)) fun F0 G F H σ k Q q => by
    obtain ⟨a, vs, r1, r2, r3, r4, r5⟩ := k.own n s xs q3 q4
    obtain ⟨v, v1, v2⟩ := Rps.get r5 e5
    refine ⟨.ref a, r1, .inl ⟨rfl, _, .of r2⟩, a, vs, v, rfl, rfl, r2, by rw [Rps.length r5]; exact v1, ?_⟩
    exact q v F _ (k.write q3 q4 r1 (rps_dropLast r5)) (Same.refl _) v2
/-- xs.extend(e), e a list that is data -/
def gExt (xs : List D) : List D → Option (List D)
  | [.list ys] => if xs.length + ys.length ≤ 1000000 then some (xs ++ ys) else none
  | _ => none
theorem cs_ext (n : Nat) (h : CE X e ia) (hN : X.N[n]? = some nm := by rfl) (hv : Vis X.env.scope nm := by first | exact Or.inl rfl | exact Or.inr (Or.inl rfl) | exact Or.inr (Or.inr rfl))
    (hd : (nm == ("__debug__" : Str)) = false := by decide) (hcd : (nm == ("__classdict__" : Str)) = false := by decide) (hst : starEach [e] X.env = (false, eval e X.env) :: starEach [] X.env := by rfl)
    (hbm : ∀ (ta te : TE), PE X (.Name nm p1) ta → PE X e te → PE X (.Call (.Attribute (.Name nm p1) "extend" p2) [e] [] p3) (tBM X.K "list" rExtend ta (tCons te tNil)) := by exact fun _ _ h1 h2 => pe_bm PySem.F.plainAttrs_list PySem.F.slot_list_extend PySem.F.type_list_extend mt_extend h1 (pa_cons h2 pa_nil))
    (hs : swapsWith (.Call (.Attribute (.Name nm p1) "extend" p2) [e] [] p3) none pos.line X.env = pure false := by rfl) : CS X (.Expr (.Call (.Attribute (.Name nm p1) "extend" p2) [e] [] p3) pos) (.upd n gExt (.cons ia .nil)) := fun ρ o q => by
  obtain ⟨h0, ds, ρ', s, xs, ys, e1, e2, e3, e4, rfl⟩ := updd q
  obtain ⟨x, rfl, e5⟩ := a1 e1
  have h := h _ _ _ e5
  cases x with
  | list zs =>
    have e4 : (if xs.length + zs.length ≤ 1000000 then some (xs ++ zs) else none) = some ys := e4
    split at e4
    · rename_i hl
      cases e4
      exact .of (ps_expr (hbm _ _ (pe_var hN hv hd hcd) (pcE e)) hs) fun F0 G F H σ k Dn q => by
        obtain ⟨s0, xs0, r0, o0⟩ := h0
        obtain ⟨p, vs0, f0, g0, _⟩ := k.own n s0 xs0 r0 o0
        refine ⟨.ref p, f0, .inl ⟨rfl, _, .of g0⟩, h F0 G F H σ k _ fun v F1 H1 k1 f1 d1 => ?_⟩
        obtain ⟨p', vs, f2, g2, f3, f4, f5⟩ := k1.own n s xs e2 e3
        rw [f0] at f2
        cases f2
        cases d1 with
        | @lst b ws _ sb rb =>
          refine ⟨p, b, vs, ws, rfl, rfl, g2, k1.fh _ _ sb, by rw [Rps.length f5, Rps.length rb]; exact Nat.le_trans hl (by decide), ?_⟩
          exact q σ F1 _ (k1.write e2 e3 f0 (Rps.append f5 rb)) f1
    · cases e4
  | _ => cases e4
/-! own dicts by numbers or texts, read -/
theorem toK_kD {d : D} {k : Key} (h : toK d = some k) : d = kD k := by
  cases d <;> first | (cases h; rfl) | cases h
theorem rkE {n : Nat} {g : List (Key × D) → List D → Option D} {as : IA} {ρ ρ' : List Sl} {d : D} (h : evE (.rk n g as) ρ = some (d, ρ')) : (∃ kvs0, ρ[n]? = some (.m kvs0)) ∧ ∃ ds kvs, evA as ρ = some (ds, ρ') ∧ ρ'[n]? = some (.m kvs) ∧ g kvs ds = some d := by
  unfold evE at h
  obtain ⟨xs0, e0, h⟩ := bnd h
  obtain ⟨p, e1, h⟩ := bnd h
  obtain ⟨kvs, e2, h⟩ := bnd h
  obtain ⟨q, e3, h⟩ := mp h
  cases h
  exact ⟨⟨_, dic_at e0⟩, _, kvs, e1, dic_at e2, e3⟩
theorem ce_ixK (n : Nat) (hu : X.A.units + 64 < cLine) (hb : CE X b ib) (hN : X.N[n]? = some nm := by rfl) (hv : Vis X.env.scope nm := by first | exact Or.inl rfl | exact Or.inr (Or.inl rfl) | exact Or.inr (Or.inr rfl))
    (hd : (nm == ("__debug__" : Str)) = false := by decide) (hcd : (nm == ("__classdict__" : Str)) = false := by decide) (hs : NoSl b := by exact fun _ _ => rfl) : CE X (.Subscript (.Name nm p1) b pos) (.rk n gIxK (.cons ib .nil)) := fun ρ d ρ' h => by
  obtain ⟨⟨kvs0, h0⟩, ds, kvs, e1, e2, e3⟩ := rkE h
  obtain ⟨x, rfl, e5⟩ := a1 e1
  have hb := hb _ _ _ e5
  obtain ⟨k0, e6, e7⟩ := bnd (show (toK x).bind (fun k => getD kvs k) = some d from e3)
  rw [toK_kD e6] at hb
  exact .of (pe_dget (by omega) (pe_var hN hv hd hcd) (pcE b) hs) fun F0 G F H σ k Q q => by
    obtain ⟨a0, ho0, q1, q2, _⟩ := k.has n _ _ h0 rfl
    refine ⟨.ref a0, q1, hb F0 G F H σ k _ fun w F1 H1 k1 f1 d1 => ?_⟩
    obtain ⟨a, ho, r1, r2, r3, r4, vvs, rfl, r5, r6⟩ := k1.has n _ _ e2 rfl
    rw [q1] at r1
    cases r1
    obtain ⟨v, g1, g2⟩ := (get_at k0 r5 r6).2 d e7
    refine ⟨a0, v, rfl, ?_, q v F1 H1 k1 f1 g2⟩
    rw [kV_of_rp d1, ← g1]
    exact DGet.k r2
theorem in_some {K : PySem.W.Frag} {F : Hp} {k0 : Key} {vvs : List (Key × V)} {kvs : List (Key × D)} (h1 : vvs.map (·.1) = kvs.map (·.1)) (h2 : Rps K F (vvs.map (·.2)) (kvs.map (·.2))) : (valV vvs k0).isSome = (getD kvs k0).isSome := by
  obtain ⟨g1, g2⟩ := get_at k0 h1 h2
  cases e : getD kvs k0 with
  | none => rw [g1 e]; rfl
  | some d =>
    obtain ⟨v, q, _⟩ := g2 d e
    rw [q]; rfl
theorem ce_InK (n : Nat) (hu : X.A.units + 64 < cLine) (ha : CE X a ia) (hN : X.N[n]? = some nm := by rfl) (hv : Vis X.env.scope nm := by first | exact Or.inl rfl | exact Or.inr (Or.inl rfl) | exact Or.inr (Or.inr rfl))
    (hd : (nm == ("__debug__" : Str)) = false := by decide) (hcd : (nm == ("__classdict__" : Str)) = false := by decide) (hm : behindInMarks .In (.Name nm p1) = false := by with_unfolding_all rfl) : CE X (.Compare a [.In] [.Name nm p1] pos) (.rk n gInK (.cons ia .nil)) := fun ρ d ρ' h => by
  obtain ⟨h0, ds, kvs, e1, e2, e3⟩ := rkE h
  obtain ⟨x, rfl, e5⟩ := a1 e1
  have ha := ha _ _ _ e5
  obtain ⟨k0, e6, e7⟩ := mp (show (toK x).map (fun k => PyData.bool (getD kvs k).isSome) = some d from e3)
  subst e7
  rw [toK_kD e6] at ha
  exact .of (pe_cmp (pc_din (by omega) (pcE a) (pe_var hN hv hd hcd)) hm) fun F0 G F H σ k Q q => ha F0 G F H σ k _ fun w F1 H1 k1 f1 d1 => by
    obtain ⟨a, ho, r1, r2, r3, r4, vvs, rfl, r5, r6⟩ := k1.has n _ _ e2 rfl
    refine ⟨.ref a, r1, a, valV vvs k0, rfl, ?_, ?_⟩
    · rw [kV_of_rp d1]; exact DGet.k r2
    · rw [in_some r5 r6]
      exact q _ F1 H1 k1 f1 (.bl _)
theorem ce_NinK (n : Nat) (hu : X.A.units + 64 < cLine) (ha : CE X a ia) (hN : X.N[n]? = some nm := by rfl) (hv : Vis X.env.scope nm := by first | exact Or.inl rfl | exact Or.inr (Or.inl rfl) | exact Or.inr (Or.inr rfl))
    (hd : (nm == ("__debug__" : Str)) = false := by decide) (hcd : (nm == ("__classdict__" : Str)) = false := by decide) (hm : behindInMarks .NotIn (.Name nm p1) = false := by with_unfolding_all rfl) : CE X (.Compare a [.NotIn] [.Name nm p1] pos) (.rk n gNinK (.cons ia .nil)) := fun ρ d ρ' h => by
  obtain ⟨h0, ds, kvs, e1, e2, e3⟩ := rkE h
  obtain ⟨x, rfl, e5⟩ := a1 e1
  have ha := ha _ _ _ e5
  obtain ⟨k0, e6, e7⟩ := mp (show (toK x).map (fun k => PyData.bool (!(getD kvs k).isSome)) = some d from e3)
  subst e7
  rw [toK_kD e6] at ha
  exact .of (pe_cmp (pc_dnotin (by omega) (pcE a) (pe_var hN hv hd hcd)) hm) fun F0 G F H σ k Q q => ha F0 G F H σ k _ fun w F1 H1 k1 f1 d1 => by
    obtain ⟨a, ho, r1, r2, r3, r4, vvs, rfl, r5, r6⟩ := k1.has n _ _ e2 rfl
    refine ⟨.ref a, r1, a, valV vvs k0, rfl, ?_, ?_⟩
    · rw [kV_of_rp d1]; exact DGet.k r2
    · rw [in_some r5 r6]
      exact q _ F1 H1 k1 f1 (.bl _)
theorem ct_InK (n : Nat) (hu : X.A.units + 64 < cLine) (ha : CE X a ia) (hN : X.N[n]? = some nm := by rfl) (hv : Vis X.env.scope nm := by first | exact Or.inl rfl | exact Or.inr (Or.inl rfl) | exact Or.inr (Or.inr rfl))
    (hd : (nm == ("__debug__" : Str)) = false := by decide) (hcd : (nm == ("__classdict__" : Str)) = false := by decide) (hm : behindInMarks .In (.Name nm p1) = false := by with_unfolding_all rfl) : CT X (.Compare a [.In] [.Name nm p1] pos) (.val (.rk n gInK (.cons ia .nil))) := fun ρ bb ρ' q => by
  unfold evT at q
  obtain ⟨p, e1, q⟩ := bnd q
  split at q
  · rename_i b2 hb
    cases q
    obtain ⟨h0, ds, kvs, e1, e2, e3⟩ := rkE e1
    obtain ⟨x, rfl, e5⟩ := a1 e1
    have ha := ha _ _ _ e5
    obtain ⟨k0, e6, e7⟩ := mp (show (toK x).map (fun k => PyData.bool (getD kvs k).isSome) = some p.1 from e3)
    rw [hb] at e7
    cases e7
    rw [toK_kD e6] at ha
    exact .of (pt_cmp (pc_din (by omega) (pcE a) (pe_var hN hv hd hcd)) hm) fun F0 G F H σ k Q q => ha F0 G F H σ k _ fun w F1 H1 k1 f1 d1 => by
      obtain ⟨a, ho, r1, r2, r3, r4, vvs, rfl, r5, r6⟩ := k1.has n _ _ e2 rfl
      refine ⟨.ref a, r1, a, valV vvs k0, rfl, ?_, ?_⟩
      · rw [kV_of_rp d1]; exact DGet.k r2
      · rw [in_some r5 r6]
        exact ⟨_, rfl, q F1 H1 k1 f1⟩
  · cases q
theorem ct_NinK (n : Nat) (hu : X.A.units + 64 < cLine) (ha : CE X a ia) (hN : X.N[n]? = some nm := by rfl) (hv : Vis X.env.scope nm := by first | exact Or.inl rfl | exact Or.inr (Or.inl rfl) | exact Or.inr (Or.inr rfl))
    (hd : (nm == ("__debug__" : Str)) = false := by decide) (hcd : (nm == ("__classdict__" : Str)) = false := by decide) (hm : behindInMarks .NotIn (.Name nm p1) = false := by with_unfolding_all rfl) : CT X (.Compare a [.NotIn] [.Name nm p1] pos) (.val (.rk n gNinK (.cons ia .nil))) := fun ρ bb ρ' q => by
  unfold evT at q
  obtain ⟨p, e1, q⟩ := bnd q
  split at q
  · rename_i b2 hb
    cases q
    obtain ⟨h0, ds, kvs, e1, e2, e3⟩ := rkE e1
    obtain ⟨x, rfl, e5⟩ := a1 e1
    have ha := ha _ _ _ e5
    obtain ⟨k0, e6, e7⟩ := mp (show (toK x).map (fun k => PyData.bool (!(getD kvs k).isSome)) = some p.1 from e3)
    rw [hb] at e7
    cases e7
    rw [toK_kD e6] at ha
    exact .of (pt_cmp (pc_dnotin (by omega) (pcE a) (pe_var hN hv hd hcd)) hm) fun F0 G F H σ k Q q => ha F0 G F H σ k _ fun w F1 H1 k1 f1 d1 => by
      obtain ⟨a, ho, r1, r2, r3, r4, vvs, rfl, r5, r6⟩ := k1.has n _ _ e2 rfl
      refine ⟨.ref a, r1, a, valV vvs k0, rfl, ?_, ?_⟩
      · rw [kV_of_rp d1]; exact DGet.k r2
      · rw [in_some r5 r6]
        exact ⟨_, rfl, q F1 H1 k1 f1⟩
  · cases q
end
section
variable {X : Cx} {e : Expr} {ia : IE} {nm : Str} {p1 pos : Pos}
/-- x += e, whole numbers -/
def gIadd : List D → Option D
  | [.int i, .int j] => some (.int (i + j))
  | _ => none
def gIsub : List D → Option D
  | [.int i, .int j] => some (.int (i - j))
  | _ => none
theorem cs_aug {op : Operator} {g : List D → Option D} {f : Int → Int → Int} (hp : PIp X op (ipI f)) (hg : ∀ x y z, g [x, y] = some z → ∃ i j, x = .int i ∧ y = .int j ∧ z = .int (f i j)) (n : Nat) (hN : X.N.Nodup) (h : CE X e ia) (hi : X.N[n]? = some nm := by rfl) (hx : Loc X.env.scope nm := by first | exact Or.inl rfl | exact Or.inr rfl)
    (hf : X.fn nm = true ∨ X.env.scope.names.lookup nm = some .local := by first | exact .inl rfl | exact .inr rfl | assumption) : CS X (.AugAssign (.Name nm p1) op e pos) (.set n (.f g (.cons (.v n) (.cons ia .nil)))) := fun ρ o q => by
  unfold evS at q
  obtain ⟨p, e1, q⟩ := mp q
  cases q
  obtain ⟨ds, e2, e3⟩ := ff e1
  obtain ⟨x, y, ρ1, rfl, e4, e5⟩ := a2 e2
  obtain ⟨i, j, rfl, rfl, e6⟩ := hg _ _ _ e3
  rw [e6]
  unfold evE at e4
  split at e4
  · rename_i x' hx'
    cases e4
    exact .of (ps_aug hN hi hx (pcE e) hp hf) fun F0 G F H σ k Dn q => by
      obtain ⟨v, r1, r2⟩ := k.dat n _ hx'
      refine ⟨v, r1, h _ _ _ e5 F0 G F H σ k _ fun w F1 H1 k1 f1 d1 => ?_⟩
      cases r2
      cases d1
      exact ⟨i, j, rfl, rfl, q _ F1 H1 (k1.set (.int _)) f1⟩
  all_goals cases e4
theorem cs_iadd (n : Nat) (hN : X.N.Nodup) (h : CE X e ia) (hi : X.N[n]? = some nm := by rfl) (hx : Loc X.env.scope nm := by first | exact Or.inl rfl | exact Or.inr rfl)
    (hf : X.fn nm = true ∨ X.env.scope.names.lookup nm = some .local := by first | exact .inl rfl | exact .inr rfl | assumption) : CS X (.AugAssign (.Name nm p1) .Add e pos) (.set n (.f gIadd (.cons (.v n) (.cons ia .nil)))) :=
  cs_aug ip_add (fun x y z e => by
    cases x <;> cases y <;> first | (cases e; exact ⟨_, _, rfl, rfl, rfl⟩) | cases e) n hN h hi hx hf
theorem cs_isub (n : Nat) (hN : X.N.Nodup) (h : CE X e ia) (hi : X.N[n]? = some nm := by rfl) (hx : Loc X.env.scope nm := by first | exact Or.inl rfl | exact Or.inr rfl)
    (hf : X.fn nm = true ∨ X.env.scope.names.lookup nm = some .local := by first | exact .inl rfl | exact .inr rfl | assumption) : CS X (.AugAssign (.Name nm p1) .Sub e pos) (.set n (.f gIsub (.cons (.v n) (.cons ia .nil)))) :=
  cs_aug ip_sub (fun x y z e => by
    cases x <;> cases y <;> first | (cases e; exact ⟨_, _, rfl, rfl, rfl⟩) | cases e) n hN h hi hx hf
end
/-- a def that calls itself, no turn left: it promises nothing -/
theorem fn_none {P : Program} {w : World} {K : PySem.W.Frag} {mg : Str → Option Value} {base : Heap} {k n : Nat} {f : Addr} {fd : FuncData} {ps : List Str} : FnOk P w K mg base CX0 k f fd ps (spD K n fun _ d => none = some d) :=
  ⟨fun vs H Q E h => (by obtain ⟨_, _, _, _, _, _, hR, _⟩ := h; cases hR), fun A outer s H args us vs Q E hr e0 bt hv h => by
    obtain ⟨_, _, _, _, _, _, hR, _⟩ := h; cases hR⟩
end DI
set_option Elab.async false
set_option linter.all false
set_option maxRecDepth 100000
set_option maxHeartbeats 2000000
/-! slices of data; isinstance of two classes -/
namespace DI
open PySem PySem.Spec PyProof.Rows L2 DL
def cutD (ds : List D) (lo hi : Option Int) : List D := (ds.drop (HT.sIx ds.length 0 lo)).take (HT.sIx ds.length ds.length hi - HT.sIx ds.length 0 lo)
def cutAny (lo hi : Option Int) : D → Option D
  | .tuple ds => some (.tuple (cutD ds lo hi))
  | .list ds => some (.list (cutD ds lo hi))
  | _ => none
theorem cutD_whole {ds : List D} {lo hi : Option Int} (h : HT.sIx ds.length 0 lo = 0 ∧ HT.sIx ds.length ds.length hi = ds.length) : cutD ds lo hi = ds := by
  unfold cutD
  rw [h.1, h.2, List.drop_zero, Nat.sub_zero, List.take_length]
theorem sl_rp {K : PySem.W.Frag} {F H : Hp} {v : V} {d z : D} {lo hi : Option Int} {Q : VK} (fh : Same F H) (r : Rp K F v d) (h : cutAny lo hi d = some z) (q : ∀ u F' H', Gr F H F' H' → Rp K F' u z → Q u H') : rSlA K v lo hi H Q ∨ rSlL K v lo hi H Q := by
  cases r with
  | @tup a xs ds s r =>
    cases h
    refine .inl ⟨a, xs, rfl, sqT_mono fh s, fun hw => ?_, fun hn p hp => ?_⟩
    · rw [Rps.length r] at hw
      rw [cutD_whole hw] at q
      exact q _ F H (.refl fh) (.tup s r)
    · have gr : Gr F H (upd F p (.tup (cutV xs lo hi))) (upd H p (.tup (cutV xs lo hi))) := .laid fh hp
      exact q _ _ _ gr (.tup upd_same (rps_mono gr.f _ _ (rps_cut r lo hi)))
  | @lst a xs ds s r =>
    cases h
    refine .inr ⟨a, xs, rfl, .of (fh _ _ s), fun p hp => ?_⟩
    have gr : Gr F H (upd F p (.lst (cutV xs lo hi))) (upd H p (.lst (cutV xs lo hi))) := .laid fh hp
    exact q _ _ _ gr (.lst upd_same (rps_mono gr.f _ _ (rps_cut r lo hi)))
  | _ => cases h
theorem cut_to (ds : List D) (m : Int) : cutD ds none (some m) = upTo ds m := by
  unfold cutD upTo
  rw [HT.sIx_none, List.drop_zero, Nat.sub_zero]
  unfold HT.sIx
  simp only []
  split
  · rename_i h
    rw [if_neg (by omega)]
    congr 1
    omega
  · rename_i h
    rw [if_pos (by omega), List.take_eq_take_iff]
    omega
theorem cut_from (ds : List D) (m : Int) : cutD ds (some m) none = from_ ds m := by
  unfold cutD from_
  rw [HT.sIx_none]
  have e : ∀ k, (ds.drop k).take (ds.length - k) = ds.drop k := fun k => List.take_of_length_le (by rw [List.length_drop]; exact Nat.le_refl _)
  rw [e]
  unfold HT.sIx
  simp only []
  split
  · rename_i h
    rw [if_neg (by omega)]
    congr 1
    omega
  · rename_i h
    rw [if_pos (by omega)]
    by_cases hl : m.toNat ≤ ds.length
    · rw [Nat.min_eq_left hl]
    · rw [Nat.min_eq_right (by omega), List.drop_eq_nil_of_le (Nat.le_refl _), List.drop_eq_nil_of_le (by omega)]
theorem cut_both (ds : List D) (m k : Int) (h : 0 ≤ m ∧ 0 ≤ k) : cutD ds (some m) (some k) = (ds.take k.toNat).drop m.toNat := by
  unfold cutD HT.sIx
  simp only []
  rw [if_neg (by omega), if_neg (by omega), List.drop_take]
  by_cases hl : m.toNat ≤ ds.length
  · rw [Nat.min_eq_left hl, List.take_eq_take_iff, List.length_drop]
    omega
  · rw [show min m.toNat ds.length = ds.length from Nat.min_eq_right (by omega), List.drop_eq_nil_of_le (Nat.le_refl _), List.drop_eq_nil_of_le (show ds.length ≤ m.toNat by omega)]
    simp
section
variable {X : Cx} {e a b c : Expr} {ie ia ib ic : IE} {pos p2 : Pos}
theorem ce_cutTo (h : CE X e ie) (hb : CE X b ib) : CE X (.Subscript e (.Slice none (some b) none p2) pos) (.f gCutTo (.cons ie (.cons ib .nil))) := fun ρ d ρ' q => by
  obtain ⟨ds, e1, e2⟩ := ff q
  obtain ⟨x, y, ρ1, rfl, e3, e4⟩ := a2 e1
  obtain ⟨m, rfl, e5⟩ : ∃ m, y = .int m ∧ cutAny none (some m) x = some d := by
    unfold gCutTo at e2
    split at e2
    · rename_i hx; cases hx; cases e2; exact ⟨_, rfl, by rw [← cut_to]; rfl⟩
    · rename_i hx; cases hx; cases e2; exact ⟨_, rfl, by rw [← cut_to]; rfl⟩
    · cases e2
  exact .of (pe_slice (sl_tupA.or sl_list) (pcE e) po_none (po_some (pcE b))) fun F0 G F H σ k Q q => h _ _ _ e3 F0 G F H σ k _ fun v F1 H1 k1 f1 d1 => by
    show cE X b σ H1 _
    refine hb _ _ _ e4 F0 G F1 H1 σ k1 _ fun w F2 H2 k2 f2 d2 => ?_
    cases d2
    exact ⟨_, rfl, sl_rp k2.fh (rp_mono f2 _ _ d1) e5 fun u F3 H3 gr d3 => q u F3 H3 (k2.gr gr) ((f1.trans f2).trans gr.f) d3⟩
theorem ce_cutFrom (h : CE X e ie) (hb : CE X b ib) : CE X (.Subscript e (.Slice (some b) none none p2) pos) (.f gCutFrom (.cons ie (.cons ib .nil))) := fun ρ d ρ' q => by
  obtain ⟨ds, e1, e2⟩ := ff q
  obtain ⟨x, y, ρ1, rfl, e3, e4⟩ := a2 e1
  obtain ⟨m, rfl, e5⟩ : ∃ m, y = .int m ∧ cutAny (some m) none x = some d := by
    unfold gCutFrom at e2
    split at e2
    · rename_i hx; cases hx; cases e2; exact ⟨_, rfl, by rw [← cut_from]; rfl⟩
    · rename_i hx; cases hx; cases e2; exact ⟨_, rfl, by rw [← cut_from]; rfl⟩
    · cases e2
  exact .of (pe_slice (sl_tupA.or sl_list) (pcE e) (po_some (pcE b)) po_none) fun F0 G F H σ k Q q => h _ _ _ e3 F0 G F H σ k _ fun v F1 H1 k1 f1 d1 => by
    show cE X b σ H1 _
    refine hb _ _ _ e4 F0 G F1 H1 σ k1 _ fun w F2 H2 k2 f2 d2 => ?_
    cases d2
    exact ⟨_, rfl, sl_rp k2.fh (rp_mono f2 _ _ d1) e5 fun u F3 H3 gr d3 => q u F3 H3 (k2.gr gr) ((f1.trans f2).trans gr.f) d3⟩
theorem ce_cut (h : CE X e ie) (ha : CE X a ia) (hb : CE X b ib) : CE X (.Subscript e (.Slice (some a) (some b) none p2) pos) (.f gCut (.cons ie (.cons ia (.cons ib .nil)))) := fun ρ d ρ' q => by
  obtain ⟨ds, e1, e2⟩ := ff q
  obtain ⟨x, y, z, ρ1, ρ2, rfl, e3, e4, e6⟩ := a3 e1
  obtain ⟨m, k, rfl, rfl, e5⟩ : ∃ m k, y = .int m ∧ z = .int k ∧ cutAny (some m) (some k) x = some d := by
    unfold gCut at e2
    split at e2
    · rename_i hx; cases hx
      split at e2
      · rename_i hz; cases e2; exact ⟨_, _, rfl, rfl, by rw [← cut_both _ _ _ hz]; rfl⟩
      · cases e2
    · rename_i hx; cases hx
      split at e2
      · rename_i hz; cases e2; exact ⟨_, _, rfl, rfl, by rw [← cut_both _ _ _ hz]; rfl⟩
      · cases e2
    · cases e2
  exact .of (pe_slice (sl_tupA.or sl_list) (pcE e) (po_some (pcE a)) (po_some (pcE b))) fun F0 G F H σ k Q q => h _ _ _ e3 F0 G F H σ k _ fun v F1 H1 k1 f1 d1 => by
    show cE X a σ H1 _
    refine ha _ _ _ e4 F0 G F1 H1 σ k1 _ fun w F2 H2 k2 f2 d2 => ?_
    cases d2
    refine ⟨_, rfl, ?_⟩
    show cE X b σ H2 _
    refine hb _ _ _ e6 F0 G F2 H2 σ k2 _ fun w F3 H3 k3 f3 d3 => ?_
    cases d3
    exact ⟨_, rfl, sl_rp k3.fh (rp_mono (f2.trans f3) _ _ d1) e5 fun u F4 H4 gr d4 => q u F4 H4 (k3.gr gr) (((f1.trans f2).trans f3).trans gr.f) d4⟩
/-! isinstance(x, (T1, T2)) -/
theorem kit2 {K : PySem.W.Frag} {t a b : String} {x y : Bool} (h1 : kitB t a = some x) (h2 : kitB t b = some y) : PySem.W.kitAny K (.type t) [.type a, .type b] = some (x || y) :=
  kitAny_cons (kit_ty h1) (fun hx => by
    subst hx
    exact kitAny_cons (kit_ty h2) (fun hy => by subst hy; exact kitAny_nil) (fun hy => by subst hy; rfl)) fun hx => by subst hx; rfl
theorem ce_isi2 {n1 n2 : Str} {T1 T2 : String} {p p1 p3 pt : Pos} {kt : Nat} (h : CE X e ie) (hm : X.mg "isinstance" = none) (hm1 : X.mg n1 = none) (hv1 : bootBuiltins n1 = some (.type T1)) (hm2 : X.mg n2 = none) (hv2 : bootBuiltins n2 = some (.type T2)) (hg : Gl X "isinstance" := by rfl) (hg1 : Gl X n1 := by rfl) (hg2 : Gl X n2 := by rfl)
    (hn1 : n1 ≠ "__name__" := by decide) (hdb1 : (n1 == ("__debug__" : Str)) = false := by decide) (hn2 : n2 ≠ "__name__" := by decide) (hdb2 : (n2 == ("__debug__" : Str)) = false := by decide)
    (q0 : starEach [e, .Tuple [.Name n1 p1, .Name n2 p3] kt pt] X.env = (false, eval e X.env) :: starEach [.Tuple [.Name n1 p1, .Name n2 p3] kt pt] X.env := by rfl)
    (q1 : starEach [.Tuple [.Name n1 p1, .Name n2 p3] kt pt] X.env = (false, eval (.Tuple [.Name n1 p1, .Name n2 p3] kt pt) X.env) :: starEach [] X.env := by rfl)
    (q2 : starEach [.Name n1 p1, .Name n2 p3] X.env = (false, eval (.Name n1 p1) X.env) :: starEach [.Name n2 p3] X.env := by rfl) (q3 : starEach [.Name n2 p3] X.env = (false, eval (.Name n2 p3) X.env) :: starEach [] X.env := by rfl)
    (q4 : ((backTo pos (starEach [.Tuple [.Name n1 p1, .Name n2 p3] kt pt] X.env)).any fun x => x.fst) = false := by rfl) :
    CE X (.Call (.Name "isinstance" p) [e, .Tuple [.Name n1 p1, .Name n2 p3] kt pt] [] pos) (.f (gIsi2 T1 T2) (.cons ie .nil)) := fun ρ d ρ' q => by
  obtain ⟨ds, e1, e2⟩ := ff q
  obtain ⟨x, rfl, e3⟩ := a1 e1
  have hx : ¬ dctB x = true := fun z => by
    have e2 : (if dctB x = true then none else (kitB (tyD x) T1).bind (fun a => (kitB (tyD x) T2).map fun b => PyData.bool (a || b))) = some d := e2
    rw [if_pos z] at e2
    cases e2
  have e2 : (if dctB x = true then none else (kitB (tyD x) T1).bind (fun a => (kitB (tyD x) T2).map fun b => PyData.bool (a || b))) = some d := e2
  rw [if_neg hx] at e2
  obtain ⟨b1, e4, e5⟩ := bnd e2
  obtain ⟨b2, e6, e7⟩ := mp e5
  subst e7
  exact .of (pe_callB call_isiT hg hm b_isinstance (pa_cons (pcE e) (pa_cons (pe_tup (pa_cons (pe_bltn (v := .ty T1) hg1 hm1 hv1 rfl hn1 hdb1) (pa_cons (pe_bltn (v := .ty T2) hg2 hm2 hv2 rfl hn2 hdb2) pa_nil q3) q2)) pa_nil q1) q0) (by decide) (by decide) q0 q4) fun F0 G F H σ k Q q => h _ _ _ e3 F0 G F H σ k _ fun v F1 H1 k1 f1 d1 => by
    refine ⟨(by show 2 ≤ sizeLine; decide), fun tp hp => ?_⟩
    have k2 := k1.loose (o := .tup [.ty T1, .ty T2]) hp
    exact ⟨v, tp, [.ty T1, .ty T2], _, [.type T1, .type T2], b1 || b2, rfl, upd_same, .cons (.ty T1) (.cons (.ty T2) .nil), ty_rp k2.fh d1 (Bool.eq_false_iff.mpr hx), kit2 e4 e6, q _ F1 _ k2 f1 (.bl _)⟩
end
theorem hu1 {u c : Nat} (h : u + 64 < c) : u + 1 < c := by omega
end DI
set_option Elab.async false
set_option linter.all false
set_option maxRecDepth 100000
set_option maxHeartbeats 2000000
/-! dicts by tuples of whole numbers and texts: own ones, and ones that are data -/
namespace DI
open PySem PySem.Spec PyProof.Rows L2 DL
theorem tup_at {ρ : List Sl} {n : Nat} {kvs : List (List Key × D)} (h : tupAt ρ n = some kvs) : ρ[n]? = some (.t kvs) := by
  unfold tupAt at h
  split at h
  · rename_i k e; cases h; exact e
  · cases h
theorem toKs_eq : ∀ {ds : List D} {ks : List Key}, toKs ds = some ks → ds = ks.map kD0
  | [], ks, h => by cases h; rfl
  | .int i :: ds, ks, h => by
    obtain ⟨l, e, rfl⟩ := mp (show (toKs ds).map (fun ks => Sum.inl i :: ks) = some ks from h)
    rw [toKs_eq e]; rfl
  | .str i :: ds, ks, h => by
    obtain ⟨l, e, rfl⟩ := mp (show (toKs ds).map (fun ks => Sum.inr i :: ks) = some ks from h)
    rw [toKs_eq e]; rfl
  | .none :: ds, ks, h => by cases h
  | .bool _ :: ds, ks, h => by cases h
  | .list _ :: ds, ks, h => by cases h
  | .tuple _ :: ds, ks, h => by cases h
  | .dict _ :: ds, ks, h => by cases h
theorem toKs_map : ∀ ks : List Key, toKs (ks.map kD0) = some ks
  | [] => rfl
  | .inl i :: ks => by show (toKs (ks.map kD0)).map _ = _; rw [toKs_map ks]; rfl
  | .inr i :: ks => by show (toKs (ks.map kD0)).map _ = _; rw [toKs_map ks]; rfl
theorem rps_kV {K : PySem.W.Frag} {F : Hp} : ∀ {ks : List Key} {vs : List V}, Rps K F vs (ks.map kD0) → vs = ks.map kV
  | [], vs, h => by cases h; rfl
  | .inl i :: ks, vs, h => by
    cases h with
    | cons h1 h2 => cases h1; rw [rps_kV h2]; rfl
  | .inr i :: ks, vs, h => by
    cases h with
    | cons h1 h2 => cases h1; rw [rps_kV h2]; rfl
/-- a key's tuple -/
theorem key_rp {K : PySem.W.Frag} {F : Hp} {x : D} {w : V} {ks : List Key} (h : Rp K F w x) (ht : toT x = some ks) : ∃ b, w = .ref b ∧ F b = some (.tup (ks.map kV)) := by
  cases x with
  | tuple ds =>
    have e := toKs_eq (show toKs ds = some ks from ht)
    subst e
    cases h with
    | tup s r => rw [rps_kV r] at s; exact ⟨_, rfl, s⟩
  | _ => cases ht
section
variable {X : Cx} {e a b : Expr} {ia ib : IE} {nm : Str} {p1 p2 pos : Pos} {ρ ρ1 ρ2 : List Sl} {x y : D}
theorem xw_dictT : DL.XW X (.Dict [] [] pos) ρ (.t []) ρ := .of pe_dnewT fun F0 G F H σ k Q q p hp => q p _ F H k (Same.refl _) hp ⟨[], rfl, rfl, .nil⟩
theorem cs_dictT (n : Nat) (hN : X.N.Nodup) (hi : X.N[n]? = some nm := by rfl) (hx : Loc X.env.scope nm := by first | exact Or.inl rfl | exact Or.inr rfl) (hs : swapsWith (.Dict [] [] p2) (some (.Name nm p1)) pos.line X.env = pure false := by rfl)
    (hf : X.fn nm = true ∨ X.env.scope.names.lookup nm = some .local := by first | exact .inl rfl | exact .inr rfl | assumption) : CS X (.Assign [.Name nm p1] (.Dict [] [] p2) pos) (.setT n) := fun ρ o q => by
  unfold evS at q
  cases q
  exact .of (ps_set hN hi hx (pcE _) hs hf) fun F0 G F H σ k Dn q => xw_dictT F0 G F H σ k _ fun p vs F1 H1 k1 f1 hp fp gp ap dv => q _ F1 H1 (k1.setW hp fp gp ap dv rfl fun _ _ z => by cases z) f1
theorem cs_putT (n : Nat) (hu : X.A.units + 1 < cLine) (h : CE X e ia) (hb : CE X b ib) (hN : X.N[n]? = some nm := by rfl) (hv : Vis X.env.scope nm := by first | exact Or.inl rfl | exact Or.inr (Or.inl rfl) | exact Or.inr (Or.inr rfl))
    (hd : (nm == ("__debug__" : Str)) = false := by decide) (hcd : (nm == ("__classdict__" : Str)) = false := by decide)
    (hg : ∀ (ta tb : TE), X.A.units + 1 < cLine → PE X (.Name nm p1) ta → PE X b tb → PG X (.Subscript (.Name nm p1) b p2) (L2.gSub ta tb L2.rSetD) := by exact fun _ _ hu h1 h2 => pg_sub h1 h2 (set_dict hu))
    (hs : swapsWithSole [.Subscript (.Name nm p1) b p2] e pos.line X.env = pure false := by rfl) (hw : swappedStores [.Subscript (.Name nm p1) b p2] e X.env = pure none := by rfl)
    (h1 : (assignEach [.Subscript (.Name nm p1) b p2] X.env).map (·.2) = [assign (.Subscript (.Name nm p1) b p2) X.env] := by rfl) : CS X (.Assign [.Subscript (.Name nm p1) b p2] e pos) (.putT n ia ib) := fun ρ o q => by
  unfold evS at q
  obtain ⟨p, e1, q⟩ := bnd q
  obtain ⟨k0, e2, q⟩ := bnd q
  obtain ⟨r, e3, q⟩ := bnd q
  obtain ⟨kvs, e4, q⟩ := bnd q
  split at q
  · rename_i hz
    obtain ⟨ks, e5, q⟩ := mp q
    subst q
    have h := h _ _ _ e1
    have hb := hb _ _ _ e3
    exact .of (ps_asg (pcE e) (hg _ _ hu (pe_var hN hv hd hcd) (pcE b)) hs hw h1) fun F0 G F H σ k Dn q => h F0 G F H σ k _ fun v F1 H1 k1 f1 d1 => by
      obtain ⟨p0, _, r0, _⟩ := k1.has n _ _ (tup_at e2) rfl
      refine ⟨.ref p0, r0, hb F0 G F1 H1 σ k1 _ fun w F2 H2 k2 f2 d2 => ?_⟩
      obtain ⟨kb, rfl, tb⟩ := key_rp d2 e5
      obtain ⟨p', ho, r1, r2, r3, r4, vvs, rfl, r5, r6⟩ := k2.has n _ _ (tup_at e4) rfl
      rw [r0] at r1
      cases r1
      have hl := kvs_len r5
      refine ⟨p0, _, rfl, .inr ⟨vvs, ks, kb, r2, rfl, k2.fh _ _ tb, by rw [hl]; exact Nat.lt_of_le_of_lt hz (by decide), rfl⟩, ?_⟩
      obtain ⟨q1, q2⟩ := put_at (rp_mono f2 _ _ d1) ks r5 r6
      exact q σ F2 _ (k2.writeW (tup_at e4) rfl r0 rfl (fun _ _ z => by cases z) ⟨_, rfl, q1, q2⟩) (f1.trans f2)
  · cases q
/-! own dicts by tuples, read -/
def gIxT (kvs : List (List Key × D)) : List D → Option D
  | [d] => (toT d).bind fun k => getD kvs k
  | _ => none
def gInT (kvs : List (List Key × D)) : List D → Option D
  | [d] => (toT d).map fun k => .bool (getD kvs k).isSome
  | _ => none
def gNinT (kvs : List (List Key × D)) : List D → Option D
  | [d] => (toT d).map fun k => .bool (!(getD kvs k).isSome)
  | _ => none
theorem rtE {n : Nat} {g : List (List Key × D) → List D → Option D} {as : IA} {ρ ρ' : List Sl} {d : D} (h : evE (.rt n g as) ρ = some (d, ρ')) : (∃ kvs0, ρ[n]? = some (.t kvs0)) ∧ ∃ ds kvs, evA as ρ = some (ds, ρ') ∧ ρ'[n]? = some (.t kvs) ∧ g kvs ds = some d := by
  unfold evE at h
  obtain ⟨xs0, e0, h⟩ := bnd h
  obtain ⟨p, e1, h⟩ := bnd h
  obtain ⟨kvs, e2, h⟩ := bnd h
  obtain ⟨q, e3, h⟩ := mp h
  cases h
  exact ⟨⟨_, tup_at e0⟩, _, kvs, e1, tup_at e2, e3⟩
theorem inT_some {K : PySem.W.Frag} {F : Hp} {k0 : List Key} {vvs : List (List Key × V)} {kvs : List (List Key × D)} (h1 : vvs.map (·.1) = kvs.map (·.1)) (h2 : Rps K F (vvs.map (·.2)) (kvs.map (·.2))) : (valV vvs k0).isSome = (getD kvs k0).isSome := by
  obtain ⟨g1, g2⟩ := get_at k0 h1 h2
  cases e : getD kvs k0 with
  | none => rw [g1 e]; rfl
  | some d =>
    obtain ⟨v, q, _⟩ := g2 d e
    rw [q]; rfl
theorem ce_ixT (n : Nat) (hu : X.A.units + 64 < cLine) (hb : CE X b ib) (hN : X.N[n]? = some nm := by rfl) (hv : Vis X.env.scope nm := by first | exact Or.inl rfl | exact Or.inr (Or.inl rfl) | exact Or.inr (Or.inr rfl))
    (hd : (nm == ("__debug__" : Str)) = false := by decide) (hcd : (nm == ("__classdict__" : Str)) = false := by decide) (hs : NoSl b := by exact fun _ _ => rfl) : CE X (.Subscript (.Name nm p1) b pos) (.rt n gIxT (.cons ib .nil)) := fun ρ d ρ' h => by
  obtain ⟨⟨kvs0, h0⟩, ds, kvs, e1, e2, e3⟩ := rtE h
  obtain ⟨x, rfl, e5⟩ := a1 e1
  have hb := hb _ _ _ e5
  obtain ⟨k0, e6, e7⟩ := bnd (show (toT x).bind (fun k => getD kvs k) = some d from e3)
  exact .of (pe_dget (by omega) (pe_var hN hv hd hcd) (pcE b) hs) fun F0 G F H σ k Q q => by
    obtain ⟨a0, ho0, q1, q2, _⟩ := k.has n _ _ h0 rfl
    refine ⟨.ref a0, q1, hb F0 G F H σ k _ fun w F1 H1 k1 f1 d1 => ?_⟩
    obtain ⟨kb, rfl, tb⟩ := key_rp d1 e6
    obtain ⟨a, ho, r1, r2, r3, r4, vvs, rfl, r5, r6⟩ := k1.has n _ _ e2 rfl
    rw [q1] at r1
    cases r1
    obtain ⟨v, g1, g2⟩ := (get_at k0 r5 r6).2 d e7
    refine ⟨a0, v, rfl, ?_, q v F1 H1 k1 f1 g2⟩
    rw [← g1]
    exact DGet.t r2 (k1.fh _ _ tb)
theorem ce_InT (n : Nat) (hu : X.A.units + 64 < cLine) (ha : CE X a ia) (hN : X.N[n]? = some nm := by rfl) (hv : Vis X.env.scope nm := by first | exact Or.inl rfl | exact Or.inr (Or.inl rfl) | exact Or.inr (Or.inr rfl))
    (hd : (nm == ("__debug__" : Str)) = false := by decide) (hcd : (nm == ("__classdict__" : Str)) = false := by decide) (hm : behindInMarks .In (.Name nm p1) = false := by with_unfolding_all rfl) : CE X (.Compare a [.In] [.Name nm p1] pos) (.rt n gInT (.cons ia .nil)) := fun ρ d ρ' h => by
  obtain ⟨h0, ds, kvs, e1, e2, e3⟩ := rtE h
  obtain ⟨x, rfl, e5⟩ := a1 e1
  have ha := ha _ _ _ e5
  obtain ⟨k0, e6, e7⟩ := mp (show (toT x).map (fun k => PyData.bool (getD kvs k).isSome) = some d from e3)
  subst e7
  exact .of (pe_cmp (pc_din (by omega) (pcE a) (pe_var hN hv hd hcd)) hm) fun F0 G F H σ k Q q => ha F0 G F H σ k _ fun w F1 H1 k1 f1 d1 => by
    obtain ⟨kb, rfl, tb⟩ := key_rp d1 e6
    obtain ⟨a, ho, r1, r2, r3, r4, vvs, rfl, r5, r6⟩ := k1.has n _ _ e2 rfl
    refine ⟨.ref a, r1, a, valV vvs k0, rfl, DGet.t r2 (k1.fh _ _ tb), ?_⟩
    rw [inT_some r5 r6]
    exact q _ F1 H1 k1 f1 (.bl _)
theorem ce_NinT (n : Nat) (hu : X.A.units + 64 < cLine) (ha : CE X a ia) (hN : X.N[n]? = some nm := by rfl) (hv : Vis X.env.scope nm := by first | exact Or.inl rfl | exact Or.inr (Or.inl rfl) | exact Or.inr (Or.inr rfl))
    (hd : (nm == ("__debug__" : Str)) = false := by decide) (hcd : (nm == ("__classdict__" : Str)) = false := by decide) (hm : behindInMarks .NotIn (.Name nm p1) = false := by with_unfolding_all rfl) : CE X (.Compare a [.NotIn] [.Name nm p1] pos) (.rt n gNinT (.cons ia .nil)) := fun ρ d ρ' h => by
  obtain ⟨h0, ds, kvs, e1, e2, e3⟩ := rtE h
  obtain ⟨x, rfl, e5⟩ := a1 e1
  have ha := ha _ _ _ e5
  obtain ⟨k0, e6, e7⟩ := mp (show (toT x).map (fun k => PyData.bool (!(getD kvs k).isSome)) = some d from e3)
  subst e7
  exact .of (pe_cmp (pc_dnotin (by omega) (pcE a) (pe_var hN hv hd hcd)) hm) fun F0 G F H σ k Q q => ha F0 G F H σ k _ fun w F1 H1 k1 f1 d1 => by
    obtain ⟨kb, rfl, tb⟩ := key_rp d1 e6
    obtain ⟨a, ho, r1, r2, r3, r4, vvs, rfl, r5, r6⟩ := k1.has n _ _ e2 rfl
    refine ⟨.ref a, r1, a, valV vvs k0, rfl, DGet.t r2 (k1.fh _ _ tb), ?_⟩
    rw [inT_some r5 r6]
    exact q _ F1 H1 k1 f1 (.bl _)
theorem ct_InT (n : Nat) (hu : X.A.units + 64 < cLine) (ha : CE X a ia) (hN : X.N[n]? = some nm := by rfl) (hv : Vis X.env.scope nm := by first | exact Or.inl rfl | exact Or.inr (Or.inl rfl) | exact Or.inr (Or.inr rfl))
    (hd : (nm == ("__debug__" : Str)) = false := by decide) (hcd : (nm == ("__classdict__" : Str)) = false := by decide) (hm : behindInMarks .In (.Name nm p1) = false := by with_unfolding_all rfl) : CT X (.Compare a [.In] [.Name nm p1] pos) (.val (.rt n gInT (.cons ia .nil))) := fun ρ bb ρ' q => by
  unfold evT at q
  obtain ⟨p, e1, q⟩ := bnd q
  split at q
  · rename_i b2 hb
    cases q
    obtain ⟨h0, ds, kvs, e1, e2, e3⟩ := rtE e1
    obtain ⟨x, rfl, e5⟩ := a1 e1
    have ha := ha _ _ _ e5
    obtain ⟨k0, e6, e7⟩ := mp (show (toT x).map (fun k => PyData.bool (getD kvs k).isSome) = some p.1 from e3)
    rw [hb] at e7
    cases e7
    exact .of (pt_cmp (pc_din (by omega) (pcE a) (pe_var hN hv hd hcd)) hm) fun F0 G F H σ k Q q => ha F0 G F H σ k _ fun w F1 H1 k1 f1 d1 => by
      obtain ⟨kb, rfl, tb⟩ := key_rp d1 e6
      obtain ⟨a, ho, r1, r2, r3, r4, vvs, rfl, r5, r6⟩ := k1.has n _ _ e2 rfl
      refine ⟨.ref a, r1, a, valV vvs k0, rfl, DGet.t r2 (k1.fh _ _ tb), ?_⟩
      rw [inT_some r5 r6]
      exact ⟨_, rfl, q F1 H1 k1 f1⟩
  · cases q
theorem ct_NinT (n : Nat) (hu : X.A.units + 64 < cLine) (ha : CE X a ia) (hN : X.N[n]? = some nm := by rfl) (hv : Vis X.env.scope nm := by first | exact Or.inl rfl | exact Or.inr (Or.inl rfl) | exact Or.inr (Or.inr rfl))
    (hd : (nm == ("__debug__" : Str)) = false := by decide) (hcd : (nm == ("__classdict__" : Str)) = false := by decide) (hm : behindInMarks .NotIn (.Name nm p1) = false := by with_unfolding_all rfl) : CT X (.Compare a [.NotIn] [.Name nm p1] pos) (.val (.rt n gNinT (.cons ia .nil))) := fun ρ bb ρ' q => by
  unfold evT at q
  obtain ⟨p, e1, q⟩ := bnd q
  split at q
  · rename_i b2 hb
    cases q
    obtain ⟨h0, ds, kvs, e1, e2, e3⟩ := rtE e1
    obtain ⟨x, rfl, e5⟩ := a1 e1
    have ha := ha _ _ _ e5
    obtain ⟨k0, e6, e7⟩ := mp (show (toT x).map (fun k => PyData.bool (!(getD kvs k).isSome)) = some p.1 from e3)
    rw [hb] at e7
    cases e7
    exact .of (pt_cmp (pc_dnotin (by omega) (pcE a) (pe_var hN hv hd hcd)) hm) fun F0 G F H σ k Q q => ha F0 G F H σ k _ fun w F1 H1 k1 f1 d1 => by
      obtain ⟨kb, rfl, tb⟩ := key_rp d1 e6
      obtain ⟨a, ho, r1, r2, r3, r4, vvs, rfl, r5, r6⟩ := k1.has n _ _ e2 rfl
      refine ⟨.ref a, r1, a, valV vvs k0, rfl, DGet.t r2 (k1.fh _ _ tb), ?_⟩
      rw [inT_some r5 r6]
      exact ⟨_, rfl, q F1 H1 k1 f1⟩
  · cases q
/-! a dict that is data -/
def asT0 : List (D × D) → Option (List (List Key × D))
  | [] => some []
  | p :: es => (toT p.1).bind fun k => (asT0 es).map fun l => (k, p.2) :: l
def asT : D → Option (List (List Key × D))
  | .dict ((.bool true, .none) :: es) => asT0 es
  | _ => none
theorem asT0_td : ∀ kvs : List (List Key × D), asT0 (kvs.map fun p => (.tuple (p.1.map kD0), p.2)) = some kvs
  | [] => rfl
  | p :: l => by
    show (toKs (p.1.map kD0)).bind _ = _
    rw [toKs_map]
    show (asT0 (l.map fun p => (.tuple (p.1.map kD0), p.2))).map _ = _
    rw [asT0_td l]
    rfl
theorem asT_td (kvs : List (List Key × D)) : asT (tdD kvs) = some kvs := asT0_td kvs
theorem asT0_at : ∀ {es : List (D × D)} {vvs : List (List Key × V)} {kvs : List (List Key × D)}, asT0 es = some kvs → es.map (·.1) = vvs.map (fun p => PyData.tuple (p.1.map kD0)) → vvs.map (·.1) = kvs.map (·.1) ∧ es.map (·.2) = kvs.map (·.2)
  | [], vvs, kvs, h, e => by
    cases h
    cases vvs with
    | nil => exact ⟨rfl, rfl⟩
    | cons a l => cases e
  | p :: es, vvs, kvs, h, e => by
    obtain ⟨k, e1, h⟩ := bnd h
    obtain ⟨l, e2, h⟩ := mp h
    subst h
    cases vvs with
    | nil => cases e
    | cons a m =>
      simp only [List.map_cons, List.cons.injEq] at e ⊢
      obtain ⟨i1, i2⟩ := asT0_at e2 e.2
      rw [e.1] at e1
      have : toKs (a.1.map kD0) = some k := e1
      rw [toKs_map] at this
      cases this
      exact ⟨⟨rfl, i1⟩, ⟨trivial, i2⟩⟩
theorem dct_at {K : PySem.W.Frag} {F : Hp} {d : D} {w : V} {kvs : List (List Key × D)} (h : Rp K F w d) (ht : asT d = some kvs) : ∃ (a : Addr) (o : Obj) (vvs : List (List Key × V)), w = .ref a ∧ F a = some (.frz o (.dT vvs)) ∧ vvs.map (·.1) = kvs.map (·.1) ∧ Rps K F (vvs.map (·.2)) (kvs.map (·.2)) := by
  cases h with
  | dct s hk r =>
    obtain ⟨i1, i2⟩ := asT0_at ht hk
    rw [i2] at r
    exact ⟨_, _, _, rfl, s, i1, r⟩
  | _ => cases ht
def gIxD : List D → Option D
  | [d, k] => (asT d).bind fun kvs => (toT k).bind fun ks => getD kvs ks
  | _ => none
theorem ce_ixD (hu : X.A.units + 64 < cLine) (ha : CE X a ia) (hb : CE X b ib) (hs : NoSl b := by exact fun _ _ => rfl) : CE X (.Subscript a b pos) (.f gIxD (.cons ia (.cons ib .nil))) := fun ρ d ρ' h => by
  obtain ⟨ds, e1, e2⟩ := ff h
  obtain ⟨x, y, ρ1, rfl, e3, e4⟩ := a2 e1
  obtain ⟨kvs, e5, e6⟩ := bnd (show (asT x).bind (fun kvs => (toT y).bind fun ks => getD kvs ks) = some d from e2)
  obtain ⟨ks, e7, e8⟩ := bnd e6
  exact .of (pe_dget (by omega) (pcE a) (pcE b) hs) fun F0 G F H σ k Q q => ha _ _ _ e3 F0 G F H σ k _ fun v F1 H1 k1 f1 d1 => hb _ _ _ e4 F0 G F1 H1 σ k1 _ fun w F2 H2 k2 f2 d2 => by
    obtain ⟨p, o, vvs, rfl, r1, r2, r3⟩ := dct_at (rp_mono f2 _ _ d1) e5
    obtain ⟨kb, rfl, tb⟩ := key_rp d2 e7
    obtain ⟨v, g1, g2⟩ := (get_at ks r2 r3).2 d e8
    refine ⟨p, v, rfl, .inr ⟨vvs, ks, kb, .inr ⟨o, k2.fh _ _ r1⟩, rfl, k2.fh _ _ tb, g1.symm⟩, q v F2 H2 k2 (f1.trans f2) g2⟩
def gInD : List D → Option Bool
  | [k, d] => (asT d).bind fun kvs => (toT k).map fun ks => (getD kvs ks).isSome
  | _ => none
def gNinD : List D → Option Bool
  | [k, d] => (asT d).bind fun kvs => (toT k).map fun ks => !(getD kvs ks).isSome
  | _ => none
def rDin : L2.R2 := fun y x H Q => ∃ a o, x = .ref a ∧ DGet H a y o ∧ Q (.bl o.isSome) H
def rDnin : L2.R2 := fun y x H Q => ∃ a o, x = .ref a ∧ DGet H a y o ∧ Q (.bl (!o.isSome)) H
theorem op_din (hu : X.A.units + 1 < cLine) : OpR X (compareOp .In) rDin := by
  intro pins s σ H y x iv u Q I ry rx h
  obtain ⟨a, o, rfl, g, q⟩ := h
  cases (show u = Value.ref a from rx)
  exact d_in hu I g ry fun s' I' => ⟨.bl o.isSome, H, I', rfl, q⟩
theorem op_dnin (hu : X.A.units + 1 < cLine) : OpR X (compareOp .NotIn) rDnin := by
  intro pins s σ H y x iv u Q I ry rx h
  obtain ⟨a, o, rfl, g, q⟩ := h
  cases (show u = Value.ref a from rx)
  exact d_notIn hu I g ry fun s' I' => ⟨.bl (!o.isSome), H, I', rfl, q⟩
theorem br_gInD (hu : X.A.units + 64 < cLine) : ∀ x y z, gInD [x, y] = some z → BR X (compareOp .In) x y (.bool z) := fun x y z h => by
  obtain ⟨kvs, e5, e6⟩ := bnd (show (asT y).bind (fun kvs => (toT x).map fun ks => (getD kvs ks).isSome) = some z from h)
  obtain ⟨ks, e7, e8⟩ := mp e6
  subst e8
  exact ⟨_, op_din (by omega), fun F H v w Q fh h1 h2 q => by
    obtain ⟨p, o, vvs, rfl, r1, r2, r3⟩ := dct_at h2 e5
    obtain ⟨kb, rfl, tb⟩ := key_rp h1 e7
    refine ⟨p, _, rfl, .inr ⟨vvs, ks, kb, .inr ⟨o, fh _ _ r1⟩, rfl, fh _ _ tb, rfl⟩, ?_⟩
    rw [inT_some r2 r3]
    exact q _ F H (.refl fh) (.bl _)⟩
theorem br_gNinD (hu : X.A.units + 64 < cLine) : ∀ x y z, gNinD [x, y] = some z → BR X (compareOp .NotIn) x y (.bool z) := fun x y z h => by
  obtain ⟨kvs, e5, e6⟩ := bnd (show (asT y).bind (fun kvs => (toT x).map fun ks => !(getD kvs ks).isSome) = some z from h)
  obtain ⟨ks, e7, e8⟩ := mp e6
  subst e8
  exact ⟨_, op_dnin (by omega), fun F H v w Q fh h1 h2 q => by
    obtain ⟨p, o, vvs, rfl, r1, r2, r3⟩ := dct_at h2 e5
    obtain ⟨kb, rfl, tb⟩ := key_rp h1 e7
    refine ⟨p, _, rfl, .inr ⟨vvs, ks, kb, .inr ⟨o, fh _ _ r1⟩, rfl, fh _ _ tb, rfl⟩, ?_⟩
    rw [inT_some r2 r3]
    exact q _ F H (.refl fh) (.bl _)⟩
/-! a dict that is data, walked -/
theorem gr_tup {F H : Hp} {q : Addr} {xs : List V} (fh : Same F H) (h : H q = some (.tup xs)) : Gr F H (upd F q (.tup xs)) H := by
  refine ⟨fun b u e => ?_, Same.refl _, fun b u e => ?_, fun b hb => ?_⟩
  · by_cases hbq : b = q
    · subst hbq
      have := fh b u e
      rw [h] at this
      rw [upd_same]
      exact this
    · rw [upd_ne hbq]; exact e
  · by_cases hbq : b = q
    · subst hbq; rw [upd_same] at e; cases e; exact h
    · rw [upd_ne hbq] at e; exact fh b u e
  · rw [upd_ne (fun z => by rw [z, h] at hb; exact hb)]
theorem rps_of_kV {K : PySem.W.Frag} {F : Hp} : ∀ ks : List Key, Rps K F (ks.map kV) (ks.map kD0)
  | [] => .nil
  | .inl i :: ks => .cons (.int i) (rps_of_kV ks)
  | .inr x :: ks => .cons (.str x) (rps_of_kV ks)
def keysD (kvs : List (List Key × D)) : List D := kvs.map fun p => .tuple (p.1.map kD0)
def gKeysD : List D → Option (List D)
  | [d] => (asT d).map keysD
  | _ => none
theorem ci_keysD {tg : Expr} (h : CE X e ia) : CI X tg e (.f gKeysD (.cons ia .nil)) := fun ρ d ρ' q => by
  obtain ⟨ds, e1, e2⟩ := fi q
  obtain ⟨x, rfl, e3⟩ := a1 e1
  obtain ⟨kvs, e4, e5⟩ := mp (show (asT x).map keysD = some d from e2)
  subst e5
  exact .of (pi_keys (pcE e)) fun F0 G F H σ k R q => h _ _ _ e3 F0 G F H σ k _ fun v F1 H1 k1 f1 d1 => by
    obtain ⟨p, o, vvs, rfl, r1, r2, r3⟩ := dct_at d1 e4
    have hl : vvs.length = kvs.length := kvs_len r2
    refine ⟨p, o, rfl, .inr ⟨vvs, k1.fh _ _ r1, q _ F1 H1 k1 f1 ⟨fun i H2 f2 hi => ⟨f2 _ _ r1, ?_⟩, fun H2 f2 => ⟨f2 _ _ r1, ?_⟩, fun i H2 x H3 F2 f2 f3 hy d hd => ?_⟩⟩⟩
    · rw [hl]; simpa [keysD] using hi
    · rw [hl]; simp [keysD]
    · obtain ⟨rfl, ks, v, b, g1, rfl, g2⟩ := hy
      refine ⟨_, gr_tup f3 g2, ?_⟩
      have g3 : (kvs.map (·.1))[i]? = some ks := by rw [← r2, List.getElem?_map, g1]; rfl
      have g4 : d = .tuple (ks.map kD0) := by
        have : (keysD kvs) = (kvs.map (·.1)).map fun l => PyData.tuple (l.map kD0) := by unfold keysD; rw [List.map_map]; rfl
        rw [this, List.getElem?_map, g3] at hd
        cases hd
        rfl
      subst g4
      exact .tup upd_same (rps_of_kV ks)
/-! list(d) -/
theorem keys_rp {K : PySem.W.Frag} {H : Hp} : ∀ {vvs : List (List Key × V)} {bs : List Addr}, IsKeys H vvs bs → ∀ {F : Hp}, Same F H → ∃ F', Gr F H F' H ∧ Rps K F' (bs.map V.ref) (vvs.map fun p => .tuple (p.1.map kD0)) := by
  intro vvs bs r
  induction r with
  | nil => exact fun {F} fh => ⟨F, .refl fh, .nil⟩
  | @cons a b l m h t ih =>
    intro F fh
    obtain ⟨F', g, r⟩ := ih (gr_tup fh h).fh
    refine ⟨F', (gr_tup fh h).trans g, .cons (rp_mono g.f _ _ (.tup upd_same (rps_of_kV _))) r⟩
theorem keysD_eq {vvs : List (List Key × V)} {kvs : List (List Key × D)} (h : vvs.map (·.1) = kvs.map (·.1)) : (vvs.map fun p => PyData.tuple (p.1.map kD0)) = keysD kvs := by
  have e : (vvs.map fun p => PyData.tuple (p.1.map kD0)) = (vvs.map (·.1)).map fun l => PyData.tuple (l.map kD0) := by rw [List.map_map]; rfl
  rw [e, h, List.map_map]
  rfl
theorem cro_gKeysD (hc : X.calm = true) : ∀ ds z, gKeysD ds = some z → CRO X (.type "list") ds z := fun ds z h => by
  cases ds with
  | nil => cases h
  | cons d l =>
    cases l with
    | cons _ _ => cases h
    | nil =>
      obtain ⟨kvs, e4, e5⟩ := mp (show (asT d).map keysD = some z from h)
      subst e5
      exact ⟨_, call_list_dT hc, fun F H vs Q fh hh q => by
        obtain ⟨v, rfl, h1⟩ := rps1 hh
        obtain ⟨p, o, vvs, rfl, r1, r2, r3⟩ := dct_at h1 e4
        refine ⟨p, vvs, rfl, .inr ⟨o, fh _ _ r1⟩, fun p2 bs hp hk => ?_⟩
        obtain ⟨F', g, r⟩ := keys_rp (K := X.K) hk fh
        rw [keysD_eq r2] at r
        exact q p2 _ F' H g hp r⟩
def gKeysT (kvs : List (List Key × D)) : List D → Option (List D)
  | [] => some (keysD kvs)
  | _ => none
theorem rtO {n : Nat} {g : List (List Key × D) → List D → Option (List D)} {as : IA} {ρ ρ' : List Sl} {xs : List D} (h : evO (.rt n g as) ρ = some (xs, ρ')) : ∃ ds kvs, evA as ρ = some (ds, ρ') ∧ ρ'[n]? = some (.t kvs) ∧ g kvs ds = some xs := by
  unfold evO at h
  obtain ⟨xs0, e0, h⟩ := bnd h
  obtain ⟨p, e1, h⟩ := bnd h
  obtain ⟨kvs, e2, h⟩ := bnd h
  obtain ⟨q, e3, h⟩ := mp h
  cases h
  exact ⟨_, kvs, e1, tup_at e2, e3⟩
theorem co_listT (n : Nat) {nm0 : Str} {p p0 : Pos} (hc : X.calm = true) (hm : X.mg "list" = none) (hg : Gl X "list" := by rfl) (hN : X.N[n]? = some nm0 := by rfl) (hv : Vis X.env.scope nm0 := by first | exact Or.inl rfl | exact Or.inr (Or.inl rfl) | exact Or.inr (Or.inr rfl))
    (hd : (nm0 == ("__debug__" : Str)) = false := by decide) (hcd : (nm0 == ("__classdict__" : Str)) = false := by decide)
    (he : starEach [.Name nm0 p0] X.env = (false, eval (.Name nm0 p0) X.env) :: starEach [] X.env := by rfl) (hpl : ((backTo pos (starEach [] X.env)).any fun x => x.fst) = false := by rfl) : CO X (.Call (.Name "list" p) [.Name nm0 p0] [] pos) (.rt n gKeysT .nil) := fun ρ d ρ' q => by
  obtain ⟨ds, kvs, e1, e2, e3⟩ := rtO q
  unfold evA at e1
  cases e1
  cases e3
  exact .of (pe_callTy (call_list_dT hc) hg hm b_list (pa_cons (pe_var hN hv hd hcd) pa_nil he) (by decide) (by decide) he hpl) fun F0 G F H σ k Q q => by
    obtain ⟨a, ho, e1, e2, e3, e4, vvs, rfl, e5, e6⟩ := k.has n _ _ e2 rfl
    refine ⟨.ref a, e1, a, vvs, rfl, .of e2, fun l bs hl hk => ?_⟩
    obtain ⟨F', g, r⟩ := keys_rp (K := X.K) hk k.fh
    rw [keysD_eq e5] at r
    exact q l _ F' H (k.gr g) g.f hl r
/-! len(d) -/
theorem call_len_dR : CallR X (.builtin "len") (fun xs H Q => ∃ (p : Addr) (kvs : List (List Key × V)), xs = [.ref p] ∧ Rd H p (.dT kvs) ∧ Q (.int ((kvs.length : Nat) : Int)) H) := by
  intro pins s σ H xs us Q I r h
  obtain ⟨p, kvs, rfl, hp, q⟩ := h
  obtain ⟨u, rfl, rx⟩ := vals1 r
  obtain rfl : u = .ref p := rx
  obtain ⟨z, hd, ys, rel, dd⟩ := dt_rd I.hok hp
  have hl : kvs.length = ys.length := Paired.length rel
  refine call_len_dictH hd dd (by rw [← hl]; rw [sizeLine_eq] at z; omega) ?_
  rw [← hl]
  exact ⟨.int ((kvs.length : Nat) : Int), H, I.tok _, ⟨_, rfl⟩, q⟩
def gLenD : List D → Option D
  | [d] => (asT d).map fun kvs => .int (kvs.length : Nat)
  | _ => none
theorem cr_gLenD : ∀ ds z, gLenD ds = some z → CR X (.builtin "len") ds z := fun ds z h => by
  cases ds with
  | nil => cases h
  | cons d l =>
    cases l with
    | cons _ _ => cases h
    | nil =>
      obtain ⟨kvs, e4, e5⟩ := mp (show (asT d).map (fun kvs => PyData.int (kvs.length : Nat)) = some z from h)
      subst e5
      exact ⟨_, call_len_dR, fun F H vs Q fh hh q => by
        obtain ⟨v, rfl, h1⟩ := rps1 hh
        obtain ⟨p, o, vvs, rfl, r1, r2, r3⟩ := dct_at h1 e4
        refine ⟨p, vvs, rfl, .inr ⟨o, fh _ _ r1⟩, ?_⟩
        rw [kvs_len r2]
        exact q _ F H (.refl fh) (.int _)⟩
end
end DI
set_option Elab.async false
set_option linter.all false
set_option maxRecDepth 100000
set_option maxHeartbeats 2000000
/-! sum, max of a list of numbers -/
namespace DI
open PySem PySem.Spec PyProof.Rows L2 DL
section
variable {X : Cx}
theorem cr_gSum (hc : X.calm = true) : ∀ ds z, gSum ds = some z → CR X (.builtin "sum") ds z := fun ds z h => by
  unfold gSum at h
  split at h
  · obtain ⟨ns, e, h⟩ := mp h
    subst h
    rw [toI_eq e]
    exact ⟨_, cr_sum hc, fun F H vs Q fh hh q => by
      obtain ⟨v, rfl, h1⟩ := rps1 hh
      cases h1 with
      | lst s r =>
        rw [Rps.ints r] at s
        exact ⟨_, ns, rfl, .of (fh _ _ s), q _ F H (.refl fh) (.int _)⟩⟩
  · cases h
theorem cr_gMaxL (hc : X.calm = true) : ∀ ds z, gMaxL ds = some z → CR X (.builtin "max") ds z := fun ds z h => by
  unfold gMaxL at h
  split at h
  · obtain ⟨ns, e, h⟩ := bnd h
    obtain ⟨m, e1, h⟩ := mp h
    subst h
    rw [toI_eq e]
    exact ⟨_, cr_max hc, fun F H vs Q fh hh q => by
      obtain ⟨v, rfl, h1⟩ := rps1 hh
      cases h1 with
      | lst s r =>
        rw [Rps.ints r] at s
        refine ⟨_, ns, rfl, .of (fh _ _ s), ?_, fun k h1 h2 => ?_⟩
        · cases ns with
          | nil => cases e1
          | cons a l => exact Nat.succ_pos _
        · have : k = m := by
            have hm := List.max?_eq_some_iff.mp e1
            exact Int.le_antisymm (hm.2 k h1) (h2 m hm.1)
          subst this
          exact q _ F H (.refl fh) (.int _)⟩
  · cases h
end
end DI
set_option Elab.async false
set_option linter.all false
set_option maxRecDepth 100000
set_option maxHeartbeats 2000000
/-! max of a list of numbers, with a default -/
namespace DI
open PySem PySem.Spec PyProof.Rows L2 DL
def maxDef (ns : List Int) (d : Int) : Int := match ns with
  | [] => d
  | n :: r => r.foldl max n
theorem depthAll_ints (ns : List Int) : PyData.depthAll (ns.map .int) ≤ 1 := by
  induction ns with
  | nil => simp [PyData.depthAll]
  | cons a l ih => simp only [List.map_cons, PyData.depthAll, PyData.depth]; omega
theorem alike_ints (ns : List Int) : PySem.W.AlikeAll (ns.map .int) := by
  refine ⟨fun x hx y hy => ?_, fun x hx z => ?_⟩
  · obtain ⟨a, _, rfl⟩ := List.mem_map.mp hx
    obtain ⟨b, _, rfl⟩ := List.mem_map.mp hy
    rfl
  · obtain ⟨a, _, rfl⟩ := List.mem_map.mp hx
    cases z
section
variable {X : Cx}
theorem crk_max (hc : X.calm = true) (hu : X.A.units + 64 < cLine) : CallRK X (.builtin "max") ["default"] (fun xs zs H Q => ∃ (a : Addr) (ns : List Int) (d : Int), xs = [.ref a] ∧ zs = [.int d] ∧ SqL X.K H a (ns.map V.int) ∧ Q (.int (maxDef ns d)) H) := by
  intro pins s σ H xs zs us ws Q I r1 r2 h
  obtain ⟨a, ns, d, rfl, rfl, hs, q⟩ := h
  obtain ⟨its, rv, hl, _⟩ := I.list hs
  rw [Vals.ref1 r1]
  obtain ⟨w, rfl, t, rfl⟩ := vals1 r2
  have hd := depthAll_ints ns
  refine PySem.W.max_list_default (xs := ns.map .int) (as := []) (I.ok.hd hc) hl.isList (by simpa using IntsAre.reads s.heap rv.ints) (alike_ints ns) (by omega) (fun e h' tk hk => ?_) (fun y ys i v h' tk bs e _ r hk => ?_)
  · cases ns with
    | nil => exact ⟨.int d, H, I.kept hk, ⟨t, rfl⟩, q⟩
    | cons _ _ => cases e
  · cases ns with
    | nil => cases e
    | cons n l =>
      rw [List.map_cons] at e
      obtain ⟨e1, e2⟩ := List.cons.inj e
      subst e1 e2
      rw [PySem.W.maxD_ints] at r
      cases r
      exact ⟨.int (maxDef (n :: l) d), H, I.kept hk, ⟨_, rfl⟩, q⟩
def gMaxDef : List D → Option D
  | [.list xs, .int d] => (toI xs).map fun ns => .int (maxDef ns d)
  | _ => none
theorem ce_maxDef {e ek : Expr} {ie ik : IE} {p pos kpos : Pos} (hc : X.calm = true) (hu : X.A.units + 64 < cLine) (hm : X.mg "max" = none) (h1 : CE X e ie) (h2 : CE X ek ik) (hg : Gl X "max" := by rfl) (hst : starEach [e] X.env = (false, eval e X.env) :: starEach [] X.env := by rfl)
    (hpe : ∀ (te tk : TE), X.calm = true → X.A.units + 64 < cLine → Gl X "max" → X.mg "max" = none → PE X e te → PE X ek tk → PE X (.Call (.Name "max" p) [e] [⟨some "default", ek, kpos⟩] pos) (tCKw (fun xs zs H Q => ∃ (a : Addr) (ns : List Int) (d : Int), xs = [.ref a] ∧ zs = [.int d] ∧ SqL X.K H a (ns.map V.int) ∧ Q (.int (maxDef ns d)) H) (tCons te tNil) (tCons tk tNil)) := by exact fun te tk hc hu hg hm h3 h4 => pe_callBK (crk_max hc hu) hg hm b_max (pa_cons h3 pa_nil) (pk_cons h4 pk_nil)) :
    CE X (.Call (.Name "max" p) [e] [⟨some "default", ek, kpos⟩] pos) (.f gMaxDef (.cons ie (.cons ik .nil))) := fun ρ d ρ' q => by
  obtain ⟨ds, e1, e2⟩ := ff q
  obtain ⟨x, y, ρ1, rfl, e3, e4⟩ := a2 e1
  have h1 := h1 _ _ _ e3
  have h2 := h2 _ _ _ e4
  unfold gMaxDef at e2
  split at e2
  · rename_i xs k0 hb
    cases hb
    obtain ⟨ns, e5, e2⟩ := mp e2
    subst e2
    have e6 := toI_eq e5
    subst e6
    exact .of (hpe _ _ hc hu hg hm (pcE e) (pcE ek)) fun F0 G F H σ k Q q => by
      show cE X e σ H _
      refine h1 F0 G F H σ k _ fun v F1 H1 k1 f1 d1 => ?_
      show cE X ek σ H1 _
      refine h2 F0 G F1 H1 σ k1 _ fun w F2 H2 k2 f2 d2 => ?_
      cases d1 with
      | lst s r =>
        cases d2
        rw [Rps.ints r] at s
        exact ⟨_, ns, k0, rfl, rfl, .of (k2.fh _ _ (f2 _ _ s)), q _ F2 H2 k2 (f1.trans f2) (.int _)⟩
  · cases e2
end
end DI
set_option Elab.async false
set_option linter.all false
set_option maxRecDepth 100000
set_option maxHeartbeats 2000000
/-! Dicts by nested tuples: walked, listed, read, changed. -/
namespace DL
open PySem PySem.Spec PyProof.Rows L2
theorem nrel_get {xs : List (NK × Addr × V)} {vs : List (NK × Addr × Value)} (r : Paired NRel xs vs) {i : Nat} {x : NK × Addr × V} (h : xs[i]? = some x) : ∃ y, vs[i]? = some y ∧ NRel x y := by
  obtain ⟨y, h1, h2⟩ := paired_get r h
  exact ⟨y, h1, h2⟩
theorem nrel_refs {xs : List (NK × Addr × V)} {vs : List (NK × Addr × Value)} (r : Paired NRel xs vs) : (vs.map fun x => Value.ref x.2.1) = (xs.map fun x => x.2.1).map Value.ref := by
  induction r with
  | nil => rfl
  | cons a b ih => simp only [List.map_cons]; rw [ih, a.2.1]
section
variable {X : Cx} {pins : List (Addr × Obj)} {σ : L2.St} {H : Hp} {s : Shared} {d : Addr} {o : Obj}
theorem frzN {xs : List (NK × Addr × V)} (I : Inv X pins σ H s) (h : H d = some (.frz o (NO d xs))) :
    (d == sysModules) = false ∧ s.heap.get? d = some o ∧ o.ExactDict ∧ ∃ (es : Array DictEntry) (ep : Nat), o.data = .dict es ep ∧ es.size = xs.length ∧ xs.length ≤ sizeLine ∧
      ∀ (i : Nat) (x : NK × Addr × V), xs[i]? = some x → ∃ (en : DictEntry), es[i]? = some en ∧ en.key = .ref x.2.1 := by
  obtain ⟨hd, ⟨z, hs, _, vs, pr, o', es, ep, ho, hx, hdt, he, _⟩, _⟩ := I.hok d _ h
  rw [hd] at ho
  cases ho
  have he := he X.w
  have l2 : xs.length = vs.length := Paired.length pr
  have l1 : es.size = vs.length := by rw [← Array.length_toList, he, List.length_map]
  refine ⟨hs, hd, hx, es, ep, hdt, by omega, z, fun i x e => ?_⟩
  obtain ⟨b, hb, e1, e2, _⟩ := nrel_get pr e
  refine ⟨⟨b.1.hash X.w, .ref b.2.1, b.2.2⟩, ?_, ?_⟩
  · rw [← Array.getElem?_toList, he, List.getElem?_map, hb]; rfl
  · show Value.ref b.2.1 = _
    rw [e2]
end
/-- the keys' tuples of the locked dict at d, in their order -/
def ItkN (d : Addr) (o : Obj) (xs : List (NK × Addr × V)) : It :=
  ⟨fun i H => H d = some (.frz o (NO d xs)) ∧ i < xs.length, fun i H x H' => H' = H ∧ ∃ y, xs[i]? = some y ∧ x = .ref y.2.1, fun i H => H d = some (.frz o (NO d xs)) ∧ xs.length ≤ i⟩
section
variable {P : Program} {w : World} {K : PySem.W.Frag} {tg : Expr} {d : Addr} {o : Obj} {es : Array DictEntry} {ep : Nat}
theorem turn_keysN {xs : List (NK × Addr × V)} (it : Addr) (hod : o.data = .dict es ep) : Turn P w K tg (ItkN d o xs) [it] it (fun i h => h.IsKeyIter it d i xs.length ep) where
  mem := by simp
  obj := fun i h st b hb => by
    have e : b = it := by simpa using hb
    subst e
    obtain ⟨oi, e, c, dd⟩ := st
    exact ⟨oi, e, fun v z => by rw [dd] at z; cases z⟩
  keep := fun i h h' st k => st.at fun oi e => k it (by simp) oi e
  item := by
    intro X hP hw hK hc i pins s σ H E I hf st hg
    subst hP hw hK
    obtain ⟨hd, hi⟩ := hg
    obtain ⟨f0, f1, f2, f3, f4, f5⟩ := hf it (by simp)
    obtain ⟨hs, hgd, hx, es', ep', hdt, hsz, _, ent⟩ := frzN I hd
    obtain ⟨rfl, rfl⟩ := dict_ep hod hdt
    obtain ⟨y, hy⟩ : ∃ p, xs[i]? = some p := ⟨xs[i], List.getElem?_eq_getElem hi⟩
    obtain ⟨en, hen, hkey⟩ := ent i y hy
    refine next_key_item st hgd hdt hsz hen fun h' st' sb => ?_
    have I1 : Inv X pins σ H { s with heap := h' } := I.turned (t' := s.toks) (fun b ob hb e => (sb.2 b hb).trans e) f0 f1 f3 f4 f5
    obtain ⟨oi, e, c, dd⟩ := id st'
    exact ⟨en.key, rfl, go_of (s := { s with heap := h' }) e c dd (by decide) ⟨.ref y.2.1, H, I1, hkey, ⟨rfl, y, hy, rfl⟩, st', fun b hb => (hf b hb).1⟩⟩
  done := by
    intro X hP hw hK hc i pins s σ H E I hf st hg
    subst hP hw hK
    obtain ⟨hd, hi⟩ := hg
    obtain ⟨f0, f1, f2, f3, f4, f5⟩ := hf it (by simp)
    obtain ⟨hs, hgd, hx, es', ep', hdt, hsz, _, ent⟩ := frzN I hd
    obtain ⟨rfl, rfl⟩ := dict_ep hod hdt
    exact next_key_end (I.ok.hd hc) st hgd hdt hsz hi fun h' eb => ⟨rfl, I.turned (t' := s.toks) (fun b ob hb e => eb b ob hb e) f0 f1 f3 f4 f5⟩
  self := fun A i s Q E st h => by
    refine wpAny_pyIter_slot st.typeIs F.slot_dict_keyiterator_iter (wpAny_call_entry F.slot_dict_keyiterator_iter st.typeIs F.entry_dict_keyiterator_iter ?_ (F.args_dict_keyiterator_iter_1 _))
    show wpAny _ _ (ret (.ref it)) _ _ s
    exact wpAny_pure ⟨_, rfl, "dict_keyiterator", _, st.typeIs, F.slot_dict_keyiterator_next.lookup, h⟩
end
def iKeysN (td : TE) : TI := fun σ H R => td σ H fun x H1 => ∃ d o xs, x = .ref d ∧ H1 d = some (.frz o (NO d xs)) ∧ R (ItkN d o xs) H1
/-- what a tuple's key is in a dict, abstractly -/
def NGet (H : Hp) (x y : V) (r : Option V) : Prop := ∃ (a b : Addr) (xs : List (NK × Addr × V)) (k : NK), x = .ref a ∧ y = .ref b ∧ Rd H a (NO a xs) ∧ KsIn H xs ∧ KV1 H k (.ref b) ∧ k.depth ≤ 8 ∧ r = atX xs k
def tNGet (td ty : TE) : TE := fun σ H Q => td σ H fun x H1 => ty σ H1 fun y H2 => ∃ v, NGet H2 x y (some v) ∧ Q v H2
def tNIn (ty td : TE) : TE := fun σ H Q => ty σ H fun y H1 => td σ H1 fun x H2 => ∃ o, NGet H2 x y o ∧ Q (.bl o.isSome) H2
def tNNotIn (ty td : TE) : TE := fun σ H Q => ty σ H fun y H1 => td σ H1 fun x H2 => ∃ o, NGet H2 x y o ∧ Q (.bl (!o.isSome)) H2
def rNin : L2.R2 := fun y x H Q => ∃ o, NGet H x y o ∧ Q (.bl o.isSome) H
def rNnin : L2.R2 := fun y x H Q => ∃ o, NGet H x y o ∧ Q (.bl (!o.isSome)) H
def rSetN : TSet := fun o i v H Q => ∃ (a b : Addr) (xs : List (NK × Addr × V)) (k : NK), o = .ref a ∧ i = .ref b ∧ H a = some (NO a xs) ∧ KsIn H xs ∧ KV1 H k (.ref b) ∧ (noTxt k = true ∧ k.depth ≤ 8) ∧ xs.length < sizeLine ∧ Q (upd H a (NO a (putX xs k b v)))
section
variable {X : Cx} {tg e o i : Expr} {td ty : TE} {pos : Pos}
theorem pi_keysN (he : PE X e td) : PI X tg e (iKeysN td) := by
  refine ⟨fun pins s σ H R I h => ?_⟩
  refine thn (he.run pins s σ H _ I h) fun u s1 ⟨x, H1, I1, rx, d, o, xs, ex, hd, q⟩ => ?_
  subst ex
  obtain rfl : u = Value.ref d := rx
  obtain ⟨hs, hgd, hx, es, ep, hdt, hsz, _, ent⟩ := frzN I1 hd
  refine iter_keys hs hgd hx hdt (pi_one (tk := s1.toks) I1 _ (turn_keysN _ hdt) ⟨_, Heap.get?_push_size _ rfl, rfl, ?_⟩ q)
  rw [hsz] <;> rfl
theorem pe_nget (hu : X.A.units + 64 < cLine) (ho : PE X o td) (hi : PE X i ty) (hs : NoSl i) : PE X (.Subscript o i pos) (tNGet td ty) := by
  refine ⟨fun pins s σ H Q I h => ?_⟩
  refine subD_of PySem.F.slot_dict_getitem.lookup hs (thn (ho.run pins s σ H _ I h) fun u s1 ⟨x, H1, I1, rx, q1⟩ => thn (hi.run pins s1 σ H1 _ I1 q1) fun iv s2 ⟨y, H2, I2, ry, v, g, q2⟩ => ?_)
  obtain ⟨a, b, xs, k, rfl, rfl, g1, g2, g3, g4, g5⟩ := g
  obtain rfl : u = Value.ref a := rx
  obtain rfl : iv = Value.ref b := ry
  exact ⟨n_type I2 g1, n_get hu I2 g1 g2 g3 g4 g5.symm fun w' s3 I3 rw' => ⟨v, H2, I3, rw', q2⟩⟩
theorem op_nin (hu : X.A.units + 64 < cLine) : OpR X (compareOp .In) rNin := by
  intro pins s σ H y x iv u Q I ry rx h
  obtain ⟨ov, ⟨a, b, xs, k, rfl, rfl, g1, g2, g3, g4, rfl⟩, q⟩ := h
  cases (show u = Value.ref a from rx)
  cases (show iv = Value.ref b from ry)
  exact n_in hu I g1 g2 g3 g4 fun s' I' => ⟨.bl (atX xs k).isSome, H, I', rfl, q⟩
theorem op_nnin (hu : X.A.units + 64 < cLine) : OpR X (compareOp .NotIn) rNnin := by
  intro pins s σ H y x iv u Q I ry rx h
  obtain ⟨ov, ⟨a, b, xs, k, rfl, rfl, g1, g2, g3, g4, rfl⟩, q⟩ := h
  cases (show u = Value.ref a from rx)
  cases (show iv = Value.ref b from ry)
  exact n_nin hu I g1 g2 g3 g4 fun s' I' => ⟨.bl (!(atX xs k).isSome), H, I', rfl, q⟩
theorem pc_nin (hu : X.A.units + 64 < cLine) (hi : PE X i ty) (ho : PE X o td) : PC X .In i o (tNIn ty td) := by
  refine ⟨fun pins s σ H Q I h => ?_⟩
  refine thn (hi.run pins s σ H _ I h) fun iv s1 ⟨y, H1, I1, ry, q1⟩ => thn (ho.run pins s1 σ H1 _ I1 q1) fun u s2 ⟨x, H2, I2, rx, ov, g, q2⟩ => ?_
  exact op_nin hu pins s2 σ H2 y x iv u Q I2 ry rx ⟨ov, g, q2⟩
theorem pc_nnin (hu : X.A.units + 64 < cLine) (hi : PE X i ty) (ho : PE X o td) : PC X .NotIn i o (tNNotIn ty td) := by
  refine ⟨fun pins s σ H Q I h => ?_⟩
  refine thn (hi.run pins s σ H _ I h) fun iv s1 ⟨y, H1, I1, ry, q1⟩ => thn (ho.run pins s1 σ H1 _ I1 q1) fun u s2 ⟨x, H2, I2, rx, ov, g, q2⟩ => ?_
  exact op_nnin hu pins s2 σ H2 y x iv u Q I2 ry rx ⟨ov, g, q2⟩
theorem set_dictN (hu : X.A.units + 64 < cLine) : PSet X rSetN := by
  intro pins s σ H o i v ov iv u Q I ro ri rv h
  obtain ⟨a, b, xs, k, rfl, rfl, g1, g2, g3, g4, g5, q⟩ := h
  cases (show ov = Value.ref a from ro)
  cases (show iv = Value.ref b from ri)
  exact n_set hu I g1 g2 g3 g4 g5 rv fun s' I' => ⟨_, I', q⟩
theorem call_list_dN (hc : X.calm = true) : CallR X (.type "list") (fun vs H Q => ∃ d xs, vs = [V.ref d] ∧ Rd H d (NO d xs) ∧ ∀ p, H p = none → Q (.ref p) (upd H p (.lst (xs.map fun x => V.ref x.2.1)))) := by
  intro pins s σ H vs us Q I r h
  obtain ⟨d, kvs, rfl, hd, q⟩ := h
  obtain ⟨u, rfl, rx⟩ := r.one
  cases rx
  obtain ⟨z, hs, _, ks, pr, o, es, ep, ho, hx, hdt, he, hn⟩ := rd_np I.hok hd
  have he := he X.w
  have l1 : es.size = ks.length := by rw [← Array.length_toList, he, List.length_map]
  have l2 : kvs.length = ks.length := Paired.length pr
  refine PySem.W.kdl_call (kdl_raw hs hx hdt) (I.ok.hd hc) ho (by omega) fun h' tk acc' c' kp e it => ?_
  have ea : acc'.toList = ks.map fun x => Value.ref x.2.1 := by
    have hl : acc'.toList.length = ks.length := by rw [Array.length_toList, it.1]; exact l1
    apply List.ext_getElem?
    intro j
    rw [List.getElem?_map]
    cases hj : acc'.toList[j]? with
    | none =>
      have h1 := List.getElem?_eq_none_iff.mp hj
      rw [List.getElem?_eq_none (by omega)]
      all_goals rfl
    | some v =>
      obtain ⟨en, hen, hv⟩ := it.2 j v (by rw [← Array.getElem?_toList]; exact hj)
      have qe : es[j]? = (ks[j]?).map fun x => (⟨x.1.hash X.w, .ref x.2.1, x.2.2⟩ : DictEntry) := by rw [← Array.getElem?_toList, he, List.getElem?_map]
      rw [hen] at qe
      cases hb : ks[j]? with
      | none =>
        rw [hb] at qe
        cases qe
      | some b =>
        rw [hb] at qe
        have e2 := Option.some.inj qe
        rw [hv, e2]
        rfl
  have eb : acc'.toList = (kvs.map fun x => x.2.1).map Value.ref := by rw [ea, nrel_refs pr]
  have rv : Vals ((kvs.map fun x => x.2.1).map V.ref) acc'.toList := by rw [eb]; exact vals_refs _
  have hz : ((kvs.map fun x => x.2.1).map V.ref).length ≤ sizeLine := by rw [List.length_map, List.length_map]; exact z
  have em : (kvs.map fun x => x.2.1).map V.ref = kvs.map fun x => V.ref x.2.1 := by rw [List.map_map]; rfl
  refine ⟨.ref s.heap.objs.size, _, I.laid (t' := tk) (o := .lst ((kvs.map fun x => x.2.1).map V.ref)) kp (Nat.le_refl _) ?_, rfl, ?_⟩
  · exact ⟨hz, acc'.toList, c', rv, by rw [Array.toArray_toList]; exact e⟩
  · rw [em]; exact q _ (I.hok.fresh (Nat.le_refl _))
end
end DL
set_option Elab.async false
set_option linter.all false
set_option maxRecDepth 100000
set_option maxHeartbeats 2000000
/-! dicts by nested tuples of whole numbers, bools and None: own ones, and ones that are data; x in xs for data of any form; three things set at once -/
namespace DI
open PySem PySem.Spec PyProof.Rows L2 DL
theorem n_at {ρ : List Sl} {n : Nat} {kvs : List (D × D)} (h : nAt ρ n = some kvs) : ρ[n]? = some (.n kvs) := by
  unfold nAt at h
  split at h
  · rename_i k e; cases h; exact e
  · cases h
section
variable {K : PySem.W.Frag} {F : Hp}
theorem toN_kv : ∀ (n : Nat) (d : D) {k : NK} {v : V}, toN n d = some k → Rp K F v d → KV1 F k v
  | n, .none, k, v, h, r => by cases n <;> (cases h; cases r; exact .none)
  | n, .bool b, k, v, h, r => by cases n <;> (cases h; cases r; exact .bl b)
  | n, .int b, k, v, h, r => by cases n <;> (cases h; cases r; exact .int b)
  | 0, .tuple _, k, v, h, r => by cases h
  | n + 1, .tuple ds, k, v, h, r => by
    obtain ⟨ks, e, rfl⟩ := Option.map_eq_some_iff.mp (show (allS (toN n) ds).map NestedKey.tup = some k from h)
    cases r with
    | tup s r =>
      refine .tup s ?_
      clear h s
      revert e r
      rename_i vs
      revert vs ks
      induction ds with
      | nil => intro ks vs e r; cases e; cases r; exact .nil
      | cons d ds ih =>
        intro ks vs e r
        obtain ⟨a, m, e1, e2, rfl⟩ := allS_cons e
        cases r with
        | cons r1 r2 => exact .cons (toN_kv n d e1 r1) (ih m e2 r2)
  | 0, .str _, k, v, h, r => by cases h
  | n + 1, .str _, k, v, h, r => by cases h
  | 0, .list _, k, v, h, r => by cases h
  | n + 1, .list _, k, v, h, r => by cases h
  | 0, .dict _, k, v, h, r => by cases h
  | n + 1, .dict _, k, v, h, r => by cases h
theorem key_n {x : D} {w : V} {k : NK} (h : Rp K F w x) (ht : toNT x = some k) : ∃ b, w = .ref b ∧ KV1 F k (.ref b) := by
  have := toN_kv 8 x (toNT_toN ht) h
  cases x with
  | tuple ds =>
    cases h with
    | tup s r => exact ⟨_, rfl, this⟩
  | _ => cases ht
theorem _root_.DL.NPair.ks {xs : List (NK × Addr × V)} {kvs : List (D × D)} (h : NPair K F xs kvs) : KsIn F xs := by
  induction h with
  | nil => intro x h; cases h
  | @cons x p xs kvs a b c _ ih =>
    intro y hy
    rcases List.mem_cons.mp hy with e | hy
    · rw [e]
      exact toN_kv 8 p.1 (toNT_toN a) b
    · exact ih y hy
theorem ksin_up {F H : Hp} {xs : List (NK × Addr × V)} (fh : Same F H) (h : KsIn F xs) : KsIn H xs := fun x hx => (h x hx).up fun b xs e => fh _ _ e
theorem _root_.DL.NPair.len {xs : List (NK × Addr × V)} {kvs : List (D × D)} (h : NPair K F xs kvs) : xs.length = kvs.length := by
  induction h with
  | nil => rfl
  | cons _ _ _ _ ih => simp [ih]
theorem getN_cons (p : D × D) (kvs : List (D × D)) (k : NK) : getN (p :: kvs) k = if toNT p.1 = some k then some p.2 else getN kvs k := by
  unfold getN
  rw [List.find?_cons]
  by_cases e : toNT p.1 = some k
  · simp [e]
  · simp [e]
theorem atX_cons (x : NK × Addr × V) (xs : List (NK × Addr × V)) (k : NK) : atX (x :: xs) k = if x.1 = k then some x.2.2 else atX xs k := by
  unfold atX
  rw [List.find?_cons]
  by_cases e : x.1 = k
  · simp [e]
  · simp [e]
theorem _root_.DL.NPair.get {xs : List (NK × Addr × V)} {kvs : List (D × D)} (h : NPair K F xs kvs) (k : NK) : (getN kvs k = none → atX xs k = none) ∧ ∀ d, getN kvs k = some d → ∃ v, atX xs k = some v ∧ Rp K F v d := by
  induction h with
  | nil => exact ⟨fun _ => rfl, fun d h => by cases h⟩
  | @cons x p xs kvs a b c _ ih =>
    rw [getN_cons, atX_cons]
    by_cases e : x.1 = k
    · have e' : toNT p.1 = some k := by rw [a, e]
      rw [if_pos e, if_pos e']
      exact ⟨(fun h => by cases h), (fun d h => by cases h; exact ⟨_, rfl, c⟩)⟩
    · have e' : ¬ toNT p.1 = some k := by rw [a]; exact fun z => e (Option.some.inj z)
      rw [if_neg e, if_neg e']
      exact ih
theorem _root_.DL.NPair.some {xs : List (NK × Addr × V)} {kvs : List (D × D)} (h : NPair K F xs kvs) (k : NK) : (atX xs k).isSome = (getN kvs k).isSome := by
  obtain ⟨g1, g2⟩ := h.get k
  cases e : getN kvs k with
  | none => rw [g1 e]; rfl
  | some d => obtain ⟨v, q, _⟩ := g2 d e; rw [q]; rfl
theorem _root_.DL.NPair.put {xs : List (NK × Addr × V)} {kvs : List (D × D)} {k : NK} {b : Addr} {v : V} {d dv : D} (h : NPair K F xs kvs) (hk : toNT d = .some k) (hb : Rp K F (.ref b) d) (hv : Rp K F v dv) : NPair K F (putX xs k b v) (putN kvs k d dv) := by
  have e := h.some k
  unfold putX putN
  rw [e]
  split
  · clear e
    rename_i hh
    clear hh
    induction h with
    | nil => exact .nil
    | @cons x p xs kvs a b c _ ih =>
      simp only [List.map_cons]
      unfold DL.stN
      by_cases e : x.1 = k
      · have e' : toNT p.1 = .some k := by rw [a, e]
        rw [if_pos e, if_pos e']
        exact .cons a b hv ih
      · have e' : ¬ toNT p.1 = .some k := by rw [a]; exact fun z => e (Option.some.inj z)
        rw [if_neg e, if_neg e']
        exact .cons a b c ih
  · clear e
    rename_i hh
    clear hh
    induction h with
    | nil => exact .cons hk hb hv .nil
    | cons a b c _ ih => exact .cons a b c ih
end
section
variable {X : Cx} {e a b c : Expr} {ia ib ic : IE} {io : IO} {nm : Str} {p1 p2 pos : Pos} {ρ ρ1 ρ2 : List Sl} {x y : D}
theorem xw_dictN : DL.XW X (.Dict [] [] pos) ρ (.n []) ρ := .of pe_dnewN fun F0 G F H σ k Q q p hp => q p _ F H k (Same.refl _) hp ⟨[], rfl, .nil⟩
theorem cs_dictN (n : Nat) (hN : X.N.Nodup) (hi : X.N[n]? = some nm := by rfl) (hx : Loc X.env.scope nm := by first | exact Or.inl rfl | exact Or.inr rfl) (hs : swapsWith (.Dict [] [] p2) (some (.Name nm p1)) pos.line X.env = pure false := by rfl)
    (hf : X.fn nm = true ∨ X.env.scope.names.lookup nm = some .local := by first | exact .inl rfl | exact .inr rfl | assumption) : CS X (.Assign [.Name nm p1] (.Dict [] [] p2) pos) (.setN n) := fun ρ o q => by
  unfold evS at q
  cases q
  exact .of (ps_set hN hi hx (pcE _) hs hf) fun F0 G F H σ k Dn q => xw_dictN F0 G F H σ k _ fun p vs F1 H1 k1 f1 hp fp gp ap dv => q _ F1 H1 (k1.setW hp fp gp ap dv rfl fun _ _ z => by cases z) f1
theorem cs_putN (n : Nat) (hu : X.A.units + 64 < cLine) (h : CE X e ia) (hb : CE X b ib) (hN : X.N[n]? = some nm := by rfl) (hv : Vis X.env.scope nm := by first | exact Or.inl rfl | exact Or.inr (Or.inl rfl) | exact Or.inr (Or.inr rfl))
    (hd : (nm == ("__debug__" : Str)) = false := by decide) (hcd : (nm == ("__classdict__" : Str)) = false := by decide)
    (hg : ∀ (ta tb : TE), X.A.units + 64 < cLine → PE X (.Name nm p1) ta → PE X b tb → PG X (.Subscript (.Name nm p1) b p2) (L2.gSub ta tb rSetN) := by exact fun _ _ hu h1 h2 => pg_sub h1 h2 (set_dictN hu))
    (hs : swapsWithSole [.Subscript (.Name nm p1) b p2] e pos.line X.env = pure false := by rfl) (hw : swappedStores [.Subscript (.Name nm p1) b p2] e X.env = pure none := by rfl)
    (h1 : (assignEach [.Subscript (.Name nm p1) b p2] X.env).map (·.2) = [assign (.Subscript (.Name nm p1) b p2) X.env] := by rfl) : CS X (.Assign [.Subscript (.Name nm p1) b p2] e pos) (.putN n ia ib) := fun ρ o q => by
  unfold evS at q
  obtain ⟨p, e1, q⟩ := bnd q
  obtain ⟨k0, e2, q⟩ := bnd q
  obtain ⟨r, e3, q⟩ := bnd q
  obtain ⟨kvs, e4, q⟩ := bnd q
  split at q
  · rename_i hz
    obtain ⟨ks, e5, q⟩ := mp q
    subst q
    have h := h _ _ _ e1
    have hb := hb _ _ _ e3
    exact .of (ps_asg (pcE e) (hg _ _ hu (pe_var hN hv hd hcd) (pcE b)) hs hw h1) fun F0 G F H σ k Dn q => h F0 G F H σ k _ fun v F1 H1 k1 f1 d1 => by
      obtain ⟨p0, _, r0, _⟩ := k1.has n _ _ (n_at e2) rfl
      refine ⟨.ref p0, r0, hb F0 G F1 H1 σ k1 _ fun w F2 H2 k2 f2 d2 => ?_⟩
      obtain ⟨kb, rfl, tb⟩ := key_n d2 e5
      obtain ⟨p', ho, r1, r2, r3, r4, xs, rfl, r5⟩ := k2.has n _ _ (n_at e4) rfl
      rw [r0] at r1
      cases r1
      have hl := r5.len
      refine ⟨p0, kb, xs, ks, rfl, rfl, r2, ksin_up k2.fh (NPair.ks r5), tb.up fun _ _ e => k2.fh _ _ e, toNT_ok e5, by rw [hl]; exact Nat.lt_of_le_of_lt hz (by decide), ?_⟩
      exact q σ F2 _ (k2.writeW (n_at e4) rfl r0 rfl (fun _ _ z => by cases z) ⟨_, rfl, NPair.put r5 e5 d2 (rp_mono f2 _ _ d1)⟩) (f1.trans f2)
  · cases q
/-! own ones, read -/
def gIxN (kvs : List (D × D)) : List D → Option D
  | [d] => (toNT d).bind fun k => getN kvs k
  | _ => none
def gInN (kvs : List (D × D)) : List D → Option D
  | [d] => (toNT d).map fun k => .bool (getN kvs k).isSome
  | _ => none
def gNinN (kvs : List (D × D)) : List D → Option D
  | [d] => (toNT d).map fun k => .bool (!(getN kvs k).isSome)
  | _ => none
theorem rnE {n : Nat} {g : List (D × D) → List D → Option D} {as : IA} {ρ ρ' : List Sl} {d : D} (h : evE (.rn n g as) ρ = some (d, ρ')) : (∃ kvs0, ρ[n]? = some (.n kvs0)) ∧ ∃ ds kvs, evA as ρ = some (ds, ρ') ∧ ρ'[n]? = some (.n kvs) ∧ g kvs ds = some d := by
  unfold evE at h
  obtain ⟨xs0, e0, h⟩ := bnd h
  obtain ⟨p, e1, h⟩ := bnd h
  obtain ⟨kvs, e2, h⟩ := bnd h
  obtain ⟨q, e3, h⟩ := mp h
  cases h
  exact ⟨⟨_, n_at e0⟩, _, kvs, e1, n_at e2, e3⟩
theorem ce_ixN (n : Nat) (hu : X.A.units + 64 < cLine) (hb : CE X b ib) (hN : X.N[n]? = some nm := by rfl) (hv : Vis X.env.scope nm := by first | exact Or.inl rfl | exact Or.inr (Or.inl rfl) | exact Or.inr (Or.inr rfl))
    (hd : (nm == ("__debug__" : Str)) = false := by decide) (hcd : (nm == ("__classdict__" : Str)) = false := by decide) (hs : NoSl b := by exact fun _ _ => rfl) : CE X (.Subscript (.Name nm p1) b pos) (.rn n gIxN (.cons ib .nil)) := fun ρ d ρ' h => by
  obtain ⟨⟨kvs0, h0⟩, ds, kvs, e1, e2, e3⟩ := rnE h
  obtain ⟨x, rfl, e5⟩ := a1 e1
  have hb := hb _ _ _ e5
  obtain ⟨k0, e6, e7⟩ := bnd (show (toNT x).bind (fun k => getN kvs k) = some d from e3)
  exact .of (pe_nget hu (pe_var hN hv hd hcd) (pcE b) hs) fun F0 G F H σ k Q q => by
    obtain ⟨a0, ho0, q1, q2, _⟩ := k.has n _ _ h0 rfl
    refine ⟨.ref a0, q1, hb F0 G F H σ k _ fun w F1 H1 k1 f1 d1 => ?_⟩
    obtain ⟨kb, rfl, tb⟩ := key_n d1 e6
    obtain ⟨a, ho, r1, r2, r3, r4, xs, rfl, r5⟩ := k1.has n _ _ e2 rfl
    rw [q1] at r1
    cases r1
    obtain ⟨v, g1, g2⟩ := (NPair.get r5 k0).2 d e7
    exact ⟨v, ⟨a0, kb, xs, k0, rfl, rfl, .inl r2, ksin_up k1.fh (NPair.ks r5), tb.up fun _ _ e => k1.fh _ _ e, (toNT_ok e6).2, g1.symm⟩, q v F1 H1 k1 f1 g2⟩
theorem ce_InN (n : Nat) (hu : X.A.units + 64 < cLine) (ha : CE X a ia) (hN : X.N[n]? = some nm := by rfl) (hv : Vis X.env.scope nm := by first | exact Or.inl rfl | exact Or.inr (Or.inl rfl) | exact Or.inr (Or.inr rfl))
    (hd : (nm == ("__debug__" : Str)) = false := by decide) (hcd : (nm == ("__classdict__" : Str)) = false := by decide) (hm : behindInMarks .In (.Name nm p1) = false := by with_unfolding_all rfl) : CE X (.Compare a [.In] [.Name nm p1] pos) (.rn n gInN (.cons ia .nil)) := fun ρ d ρ' h => by
  obtain ⟨h0, ds, kvs, e1, e2, e3⟩ := rnE h
  obtain ⟨x, rfl, e5⟩ := a1 e1
  have ha := ha _ _ _ e5
  obtain ⟨k0, e6, e7⟩ := mp (show (toNT x).map (fun k => PyData.bool (getN kvs k).isSome) = some d from e3)
  subst e7
  exact .of (pe_cmp (pc_nin hu (pcE a) (pe_var hN hv hd hcd)) hm) fun F0 G F H σ k Q q => ha F0 G F H σ k _ fun w F1 H1 k1 f1 d1 => by
    obtain ⟨kb, rfl, tb⟩ := key_n d1 e6
    obtain ⟨a, ho, r1, r2, r3, r4, xs, rfl, r5⟩ := k1.has n _ _ e2 rfl
    refine ⟨.ref a, r1, atX xs k0, ⟨a, kb, xs, k0, rfl, rfl, .inl r2, ksin_up k1.fh (NPair.ks r5), tb.up fun _ _ e => k1.fh _ _ e, (toNT_ok e6).2, rfl⟩, ?_⟩
    rw [NPair.some r5]
    exact q _ F1 H1 k1 f1 (.bl _)
theorem ce_NinN (n : Nat) (hu : X.A.units + 64 < cLine) (ha : CE X a ia) (hN : X.N[n]? = some nm := by rfl) (hv : Vis X.env.scope nm := by first | exact Or.inl rfl | exact Or.inr (Or.inl rfl) | exact Or.inr (Or.inr rfl))
    (hd : (nm == ("__debug__" : Str)) = false := by decide) (hcd : (nm == ("__classdict__" : Str)) = false := by decide) (hm : behindInMarks .NotIn (.Name nm p1) = false := by with_unfolding_all rfl) : CE X (.Compare a [.NotIn] [.Name nm p1] pos) (.rn n gNinN (.cons ia .nil)) := fun ρ d ρ' h => by
  obtain ⟨h0, ds, kvs, e1, e2, e3⟩ := rnE h
  obtain ⟨x, rfl, e5⟩ := a1 e1
  have ha := ha _ _ _ e5
  obtain ⟨k0, e6, e7⟩ := mp (show (toNT x).map (fun k => PyData.bool (!(getN kvs k).isSome)) = some d from e3)
  subst e7
  exact .of (pe_cmp (pc_nnin hu (pcE a) (pe_var hN hv hd hcd)) hm) fun F0 G F H σ k Q q => ha F0 G F H σ k _ fun w F1 H1 k1 f1 d1 => by
    obtain ⟨kb, rfl, tb⟩ := key_n d1 e6
    obtain ⟨a, ho, r1, r2, r3, r4, xs, rfl, r5⟩ := k1.has n _ _ e2 rfl
    refine ⟨.ref a, r1, atX xs k0, ⟨a, kb, xs, k0, rfl, rfl, .inl r2, ksin_up k1.fh (NPair.ks r5), tb.up fun _ _ e => k1.fh _ _ e, (toNT_ok e6).2, rfl⟩, ?_⟩
    rw [NPair.some r5]
    exact q _ F1 H1 k1 f1 (.bl _)
theorem ct_InN (n : Nat) (hu : X.A.units + 64 < cLine) (ha : CE X a ia) (hN : X.N[n]? = some nm := by rfl) (hv : Vis X.env.scope nm := by first | exact Or.inl rfl | exact Or.inr (Or.inl rfl) | exact Or.inr (Or.inr rfl))
    (hd : (nm == ("__debug__" : Str)) = false := by decide) (hcd : (nm == ("__classdict__" : Str)) = false := by decide) (hm : behindInMarks .In (.Name nm p1) = false := by with_unfolding_all rfl) : CT X (.Compare a [.In] [.Name nm p1] pos) (.val (.rn n gInN (.cons ia .nil))) := fun ρ bb ρ' q => by
  unfold evT at q
  obtain ⟨p, e1, q⟩ := bnd q
  split at q
  · rename_i b2 hb
    cases q
    obtain ⟨h0, ds, kvs, e1, e2, e3⟩ := rnE e1
    obtain ⟨x, rfl, e5⟩ := a1 e1
    have ha := ha _ _ _ e5
    obtain ⟨k0, e6, e7⟩ := mp (show (toNT x).map (fun k => PyData.bool (getN kvs k).isSome) = some p.1 from e3)
    rw [hb] at e7
    cases e7
    exact .of (pt_cmp (pc_nin hu (pcE a) (pe_var hN hv hd hcd)) hm) fun F0 G F H σ k Q q => ha F0 G F H σ k _ fun w F1 H1 k1 f1 d1 => by
      obtain ⟨kb, rfl, tb⟩ := key_n d1 e6
      obtain ⟨a, ho, r1, r2, r3, r4, xs, rfl, r5⟩ := k1.has n _ _ e2 rfl
      refine ⟨.ref a, r1, atX xs k0, ⟨a, kb, xs, k0, rfl, rfl, .inl r2, ksin_up k1.fh (NPair.ks r5), tb.up fun _ _ e => k1.fh _ _ e, (toNT_ok e6).2, rfl⟩, ?_⟩
      rw [NPair.some r5]
      exact ⟨_, rfl, q F1 H1 k1 f1⟩
  · cases q
theorem ct_NinN (n : Nat) (hu : X.A.units + 64 < cLine) (ha : CE X a ia) (hN : X.N[n]? = some nm := by rfl) (hv : Vis X.env.scope nm := by first | exact Or.inl rfl | exact Or.inr (Or.inl rfl) | exact Or.inr (Or.inr rfl))
    (hd : (nm == ("__debug__" : Str)) = false := by decide) (hcd : (nm == ("__classdict__" : Str)) = false := by decide) (hm : behindInMarks .NotIn (.Name nm p1) = false := by with_unfolding_all rfl) : CT X (.Compare a [.NotIn] [.Name nm p1] pos) (.val (.rn n gNinN (.cons ia .nil))) := fun ρ bb ρ' q => by
  unfold evT at q
  obtain ⟨p, e1, q⟩ := bnd q
  split at q
  · rename_i b2 hb
    cases q
    obtain ⟨h0, ds, kvs, e1, e2, e3⟩ := rnE e1
    obtain ⟨x, rfl, e5⟩ := a1 e1
    have ha := ha _ _ _ e5
    obtain ⟨k0, e6, e7⟩ := mp (show (toNT x).map (fun k => PyData.bool (!(getN kvs k).isSome)) = some p.1 from e3)
    rw [hb] at e7
    cases e7
    exact .of (pt_cmp (pc_nnin hu (pcE a) (pe_var hN hv hd hcd)) hm) fun F0 G F H σ k Q q => ha F0 G F H σ k _ fun w F1 H1 k1 f1 d1 => by
      obtain ⟨kb, rfl, tb⟩ := key_n d1 e6
      obtain ⟨a, ho, r1, r2, r3, r4, xs, rfl, r5⟩ := k1.has n _ _ e2 rfl
      refine ⟨.ref a, r1, atX xs k0, ⟨a, kb, xs, k0, rfl, rfl, .inl r2, ksin_up k1.fh (NPair.ks r5), tb.up fun _ _ e => k1.fh _ _ e, (toNT_ok e6).2, rfl⟩, ?_⟩
      rw [NPair.some r5]
      exact ⟨_, rfl, q F1 H1 k1 f1⟩
  · cases q
/-! ones that are data -/
def asN : D → Option (List (D × D))
  | .dict ((.bool false, .none) :: es) => some es
  | _ => none
theorem asN_nd (kvs : List (D × D)) : asN (ndD kvs) = some kvs := rfl
theorem dcn_at {K : PySem.W.Frag} {F : Hp} {d : D} {w : V} {kvs : List (D × D)} (h : Rp K F w d) (ht : asN d = some kvs) : ∃ (a : Addr) (o : Obj) (xs : List (NK × Addr × V)), w = .ref a ∧ F a = some (.frz o (NO a xs)) ∧ NPair K F xs kvs := by
  cases h with
  | dcn s hk hb r =>
    cases ht
    exact ⟨_, _, _, rfl, s, .of hk hb r⟩
  | _ => cases ht
def gIxDN : List D → Option D
  | [d, k] => (asN d).bind fun kvs => (toNT k).bind fun ks => getN kvs ks
  | _ => none
theorem ce_ixDN (hu : X.A.units + 64 < cLine) (ha : CE X a ia) (hb : CE X b ib) (hs : NoSl b := by exact fun _ _ => rfl) : CE X (.Subscript a b pos) (.f gIxDN (.cons ia (.cons ib .nil))) := fun ρ d ρ' h => by
  obtain ⟨ds, e1, e2⟩ := ff h
  obtain ⟨x, y, ρ1, rfl, e3, e4⟩ := a2 e1
  obtain ⟨kvs, e5, e6⟩ := bnd (show (asN x).bind (fun kvs => (toNT y).bind fun ks => getN kvs ks) = some d from e2)
  obtain ⟨ks, e7, e8⟩ := bnd e6
  exact .of (pe_nget hu (pcE a) (pcE b) hs) fun F0 G F H σ k Q q => ha _ _ _ e3 F0 G F H σ k _ fun v F1 H1 k1 f1 d1 => hb _ _ _ e4 F0 G F1 H1 σ k1 _ fun w F2 H2 k2 f2 d2 => by
    obtain ⟨p, o, xs, rfl, r1, r2⟩ := dcn_at (rp_mono f2 _ _ d1) e5
    obtain ⟨kb, rfl, tb⟩ := key_n d2 e7
    obtain ⟨v, g1, g2⟩ := (NPair.get r2 ks).2 d e8
    exact ⟨v, ⟨p, kb, xs, ks, rfl, rfl, .inr ⟨o, k2.fh _ _ r1⟩, ksin_up k2.fh (NPair.ks r2), tb.up fun _ _ e => k2.fh _ _ e, (toNT_ok e7).2, g1.symm⟩, q v F2 H2 k2 (f1.trans f2) g2⟩
def gInDN : List D → Option Bool
  | [k, d] => (asN d).bind fun kvs => (toNT k).map fun ks => (getN kvs ks).isSome
  | _ => none
def gNinDN : List D → Option Bool
  | [k, d] => (asN d).bind fun kvs => (toNT k).map fun ks => !(getN kvs ks).isSome
  | _ => none
theorem br_gInDN (hu : X.A.units + 64 < cLine) : ∀ x y z, gInDN [x, y] = some z → BR X (compareOp .In) x y (.bool z) := fun x y z h => by
  obtain ⟨kvs, e5, e6⟩ := bnd (show (asN y).bind (fun kvs => (toNT x).map fun ks => (getN kvs ks).isSome) = some z from h)
  obtain ⟨ks, e7, e8⟩ := mp e6
  subst e8
  exact ⟨_, op_nin hu, fun F H v w Q fh h1 h2 q => by
    obtain ⟨p, o, xs, rfl, r1, r2⟩ := dcn_at h2 e5
    obtain ⟨kb, rfl, tb⟩ := key_n h1 e7
    refine ⟨atX xs ks, ⟨p, kb, xs, ks, rfl, rfl, .inr ⟨o, fh _ _ r1⟩, ksin_up fh (NPair.ks r2), tb.up fun _ _ e => fh _ _ e, (toNT_ok e7).2, rfl⟩, ?_⟩
    rw [NPair.some r2]
    exact q _ F H (.refl fh) (.bl _)⟩
theorem br_gNinDN (hu : X.A.units + 64 < cLine) : ∀ x y z, gNinDN [x, y] = some z → BR X (compareOp .NotIn) x y (.bool z) := fun x y z h => by
  obtain ⟨kvs, e5, e6⟩ := bnd (show (asN y).bind (fun kvs => (toNT x).map fun ks => !(getN kvs ks).isSome) = some z from h)
  obtain ⟨ks, e7, e8⟩ := mp e6
  subst e8
  exact ⟨_, op_nnin hu, fun F H v w Q fh h1 h2 q => by
    obtain ⟨p, o, xs, rfl, r1, r2⟩ := dcn_at h2 e5
    obtain ⟨kb, rfl, tb⟩ := key_n h1 e7
    refine ⟨atX xs ks, ⟨p, kb, xs, ks, rfl, rfl, .inr ⟨o, fh _ _ r1⟩, ksin_up fh (NPair.ks r2), tb.up fun _ _ e => fh _ _ e, (toNT_ok e7).2, rfl⟩, ?_⟩
    rw [NPair.some r2]
    exact q _ F H (.refl fh) (.bl _)⟩
def gKeysDN : List D → Option (List D)
  | [d] => (asN d).map fun kvs => kvs.map (·.1)
  | _ => none
theorem _root_.DL.NPair.at {K : PySem.W.Frag} {F : Hp} {xs : List (NK × Addr × V)} {kvs : List (D × D)} (h : NPair K F xs kvs) : ∀ {i : Nat} {x : NK × Addr × V}, xs[i]? = some x → ∃ p, kvs[i]? = some p ∧ Rp K F (.ref x.2.1) p.1 := by
  induction h with
  | nil => intro i x h; simp at h
  | @cons x p xs kvs a b c _ ih =>
    intro i y h
    cases i with
    | zero => simp at h; subst h; exact ⟨p, rfl, b⟩
    | succ i =>
      obtain ⟨q, e1, e2⟩ := ih (i := i) (by simpa using h)
      exact ⟨q, by simpa using e1, e2⟩
theorem ci_keysDN {tg : Expr} (h : CE X e ia) : CI X tg e (.f gKeysDN (.cons ia .nil)) := fun ρ d ρ' q => by
  obtain ⟨ds, e1, e2⟩ := fi q
  obtain ⟨x, rfl, e3⟩ := a1 e1
  obtain ⟨kvs, e4, e5⟩ := mp (show (asN x).map (fun kvs => kvs.map (·.1)) = some d from e2)
  subst e5
  exact .of (pi_keysN (pcE e)) fun F0 G F H σ k R q => h _ _ _ e3 F0 G F H σ k _ fun v F1 H1 k1 f1 d1 => by
    obtain ⟨p, o, xs, rfl, r1, r2⟩ := dcn_at d1 e4
    have hl : xs.length = kvs.length := r2.len
    refine ⟨p, o, xs, rfl, k1.fh _ _ r1, q _ F1 H1 k1 f1 ⟨fun i H2 f2 hi => ⟨f2 _ _ r1, ?_⟩, fun H2 f2 => ⟨f2 _ _ r1, ?_⟩, fun i H2 x H3 F2 f2 f3 hy d hd => ?_⟩⟩
    · rw [hl]; simpa using hi
    · rw [hl]; simp
    · obtain ⟨rfl, y, g1, rfl⟩ := hy
      obtain ⟨p', g3, g4⟩ := NPair.at r2 g1
      rw [List.getElem?_map, g3] at hd
      cases hd
      exact ⟨F2, .refl f3, rp_mono f2 _ _ g4⟩
theorem cro_gKeysDN (hc : X.calm = true) : ∀ ds z, gKeysDN ds = some z → CRO X (.type "list") ds z := fun ds z h => by
  cases ds with
  | nil => cases h
  | cons d l =>
    cases l with
    | cons _ _ => cases h
    | nil =>
      obtain ⟨kvs, e4, e5⟩ := mp (show (asN d).map (fun kvs => kvs.map (·.1)) = some z from h)
      subst e5
      exact ⟨_, call_list_dN hc, fun F H vs Q fh hh q => by
        obtain ⟨v, rfl, h1⟩ := rps1 hh
        obtain ⟨p, o, xs, rfl, r1, r2⟩ := dcn_at h1 e4
        refine ⟨p, xs, rfl, .inr ⟨o, fh _ _ r1⟩, fun p2 hp => ?_⟩
        exact q p2 _ F H (.refl fh) hp r2.data.2.1⟩
def gKeysN (kvs : List (D × D)) : List D → Option (List D)
  | [] => some (kvs.map (·.1))
  | _ => none
theorem rnO {n : Nat} {g : List (D × D) → List D → Option (List D)} {as : IA} {ρ ρ' : List Sl} {xs : List D} (h : evO (.rn n g as) ρ = some (xs, ρ')) : ∃ ds kvs, evA as ρ = some (ds, ρ') ∧ ρ'[n]? = some (.n kvs) ∧ g kvs ds = some xs := by
  unfold evO at h
  obtain ⟨xs0, e0, h⟩ := bnd h
  obtain ⟨p, e1, h⟩ := bnd h
  obtain ⟨kvs, e2, h⟩ := bnd h
  obtain ⟨q, e3, h⟩ := mp h
  cases h
  exact ⟨_, kvs, e1, n_at e2, e3⟩
theorem co_listN (n : Nat) {nm0 : Str} {p p0 : Pos} (hc : X.calm = true) (hm : X.mg "list" = none) (hg : Gl X "list" := by rfl) (hN : X.N[n]? = some nm0 := by rfl) (hv : Vis X.env.scope nm0 := by first | exact Or.inl rfl | exact Or.inr (Or.inl rfl) | exact Or.inr (Or.inr rfl))
    (hd : (nm0 == ("__debug__" : Str)) = false := by decide) (hcd : (nm0 == ("__classdict__" : Str)) = false := by decide)
    (he : starEach [.Name nm0 p0] X.env = (false, eval (.Name nm0 p0) X.env) :: starEach [] X.env := by rfl) (hpl : ((backTo pos (starEach [] X.env)).any fun x => x.fst) = false := by rfl) : CO X (.Call (.Name "list" p) [.Name nm0 p0] [] pos) (.rn n gKeysN .nil) := fun ρ d ρ' q => by
  obtain ⟨ds, kvs, e1, e2, e3⟩ := rnO q
  unfold evA at e1
  cases e1
  cases e3
  exact .of (pe_callTy (call_list_dN hc) hg hm b_list (pa_cons (pe_var hN hv hd hcd) pa_nil he) (by decide) (by decide) he hpl) fun F0 G F H σ k Q q => by
    obtain ⟨a, ho, e1, e2, e3, e4, xs, rfl, e5⟩ := k.has n _ _ e2 rfl
    refine ⟨.ref a, e1, a, xs, rfl, .inl e2, fun l hl => ?_⟩
    exact q l _ F H (k.gr (.refl k.fh)) (Same.refl _) hl e5.data.2.1
end
end DI
set_option Elab.async false
set_option linter.all false
set_option maxRecDepth 100000
set_option maxHeartbeats 2000000
/-! x in a list of one's own; three things set at once -/
namespace DI
open PySem PySem.Spec PyProof.Rows L2 DL
section
variable {K : PySem.W.Frag} {F0 G F H : Hp} {σ : L2.St} {ρ : List Sl} {p : Addr} {ho : HO}
/-- a loose thing is held while something else is told -/
theorem Ok.grip (k : Ok K F0 G F H σ ρ) (hp : H p = some ho) (fp : F p = none) (ap : ∀ (i : Nat) (s : Sl) (ys : Own), ρ[i]? = some s → s.has = some ys → σ[i]? ≠ some (some (V.ref p))) :
    Ok K (fun b => if b = p then none else F0 b) (upd G p ho) F H σ ρ where
  len := k.len
  fh := k.fh
  gh := fun b o e => by
    by_cases h : b = p
    · subst h; rw [upd_same] at e; rw [← e]; exact hp
    · rw [upd_ne h] at e; exact k.gh b o e
  g0 := fun b hb => by
    show F b = if b = p then none else F0 b
    by_cases h : b = p
    · rw [if_pos h, h, fp]
    · rw [if_neg h]; rw [upd_ne h] at hb; exact k.g0 b hb
  dat := k.dat
  bor := k.bor
  has := fun i s xs e1 e2 => by
    obtain ⟨a, ho, q1, q2, q3, q4, q5⟩ := k.has i s xs e1 e2
    exact ⟨a, ho, q1, q2, q3, by rw [upd_ne (fun z => ap i s xs e1 e2 (by rw [q1, z]))]; exact q4, q5⟩
  djh := k.djh
theorem Ok.free {F0' : Hp} (k : Ok K (fun b => if b = p then none else F0 b) (upd G p ho) F H σ ρ) (gp : G p = none) (mu : Mut (some ho)) : Ok K F0 G F H σ ρ ∧ H p = some ho ∧ F p = none ∧ ∀ (i : Nat) (s : Sl) (ys : Own), ρ[i]? = some s → s.has = some ys → σ[i]? ≠ some (some (V.ref p)) := by
  refine ⟨⟨k.len, k.fh, fun b o e => ?_, fun b hb => ?_, k.dat, k.bor, fun i s xs e1 e2 => ?_, k.djh⟩, k.gh p ho upd_same, ?_, fun i s ys e1 e2 z => ?_⟩
  · exact k.gh b o (by rw [upd_ne (fun z => by rw [z, gp] at e; cases e)]; exact e)
  · have h : b ≠ p := fun z => by rw [z, gp] at hb; exact hb
    have := k.g0 b (by rw [upd_ne h]; exact hb)
    rw [this]
    exact if_neg h
  · obtain ⟨a, ho', q1, q2, q3, q4, q5⟩ := k.has i s xs e1 e2
    refine ⟨a, ho', q1, q2, q3, ?_, q5⟩
    by_cases h : a = p
    · rw [h, gp]
    · rw [upd_ne h] at q4; exact q4
  · have := k.g0 p (by rw [upd_same]; exact mu)
    rw [this]
    exact if_pos rfl
  · obtain ⟨a, ho', q1, q2, q3, q4, q5⟩ := k.has i s ys e1 e2
    rw [q1] at z
    cases z
    rw [upd_same] at q4
    cases q4
end
theorem ap_set {σ : L2.St} {ρ : List Sl} {p : Addr} {n : Nat} {v : V} {x : D} (ap : ∀ (i : Nat) (s : Sl) (ys : Own), ρ[i]? = some s → s.has = some ys → σ[i]? ≠ some (some (V.ref p))) :
    ∀ (i : Nat) (s : Sl) (ys : Own), (ρ.set n (.d x))[i]? = some s → s.has = some ys → (σ.set n (some v))[i]? ≠ some (some (V.ref p)) := fun i s ys h1 h2 => by
  by_cases hin : i = n
  · subst hin
    have hn : i < ρ.length := by
      have := (List.getElem?_eq_some_iff.mp h1).1
      rwa [List.length_set] at this
    rw [List.getElem?_set_self hn] at h1
    cases h1; cases h2
  · rw [List.getElem?_set_ne (Ne.symm hin)] at h1 ⊢
    exact ap i s ys h1 h2
section
variable {X : Cx} {e a b c : Expr} {ia ib ic : IE} {io : IO} {nm : Str} {p1 p2 pos : Pos} {ρ ρ1 ρ2 : List Sl} {x y : D}
theorem cs_par3 (n m l : Nat) {nm' nm'' : Str} {px py pz pt : Pos} {kt k2 : Nat} {pt2 : Pos} (hc : X.calm = true) (hN : X.N.Nodup) (ha : CE X a ia) (hb : CO X b io) (hcc : CE X c ic) (hi : X.N[n]? = some nm := by rfl) (hj : X.N[m]? = some nm' := by rfl) (hl : X.N[l]? = some nm'' := by rfl) (hij : n ≠ m := by decide) (hil : n ≠ l := by decide) (hjl : m ≠ l := by decide)
    (hx : X.env.scope.names.lookup nm = some .local := by rfl) (hy : X.env.scope.names.lookup nm' = some .local := by rfl) (hz : X.env.scope.names.lookup nm'' = some .local := by rfl) (hs : starEach [a, b, c] X.env = (false, eval a X.env) :: starEach [b, c] X.env := by rfl) (hs' : starEach [b, c] X.env = (false, eval b X.env) :: starEach [c] X.env := by rfl) (hs'' : starEach [c] X.env = (false, eval c X.env) :: starEach [] X.env := by rfl)
    (hw : swappedStores [.Tuple [.Name nm px, .Name nm' py, .Name nm'' pz] kt pt] (.Tuple [a, b, c] k2 pt2) X.env = pure (some [nm, nm', nm'']) := by rfl) (hso : swapsWithSole [.Tuple [.Name nm px, .Name nm' py, .Name nm'' pz] kt pt] (.Tuple [a, b, c] k2 pt2) pos.line X.env = pure false := by rfl) :
    CS X (.Assign [.Tuple [.Name nm px, .Name nm' py, .Name nm'' pz] kt pt] (.Tuple [a, b, c] k2 pt2) pos) (.par3 n m l ia io ic) := fun ρ o q => by
  unfold evS at q
  obtain ⟨p, e1, q⟩ := bnd q
  obtain ⟨r, e2, q⟩ := bnd q
  obtain ⟨t, e3, q⟩ := mp q
  cases q
  exact .of (ps_par3 hc hN hi hj hl hij hil hjl hx hy hz (pa_cons (pcE a) (pa_cons (pcE b) (pa_cons (pcE c) pa_nil hs'') hs') hs) hw hso) fun F0 G F H σ k Dn q => ha _ _ _ e1 F0 G F H σ k _ fun v F1 H1 k1 f1 d1 => hb _ _ _ e2 F0 G F1 H1 σ k1 _ fun p vs F2 H2 k2 f2 hp fp gp ap dv =>
    hcc _ _ _ e3 _ _ F2 H2 σ (Ok.grip k2 hp fp ap) _ fun w F3 H3 k3 f3 d3 => by
      obtain ⟨k4, hp4, fp4, ap4⟩ := Ok.free (F0' := F0) k3 gp True.intro
      exact ⟨v, .ref p, w, rfl, q _ F3 H3 (((k4.set (n := n) (rp_mono (f2.trans f3) _ _ d1)).setO (n := m) hp4 fp4 gp (ap_set ap4) (rps_mono f3 _ _ dv)).set (n := l) d3) ((f1.trans f2).trans f3)⟩
def gInO (xs : List D) : List D → Option D
  | [x] => (inL x xs).map .bool
  | _ => none
def gNinO (xs : List D) : List D → Option D
  | [x] => (inL x xs).map fun z => .bool (!z)
  | _ => none
theorem ce_InO (n : Nat) (hu : X.A.units + 64 < cLine) (ha : CE X a ia) (hN : X.N[n]? = some nm := by rfl) (hv : Vis X.env.scope nm := by first | exact Or.inl rfl | exact Or.inr (Or.inl rfl) | exact Or.inr (Or.inr rfl))
    (hd : (nm == ("__debug__" : Str)) = false := by decide) (hcd : (nm == ("__classdict__" : Str)) = false := by decide) (hm : behindInMarks .In (.Name nm p1) = false := by with_unfolding_all rfl) : CE X (.Compare a [.In] [.Name nm p1] pos) (.rd n gInO (.cons ia .nil)) := fun ρ d ρ' h => by
  obtain ⟨h0, ds, s, xs, e1, e2, e3, e4⟩ := rdd h
  obtain ⟨x, rfl, e5⟩ := a1 e1
  obtain ⟨z, e6, e7⟩ := mp (show (inL x xs).map PyData.bool = some d from e4)
  subst e7
  obtain ⟨R, o, g⟩ := in_run (X := X) rfl hu false e6
  exact .of (pe_cmpR o (pcE a) (pe_var hN hv hd hcd) hm) fun F0 G F H σ k Q q => ha _ _ _ e5 F0 G F H σ k _ fun w F1 H1 k1 f1 d1 => by
    obtain ⟨p, vs, q1, q2, q3, q4, q5⟩ := k1.own n s xs e2 e3
    exact ⟨.ref p, q1, g F1 H1 w p vs _ d1 k1.fh q5 (.inl q2) (q _ F1 H1 k1 f1 (.bl _))⟩
theorem ce_NinO (n : Nat) (hu : X.A.units + 64 < cLine) (ha : CE X a ia) (hN : X.N[n]? = some nm := by rfl) (hv : Vis X.env.scope nm := by first | exact Or.inl rfl | exact Or.inr (Or.inl rfl) | exact Or.inr (Or.inr rfl))
    (hd : (nm == ("__debug__" : Str)) = false := by decide) (hcd : (nm == ("__classdict__" : Str)) = false := by decide) (hm : behindInMarks .NotIn (.Name nm p1) = false := by with_unfolding_all rfl) : CE X (.Compare a [.NotIn] [.Name nm p1] pos) (.rd n gNinO (.cons ia .nil)) := fun ρ d ρ' h => by
  obtain ⟨h0, ds, s, xs, e1, e2, e3, e4⟩ := rdd h
  obtain ⟨x, rfl, e5⟩ := a1 e1
  obtain ⟨z, e6, e7⟩ := mp (show (inL x xs).map (fun z => PyData.bool (!z)) = some d from e4)
  subst e7
  obtain ⟨R, o, g⟩ := in_run (X := X) rfl hu true e6
  exact .of (pe_cmpR o (pcE a) (pe_var hN hv hd hcd) hm) fun F0 G F H σ k Q q => ha _ _ _ e5 F0 G F H σ k _ fun w F1 H1 k1 f1 d1 => by
    obtain ⟨p, vs, q1, q2, q3, q4, q5⟩ := k1.own n s xs e2 e3
    exact ⟨.ref p, q1, g F1 H1 w p vs _ d1 k1.fh q5 (.inl q2) (q _ F1 H1 k1 f1 (.bl _))⟩
theorem ct_InO (n : Nat) (hu : X.A.units + 64 < cLine) (ha : CE X a ia) (hN : X.N[n]? = some nm := by rfl) (hv : Vis X.env.scope nm := by first | exact Or.inl rfl | exact Or.inr (Or.inl rfl) | exact Or.inr (Or.inr rfl))
    (hd : (nm == ("__debug__" : Str)) = false := by decide) (hcd : (nm == ("__classdict__" : Str)) = false := by decide) (hm : behindInMarks .In (.Name nm p1) = false := by with_unfolding_all rfl) : CT X (.Compare a [.In] [.Name nm p1] pos) (.val (.rd n gInO (.cons ia .nil))) := fun ρ bb ρ' q => by
  unfold evT at q
  obtain ⟨p, e1, q⟩ := bnd q
  split at q
  · rename_i b2 hb
    cases q
    obtain ⟨h0, ds, s, xs, f1, e2, e3, e4⟩ := rdd e1
    obtain ⟨x, rfl, e5⟩ := a1 f1
    obtain ⟨z, e6, e7⟩ := mp (show (inL x xs).map PyData.bool = some p.1 from e4)
    rw [hb] at e7
    cases e7
    obtain ⟨R, o, g⟩ := in_run (X := X) rfl hu false e6
    exact .of (pt_cmpR o (pcE a) (pe_var hN hv hd hcd) hm) fun F0 G F H σ k Q q => ha _ _ _ e5 F0 G F H σ k _ fun w F1 H1 k1 f1 d1 => by
      obtain ⟨p, vs, q1, q2, q3, q4, q5⟩ := k1.own n s xs e2 e3
      exact ⟨.ref p, q1, g F1 H1 w p vs _ d1 k1.fh q5 (.inl q2) ⟨_, rfl, q F1 H1 k1 f1⟩⟩
  · cases q
theorem ct_NinO (n : Nat) (hu : X.A.units + 64 < cLine) (ha : CE X a ia) (hN : X.N[n]? = some nm := by rfl) (hv : Vis X.env.scope nm := by first | exact Or.inl rfl | exact Or.inr (Or.inl rfl) | exact Or.inr (Or.inr rfl))
    (hd : (nm == ("__debug__" : Str)) = false := by decide) (hcd : (nm == ("__classdict__" : Str)) = false := by decide) (hm : behindInMarks .NotIn (.Name nm p1) = false := by with_unfolding_all rfl) : CT X (.Compare a [.NotIn] [.Name nm p1] pos) (.val (.rd n gNinO (.cons ia .nil))) := fun ρ bb ρ' q => by
  unfold evT at q
  obtain ⟨p, e1, q⟩ := bnd q
  split at q
  · rename_i b2 hb
    cases q
    obtain ⟨h0, ds, s, xs, f1, e2, e3, e4⟩ := rdd e1
    obtain ⟨x, rfl, e5⟩ := a1 f1
    obtain ⟨z, e6, e7⟩ := mp (show (inL x xs).map (fun z => PyData.bool (!z)) = some p.1 from e4)
    rw [hb] at e7
    cases e7
    obtain ⟨R, o, g⟩ := in_run (X := X) rfl hu true e6
    exact .of (pt_cmpR o (pcE a) (pe_var hN hv hd hcd) hm) fun F0 G F H σ k Q q => ha _ _ _ e5 F0 G F H σ k _ fun w F1 H1 k1 f1 d1 => by
      obtain ⟨p, vs, q1, q2, q3, q4, q5⟩ := k1.own n s xs e2 e3
      exact ⟨.ref p, q1, g F1 H1 w p vs _ d1 k1.fh q5 (.inl q2) ⟨_, rfl, q F1 H1 k1 f1⟩⟩
  · cases q
end
end DI
set_option Elab.async false
set_option linter.all false
set_option maxRecDepth 100000
set_option maxHeartbeats 4000000
/-! the defs of the program and of the laws, as terms over data -/
namespace PG
open PySem PySem.Spec PyProof.Rows L2 DL DI
def i_is_integer : ISs :=
  (.cons (.ret (.andE (.f (gIsi "int") (.cons (.v 0) .nil)) (.andE (.f gNot (.cons (.f (gIsi "bool") (.cons (.v 0) .nil)) .nil)) (.ch gLe gLe (.v 1) (.v 0) (.v 2)))))
  .nil)
def r_is_integer (ds : List D) : Option D := runD 3 i_is_integer ds
abbrev sp_is_integer (K : PySem.W.Frag) : Sp := spD K 3 fun ds d => r_is_integer ds = some d
def i_is_picture : ISs :=
  (.cons (.ret (.f r_is_integer (.cons (.v 0) (.cons (.c (.int 0)) (.cons (.c (.int 99)) .nil)))))
  .nil)
def r_is_picture (ds : List D) : Option D := runD 1 i_is_picture ds
abbrev sp_is_picture (K : PySem.W.Frag) : Sp := spD K 1 fun ds d => r_is_picture ds = some d
def i_is_film : ISs :=
  (.cons (.ife (.orT (.notT (.val (.f (gIsi "tuple") (.cons (.v 0) .nil)))) (.cmp gGt (.f gLen (.cons (.v 0) .nil)) (.c (.int 1000)))) (.cons (.ret (.c (.bool false)))
    .nil) .nil)
  (.cons (.ret (.f gAll (.cons (.o (.lc (.n 1) (.f gSeq (.cons (.v 0) .nil)) .tt (.f r_is_picture (.cons (.v 1) .nil)) [1])) .nil)))
  .nil))
def r_is_film (ds : List D) : Option D := runD 2 i_is_film ds
abbrev sp_is_film (K : PySem.W.Frag) : Sp := spD K 1 fun ds d => r_is_film ds = some d
def i_is_ascending : ISs :=
  (.cons (.ret (.f (fun ds => (gEq ds).map .bool) (.cons (.o (.f gList (.cons (.v 0) .nil))) (.cons (.o (.f gSet (.cons (.v 0) .nil))) .nil))))
  .nil)
def r_is_ascending (ds : List D) : Option D := runD 1 i_is_ascending ds
abbrev sp_is_ascending (K : PySem.W.Frag) : Sp := spD K 1 fun ds d => r_is_ascending ds = some d
def i_is_next_row : ISs :=
  (.cons (.ife (.orT (.notT (.val (.f (gIsi "tuple") (.cons (.v 0) .nil)))) (.cmp gEq (.f gLen (.cons (.v 0) .nil)) (.c (.int 0)))) (.cons (.ret (.c (.bool false)))
    .nil) .nil)
  (.cons (.ret (.andE (.f gAll (.cons (.o (.lc (.n 2) (.f gSeq (.cons (.v 0) .nil)) .tt (.f r_is_integer (.cons (.v 2) (.cons (.c (.int 0)) (.cons (.f gSub (.cons (.v 1) (.cons (.c (.int 1)) .nil))) .nil)))) [2])) .nil)) (.f r_is_ascending (.cons (.v 0) .nil))))
  .nil))
def r_is_next_row (ds : List D) : Option D := runD 3 i_is_next_row ds
abbrev sp_is_next_row (K : PySem.W.Frag) : Sp := spD K 2 fun ds d => r_is_next_row ds = some d
def i_are_nexts : ISs :=
  (.cons (.ife (.orT (.notT (.val (.f (gIsi "tuple") (.cons (.v 0) .nil)))) (.notT (.ch gLe gLe (.c (.int 1)) (.f gLen (.cons (.v 0) .nil)) (.c (.int 6))))) (.cons (.ret (.c (.bool false)))
    .nil) .nil)
  (.cons (.ret (.f gAll (.cons (.o (.lc (.n 1) (.f gSeq (.cons (.v 0) .nil)) .tt (.f r_is_next_row (.cons (.v 1) (.cons (.f gLen (.cons (.v 0) .nil)) .nil))) [1])) .nil)))
  .nil))
def r_are_nexts (ds : List D) : Option D := runD 2 i_are_nexts ds
abbrev sp_are_nexts (K : PySem.W.Frag) : Sp := spD K 1 fun ds d => r_are_nexts ds = some d
def i_wrong_part : ISs :=
  (.cons (.ife (.orT (.notT (.val (.f (gIsi "tuple") (.cons (.v 0) .nil)))) (.cmp gNe (.f gLen (.cons (.v 0) .nil)) (.c (.int 2)))) (.cons (.ret (.c (.str (Str.ofString "reel"))))
    .nil) .nil)
  (.cons (.tup (.t (.cons (.n 1) (.cons (.n 2) .nil))) (.v 0))
  (.cons (.ife (.notT (.val (.f r_are_nexts (.cons (.v 1) .nil)))) (.cons (.ret (.c (.str (Str.ofString "nexts"))))
    .nil) .nil)
  (.cons (.ife (.orT (.notT (.val (.f r_is_film (.cons (.v 2) .nil)))) (.cmp gNe (.f gLen (.cons (.v 2) .nil)) (.f gLen (.cons (.v 1) .nil)))) (.cons (.ret (.c (.str (Str.ofString "pictures"))))
    .nil) .nil)
  (.cons (.ret (.c .none))
  .nil)))))
def r_wrong_part (ds : List D) : Option D := runD 3 i_wrong_part ds
abbrev sp_wrong_part (K : PySem.W.Frag) : Sp := spD K 1 fun ds d => r_wrong_part ds = some d
def i_check_reel : ISs :=
  (.cons (.set 1 (.f r_wrong_part (.cons (.v 0) .nil)))
  (.cons (.ife (.cmp gNis (.v 1) (.c .none)) (.cons .stuck
    .nil) .nil)
  .nil))
def r_check_reel (ds : List D) : Option D := runD 2 i_check_reel ds
abbrev sp_check_reel (K : PySem.W.Frag) : Sp := spD K 1 fun ds d => r_check_reel ds = some d
def i_check_gap : ISs :=
  (.cons (.ife (.andT (.cmp gNis (.v 0) (.c .none)) (.notT (.val (.f r_is_integer (.cons (.v 0) (.cons (.c (.int 0)) (.cons (.c (.int 20)) .nil))))))) (.cons .stuck
    .nil) .nil)
  .nil)
def r_check_gap (ds : List D) : Option D := runD 1 i_check_gap ds
abbrev sp_check_gap (K : PySem.W.Frag) : Sp := spD K 1 fun ds d => r_check_gap ds = some d
def i_check_two : ISs :=
  (.cons (.ex (.f r_check_reel (.cons (.v 0) .nil)))
  (.cons (.ex (.f r_check_reel (.cons (.v 1) .nil)))
  (.cons (.ex (.f r_check_gap (.cons (.v 2) .nil)))
  .nil)))
def r_check_two (ds : List D) : Option D := runD 3 i_check_two ds
abbrev sp_check_two (K : PySem.W.Frag) : Sp := spD K 3 fun ds d => r_check_two ds = some d
def i_states_within : ISs :=
  (.cons (.set 3 (.ife (.cmp gIs (.v 2) (.c .none)) (.f gLen (.cons (.v 0) .nil)) (.v 2)))
  (.cons (.set 4 (.o (.f gSort (.cons (.v 1) .nil))))
  (.cons (.fo (.n 5) (.f gRng1 (.cons (.v 3) .nil)) (.cons (.set 4 (.o (.f gSet (.cons (.f gAdd (.cons (.v 4) (.cons (.o (.lc2 (.n 6) (.f gSeq (.cons (.v 4) .nil)) .tt (.n 7) (.f gSeq (.cons (.f gIx (.cons (.v 0) (.cons (.v 6) .nil))) .nil)) .tt (.v 7) [6, 7] [7])) .nil))) .nil))))
    .nil) [5])
  (.cons (.ret (.v 4))
  .nil))))
def r_states_within (ds : List D) : Option D := runD 8 i_states_within ds
abbrev sp_states_within (K : PySem.W.Frag) : Sp := spD K 3 fun ds d => r_states_within ds = some d
def i_leaps : ISs :=
  (.cons (.set 2 (.f gIx (.cons (.v 0) (.cons (.c (.int 0)) .nil))))
  (.cons (.setF 3 (.lc (.n 4) (.f gSeq (.cons (.v 2) .nil)) .tt (.f r_states_within (.cons (.v 2) (.cons (.v 4) (.cons (.v 1) .nil)))) [4]))
  (.cons (.ret (.f gAdd (.cons (.v 3) (.cons (.o (.f gLst (.cons (.f r_states_within (.cons (.v 2) (.cons (.o (.f gLst (.cons (.c (.int 0)) .nil))) (.cons (.v 1) .nil)))) .nil))) .nil))))
  .nil)))
def r_leaps (ds : List D) : Option D := runD 5 i_leaps ds
abbrev sp_leaps (K : PySem.W.Frag) : Sp := spD K 2 fun ds d => r_leaps ds = some d
def i_law_taken : ISs :=
  (.cons (.ife (.cmp gGt (.rd 0 gIxO (.cons (.c (.int 3)) .nil)) (.c (.int 0))) (.cons (.set 2 (.f gMod (.cons (.f gInt (.cons (.rd 0 gIxO (.cons (.c (.int 3)) .nil)) .nil)) (.cons (.v 1) .nil))))
    (.cons (.store 0 (.f gDiv (.cons (.rd 0 gIxO (.cons (.c (.int 3)) .nil)) (.cons (.v 1) .nil))) (.c (.int 3)))
    (.cons (.ret (.v 2))
    .nil))) .nil)
  (.cons (.store 0 (.f gAdd (.cons (.rd 0 gIxO (.cons (.c (.int 1)) .nil)) (.cons (.c (.int 1)) .nil))) (.c (.int 1)))
  (.cons (.ife (.cmp gGt (.rd 0 gIxO (.cons (.c (.int 1)) .nil)) (.f gLen (.cons (.rd 0 gIxO (.cons (.c (.int 0)) .nil)) .nil))) (.cons (.store 0 (.f gMod (.cons (.f gInt (.cons (.f gAdd (.cons (.f gMul (.cons (.rd 0 gIxO (.cons (.c (.int 2)) .nil)) (.cons (.c (.int 48271)) .nil))) (.cons (.c (.int 11)) .nil))) .nil)) (.cons (.c (.int 2147483647)) .nil))) (.c (.int 2)))
    (.cons (.ret (.f gMod (.cons (.f gInt (.cons (.f gDiv (.cons (.rd 0 gIxO (.cons (.c (.int 2)) .nil)) (.cons (.c (.int 7)) .nil))) .nil)) (.cons (.v 1) .nil))))
    .nil)) .nil)
  (.cons (.set 3 (.f gIx (.cons (.rd 0 gIxO (.cons (.c (.int 0)) .nil)) (.cons (.f gSub (.cons (.rd 0 gIxO (.cons (.c (.int 1)) .nil)) (.cons (.c (.int 1)) .nil))) .nil))))
  (.cons (.store 0 (.f gMod (.cons (.f gInt (.cons (.f gAdd (.cons (.f gAdd (.cons (.f gMul (.cons (.rd 0 gIxO (.cons (.c (.int 2)) .nil)) (.cons (.c (.int 48271)) .nil))) (.cons (.v 3) .nil))) (.cons (.c (.int 11)) .nil))) .nil)) (.cons (.c (.int 2147483647)) .nil))) (.c (.int 2)))
  (.cons (.ife (.cmp gGe (.v 3) (.f gPow (.cons (.c (.int 10)) (.cons (.c (.int 18)) .nil)))) (.cons (.store 0 (.f gDiv (.cons (.v 3) (.cons (.v 1) .nil))) (.c (.int 3)))
    .nil) .nil)
  (.cons (.ret (.f gMod (.cons (.f gInt (.cons (.v 3) .nil)) (.cons (.v 1) .nil))))
  .nil)))))))
def r_law_taken (rs ds : List D) : Option (D × List D) := runB 4 i_law_taken rs ds
abbrev sp_law_taken (K : PySem.W.Frag) : Sp := spB K 2 (RunB 4 i_law_taken)
def i_law_pick : ISs :=
  (.cons (.ret (.f gIx (.cons (.v 1) (.cons (.up 0 r_law_taken (.cons (.f gLen (.cons (.v 1) .nil)) .nil)) .nil))))
  .nil)
def r_law_pick (rs ds : List D) : Option (D × List D) := runB 2 i_law_pick rs ds
abbrev sp_law_pick (K : PySem.W.Frag) : Sp := spB K 2 (RunB 2 i_law_pick)
def i_check_reels : ISs :=
  (.cons (.ife (.orT (.notT (.val (.f (gIsi "tuple") (.cons (.v 0) .nil)))) (.notT (.ch gLe gLe (.c (.int 2)) (.f gLen (.cons (.v 0) .nil)) (.c (.int 6))))) (.cons .stuck
    .nil) .nil)
  (.cons (.fo (.t (.cons (.n 1) (.cons (.n 2) .nil))) (.f gEnum (.cons (.v 0) .nil)) (.cons (.ife (.cmp gNis (.f r_wrong_part (.cons (.v 2) .nil)) (.c .none)) (.cons .stuck
      .nil) .nil)
    .nil) [1, 2])
  .nil))
def r_check_reels (ds : List D) : Option D := runD 3 i_check_reels ds
abbrev sp_check_reels (K : PySem.W.Frag) : Sp := spD K 1 fun ds d => r_check_reels ds = some d
def i_check_film : ISs :=
  (.cons (.ife (.notT (.val (.f r_is_film (.cons (.v 0) .nil)))) (.cons .stuck
    .nil) .nil)
  .nil)
def r_check_film (ds : List D) : Option D := runD 1 i_check_film ds
abbrev sp_check_film (K : PySem.W.Frag) : Sp := spD K 1 fun ds d => r_check_film ds = some d
def i_ahead_of_all : ISs :=
  (.cons (.ret (.o (.f gLst (.cons (.f gLen (.cons (.f gIx (.cons (.v 0) (.cons (.c (.int 0)) .nil))) .nil)) .nil))))
  .nil)
def r_ahead_of_all (ds : List D) : Option D := runD 1 i_ahead_of_all ds
abbrev sp_ahead_of_all (K : PySem.W.Frag) : Sp := spD K 1 fun ds d => r_ahead_of_all ds = some d
def i_states_at_next : ISs :=
  (.cons (.set 4 (.f gIx (.cons (.v 0) (.cons (.c (.int 1)) .nil))))
  (.cons (.ret (.o (.f gSet (.cons (.o (.lc2 (.n 5) (.f gSeq (.cons (.v 2) .nil)) .tt (.n 6) (.f gSeq (.cons (.f gIx (.cons (.v 1) (.cons (.v 5) .nil))) .nil)) (.cmp gEq (.f gIx (.cons (.v 4) (.cons (.v 6) .nil))) (.v 3)) (.v 6) [5, 6] [6])) .nil))))
  .nil))
def r_states_at_next (ds : List D) : Option D := runD 7 i_states_at_next ds
abbrev sp_states_at_next (K : PySem.W.Frag) : Sp := spD K 4 fun ds d => r_states_at_next ds = some d
def i_frames_shown : ISs :=
  (.cons (.set 3 (.f r_leaps (.cons (.v 0) (.cons (.v 1) .nil))))
  (.cons (.set 4 (.f r_ahead_of_all (.cons (.v 0) .nil)))
  (.cons (.fo (.t (.cons (.n 5) (.cons (.n 6) .nil))) (.f gEnum (.cons (.v 2) .nil)) (.cons (.set 4 (.f r_states_at_next (.cons (.v 0) (.cons (.v 3) (.cons (.v 4) (.cons (.v 6) .nil))))))
    (.cons (.ife (.cmp gEq (.f gLen (.cons (.v 4) .nil)) (.c (.int 0))) (.cons (.ret (.v 5))
      .nil) .nil)
    .nil)) [5, 6])
  (.cons (.ret (.f gLen (.cons (.v 2) .nil)))
  .nil))))
def r_frames_shown (ds : List D) : Option D := runD 7 i_frames_shown ds
abbrev sp_frames_shown (K : PySem.W.Frag) : Sp := spD K 3 fun ds d => r_frames_shown ds = some d
def i_law_alike_2 (r : List D → Option D) : ISs :=
  (.cons (.ife (.val (.f (gIsi2 "tuple" "list") (.cons (.v 1) .nil))) (.cons (.ife (.orT (.notT (.val (.f (gIsi2 "tuple" "list") (.cons (.v 0) .nil)))) (.cmp gNe (.f (gIsi "list") (.cons (.v 0) .nil)) (.f (gIsi "list") (.cons (.v 1) .nil)))) (.cons (.ret (.c (.bool false)))
      .nil) .nil)
    (.cons (.ife (.cmp gNe (.f gLen (.cons (.v 0) .nil)) (.f gLen (.cons (.v 1) .nil))) (.cons (.ret (.c (.bool false)))
      .nil) .nil)
    (.cons (.ret (.f (fun ds => (gEq ds).map .bool) (.cons (.o (.lc (.n 2) (.f gRng1 (.cons (.f gLen (.cons (.v 1) .nil)) .nil)) (.notT (.val (.f r (.cons (.f gIx (.cons (.v 0) (.cons (.v 2) .nil))) (.cons (.f gIx (.cons (.v 1) (.cons (.v 2) .nil))) .nil))))) (.v 2) [2])) (.cons (.o (.f gLst .nil)) .nil))))
    .nil))) .nil)
  (.cons (.ife (.val (.f (gIsi "dict") (.cons (.v 1) .nil))) (.cons (.ife (.orT (.notT (.val (.f (gIsi "dict") (.cons (.v 0) .nil)))) (.cmp gNe (.o (.f gSort (.cons (.v 0) .nil))) (.o (.f gSort (.cons (.v 1) .nil))))) (.cons (.ret (.c (.bool false)))
      .nil) .nil)
    (.cons (.ret (.f (fun ds => (gEq ds).map .bool) (.cons (.o (.lc (.n 3) (.f gSeq (.cons (.v 1) .nil)) (.notT (.val (.f r (.cons (.f gIx (.cons (.v 0) (.cons (.v 3) .nil))) (.cons (.f gIx (.cons (.v 1) (.cons (.v 3) .nil))) .nil))))) (.v 3) [3])) (.cons (.o (.f gLst .nil)) .nil))))
    .nil)) .nil)
  (.cons (.ife (.orT (.cmp gIs (.v 1) (.c .none)) (.val (.f (gIsi "str") (.cons (.v 1) .nil)))) (.cons (.ret (.andE (.f (fun ds => (gEq ds).map .bool) (.cons (.v 0) (.cons (.v 1) .nil))) (.f (fun ds => (gEq ds).map .bool) (.cons (.f (gIsi "str") (.cons (.v 0) .nil)) (.cons (.f (gIsi "str") (.cons (.v 1) .nil)) .nil)))))
    .nil) .nil)
  (.cons (.ret (.andE (.f (gIsi "int") (.cons (.v 0) .nil)) (.andE (.f (fun ds => (gEq ds).map .bool) (.cons (.f (gIsi "bool") (.cons (.v 0) .nil)) (.cons (.f (gIsi "bool") (.cons (.v 1) .nil)) .nil))) (.f (fun ds => (gEq ds).map .bool) (.cons (.v 0) (.cons (.v 1) .nil))))))
  .nil))))
def q_law_alike_2 : Nat → List D → Option D
  | 0, _ => none
  | k + 1, ds => runD 4 (i_law_alike_2 (q_law_alike_2 k)) ds
def r_law_alike_2 (ds : List D) : Option D := q_law_alike_2 8 ds
abbrev sp_law_alike_2 (K : PySem.W.Frag) : Sp := spD K 2 fun ds d => q_law_alike_2 8 ds = some d
def i_law_reel_2 : ISs :=
  (.cons (.par 3 4 (.f gAdd (.cons (.c (.int 1)) (.cons (.up 0 r_law_taken (.cons (.v 1) .nil)) .nil))) (.up 0 r_law_taken (.cons (.c (.int 4)) .nil)))
  (.cons (.setO 5 (.f gLst .nil))
  (.cons (.fo (.n 6) (.f gRng1 (.cons (.v 3) .nil)) (.cons (.setF 7 (.lc (.n 8) (.f gRng1 (.cons (.v 3) .nil)) (.cmp gEq (.up 0 r_law_taken (.cons (.c (.int 3)) .nil)) (.c (.int 0))) (.v 8) [8]))
    (.cons (.upd 5 gApp (.cons (.ife (.andT (.cmp gNe (.v 7) (.o (.f gLst .nil))) (.cmp gGt (.v 4) (.c (.int 0)))) (.f gTuple (.cons (.v 7) .nil)) (.f gTup (.cons (.up 0 r_law_taken (.cons (.v 3) .nil)) .nil))) .nil))
    .nil)) [6, 7])
  (.cons (.ret (.f gTup (.cons (.f gTuple (.cons (.v 5) .nil)) (.cons (.f gTuple (.cons (.o (.lc (.n 6) (.f gRng1 (.cons (.v 3) .nil)) .tt (.up 0 r_law_taken (.cons (.v 2) .nil)) [6])) .nil)) .nil))))
  .nil))))
def r_law_reel_2 (rs ds : List D) : Option (D × List D) := runB 9 i_law_reel_2 rs ds
abbrev sp_law_reel_2 (K : PySem.W.Frag) : Sp := spB K 3 (RunB 9 i_law_reel_2)
def i_law_gap_2 : ISs :=
  (.cons (.ret (.up 0 r_law_pick (.cons (.o (.f gLst (.cons (.c (.int 0)) (.cons (.c (.int 0)) (.cons (.c (.int 1)) (.cons (.c (.int 2)) (.cons (.c (.int 20)) (.cons (.c .none) (.cons (.c .none) .nil))))))))) .nil)))
  .nil)
def r_law_gap_2 (rs ds : List D) : Option (D × List D) := runB 1 i_law_gap_2 rs ds
abbrev sp_law_gap_2 (K : PySem.W.Frag) : Sp := spB K 1 (RunB 1 i_law_gap_2)
def i_law_beyond_2 : ISs :=
  (.cons (.set 2 (.o (.f gLst .nil)))
  (.cons (.fo (.n 3) (.f gSeq (.cons (.v 1) .nil)) (.cons (.set 2 (.f gAdd (.cons (.v 2) (.cons (.o (.lc (.n 4) (.f gSeq (.cons (.f gIx (.cons (.f gIx (.cons (.v 0) (.cons (.c (.int 0)) .nil))) (.cons (.v 3) .nil))) .nil)) (.cmp gNin (.v 4) (.v 2)) (.v 4) [4])) .nil))))
    .nil) [3])
  (.cons (.ret (.v 2))
  .nil)))
def r_law_beyond_2 (ds : List D) : Option D := runD 5 i_law_beyond_2 ds
abbrev sp_law_beyond_2 (K : PySem.W.Frag) : Sp := spD K 2 fun ds d => r_law_beyond_2 ds = some d
def i_law_within : ISs :=
  (.cons (.set 3 (.o (.f gList (.cons (.v 1) .nil))))
  (.cons (.fo (.n 4) (.f gRng1 (.cons (.ife (.cmp gIs (.v 2) (.c .none)) (.c (.int 8)) (.f gMin (.cons (.c (.int 8)) (.cons (.v 2) .nil)))) .nil)) (.cons (.set 1 (.f r_law_beyond_2 (.cons (.v 0) (.cons (.v 1) .nil))))
    (.cons (.set 3 (.f gAdd (.cons (.v 3) (.cons (.o (.lc (.n 5) (.f gSeq (.cons (.v 1) .nil)) (.cmp gNin (.v 5) (.v 3)) (.v 5) [5])) .nil))))
    .nil)) [4])
  (.cons (.ret (.v 3))
  .nil)))
def r_law_within (ds : List D) : Option D := runD 6 i_law_within ds
abbrev sp_law_within (K : PySem.W.Frag) : Sp := spD K 3 fun ds d => r_law_within ds = some d
def i_law_may : ISs :=
  (.cons (.ret (.f r_law_within (.cons (.v 0) (.cons (.ife (.cmp gIs (.v 2) (.c .none)) (.o (.f gLst (.cons (.c (.int 0)) .nil))) (.f r_law_beyond_2 (.cons (.v 0) (.cons (.v 2) .nil)))) (.cons (.v 1) .nil)))))
  .nil)
def r_law_may (ds : List D) : Option D := runD 3 i_law_may ds
abbrev sp_law_may (K : PySem.W.Frag) : Sp := spD K 3 fun ds d => r_law_may ds = some d
def i_law_see : ISs :=
  (.cons (.ret (.f gTuple (.cons (.o (.f gSort (.cons (.o (.lc (.n 4) (.f gSeq (.cons (.f r_law_may (.cons (.v 0) (.cons (.v 1) (.cons (.v 2) .nil)))) .nil)) (.cmp gEq (.f gIx (.cons (.f gIx (.cons (.v 0) (.cons (.c (.int 1)) .nil))) (.cons (.v 4) .nil))) (.v 3)) (.v 4) [4])) .nil))) .nil)))
  .nil)
def r_law_see (ds : List D) : Option D := runD 5 i_law_see ds
abbrev sp_law_see (K : PySem.W.Frag) : Sp := spD K 4 fun ds d => r_law_see ds = some d
def i_law_stands_2 : ISs :=
  (.cons (.set 3 (.c .none))
  (.cons (.fo (.n 4) (.f gSeq (.cons (.v 2) .nil)) (.cons (.set 3 (.f r_law_see (.cons (.v 0) (.cons (.v 1) (.cons (.v 3) (.cons (.v 4) .nil))))))
    .nil) [4])
  (.cons (.ret (.v 3))
  .nil)))
def r_law_stands_2 (ds : List D) : Option D := runD 5 i_law_stands_2 ds
abbrev sp_law_stands_2 (K : PySem.W.Frag) : Sp := spD K 3 fun ds d => r_law_stands_2 ds = some d
def i_law_can : ISs :=
  (.cons (.ret (.f (fun ds => (gNe ds).map .bool) (.cons (.f r_law_stands_2 (.cons (.v 0) (.cons (.v 1) (.cons (.v 2) .nil)))) (.cons (.f gTup .nil) .nil))))
  .nil)
def r_law_can (ds : List D) : Option D := runD 3 i_law_can ds
abbrev sp_law_can (K : PySem.W.Frag) : Sp := spD K 3 fun ds d => r_law_can ds = some d
def i_first_films : ISs :=
  (.cons (.par 3 4 (.f r_leaps (.cons (.v 0) (.cons (.v 2) .nil))) (.f r_leaps (.cons (.v 1) (.cons (.v 2) .nil))))
  (.cons (.set 5 (.o (.f gSet (.cons (.f gAdd (.cons (.f gIx (.cons (.v 0) (.cons (.c (.int 1)) .nil))) (.cons (.f gIx (.cons (.v 1) (.cons (.c (.int 1)) .nil))) .nil))) .nil))))
  (.cons (.setN 6)
  (.cons (.setO 7 (.f gLst (.cons (.f gTup (.cons (.f gTup .nil) (.cons (.f gTuple (.cons (.f r_ahead_of_all (.cons (.v 0) .nil)) .nil)) (.cons (.f gTuple (.cons (.f r_ahead_of_all (.cons (.v 1) .nil)) .nil)) .nil)))) .nil)))
  (.cons (.set 8 (.c (.int 0)))
  (.cons (.wh 100000 (.cmp gLt (.v 8) (.rd 7 gLenO .nil)) (.cons (.tup (.t (.cons (.n 9) (.cons (.n 10) (.cons (.n 11) .nil)))) (.rd 7 gIxO (.cons (.v 8) .nil)))
    (.cons (.set 8 (.f gIadd (.cons (.v 8) (.cons (.c (.int 1)) .nil))))
    (.cons (.ife (.val (.rn 6 gInN (.cons (.f gTup (.cons (.v 10) (.cons (.v 11) .nil))) .nil))) (.cons .cnt
      .nil) .nil)
    (.cons (.putN 6 (.v 9) (.f gTup (.cons (.v 10) (.cons (.v 11) .nil))))
    (.cons (.ife (.andT (.cmp gGt (.f gLen (.cons (.v 10) .nil)) (.c (.int 0))) (.cmp gGt (.f gLen (.cons (.v 11) .nil)) (.c (.int 0)))) (.cons (.fo (.n 12) (.f gSeq (.cons (.v 5) .nil)) (.cons (.set 13 (.f gTuple (.cons (.f r_states_at_next (.cons (.v 0) (.cons (.v 3) (.cons (.v 10) (.cons (.v 12) .nil))))) .nil)))
        (.cons (.set 14 (.f gTuple (.cons (.f r_states_at_next (.cons (.v 1) (.cons (.v 4) (.cons (.v 11) (.cons (.v 12) .nil))))) .nil)))
        (.cons (.upd 7 gApp (.cons (.f gTup (.cons (.f gAdd (.cons (.v 9) (.cons (.f gTup (.cons (.v 12) .nil)) .nil))) (.cons (.v 13) (.cons (.v 14) .nil)))) .nil))
        .nil))) [12, 13, 14])
      .nil) .nil)
    .nil))))) [9, 10, 11, 12, 13, 14])
  (.cons (.ret (.v 6))
  .nil)))))))
def r_first_films (ds : List D) : Option D := runD 15 i_first_films ds
abbrev sp_first_films (K : PySem.W.Frag) : Sp := spD K 3 fun ds d => r_first_films ds = some d
def i_covers : ISs :=
  (.cons (.ex (.f r_check_two (.cons (.v 0) (.cons (.v 1) (.cons (.v 2) .nil)))))
  (.cons (.ret (.f gAll (.cons (.o (.lc (.t (.cons (.n 3) (.cons (.n 4) .nil))) (.f gKeysDN (.cons (.f r_first_films (.cons (.v 0) (.cons (.v 1) (.cons (.v 2) .nil)))) .nil)) .tt (.orE (.f (fun ds => (gGt ds).map .bool) (.cons (.f gLen (.cons (.v 3) .nil)) (.cons (.c (.int 0)) .nil))) (.f (fun ds => (gEq ds).map .bool) (.cons (.f gLen (.cons (.v 4) .nil)) (.cons (.c (.int 0)) .nil)))) [3, 4])) .nil)))
  .nil))
def r_covers (ds : List D) : Option D := runD 5 i_covers ds
abbrev sp_covers (K : PySem.W.Frag) : Sp := spD K 3 fun ds d => r_covers ds = some d
def i_parting_film : ISs :=
  (.cons (.ex (.f r_check_two (.cons (.v 0) (.cons (.v 1) (.cons (.v 2) .nil)))))
  (.cons (.set 3 (.f r_first_films (.cons (.v 0) (.cons (.v 1) (.cons (.v 2) .nil)))))
  (.cons (.fo (.t (.cons (.n 4) (.cons (.n 5) .nil))) (.f gKeysDN (.cons (.v 3) .nil)) (.cons (.ife (.cmp gNe (.f (fun ds => (gEq ds).map .bool) (.cons (.f gLen (.cons (.v 4) .nil)) (.cons (.c (.int 0)) .nil))) (.f (fun ds => (gEq ds).map .bool) (.cons (.f gLen (.cons (.v 5) .nil)) (.cons (.c (.int 0)) .nil)))) (.cons (.ret (.f gIxDN (.cons (.v 3) (.cons (.f gTup (.cons (.v 4) (.cons (.v 5) .nil))) .nil))))
      .nil) .nil)
    .nil) [4, 5])
  (.cons (.ret (.c .none))
  .nil))))
def r_parting_film (ds : List D) : Option D := runD 6 i_parting_film ds
abbrev sp_parting_film (K : PySem.W.Frag) : Sp := spD K 3 fun ds d => r_parting_film ds = some d
def i_are_same : ISs :=
  (.cons (.ret (.f (fun ds => (gIs ds).map .bool) (.cons (.f r_parting_film (.cons (.v 0) (.cons (.v 1) (.cons (.v 2) .nil)))) (.cons (.c .none) .nil))))
  .nil)
def r_are_same (ds : List D) : Option D := runD 3 i_are_same ds
abbrev sp_are_same (K : PySem.W.Frag) : Sp := spD K 3 fun ds d => r_are_same ds = some d
def i_least_gap_alike : ISs :=
  (.cons (.ex (.f r_check_reel (.cons (.v 0) .nil)))
  (.cons (.ex (.f r_check_reel (.cons (.v 1) .nil)))
  (.cons (.ife (.notT (.val (.f r_are_same (.cons (.v 0) (.cons (.v 1) (.cons (.c .none) .nil)))))) (.cons (.ret (.c .none))
    .nil) .nil)
  (.cons (.set 2 (.c (.int 0)))
  (.cons (.wh 100000 (.notT (.val (.f r_are_same (.cons (.v 0) (.cons (.v 1) (.cons (.v 2) .nil)))))) (.cons (.set 2 (.f gIadd (.cons (.v 2) (.cons (.c (.int 1)) .nil))))
    .nil) [])
  (.cons (.ret (.v 2))
  .nil))))))
def r_least_gap_alike (ds : List D) : Option D := runD 3 i_least_gap_alike ds
abbrev sp_least_gap_alike (K : PySem.W.Frag) : Sp := spD K 2 fun ds d => r_least_gap_alike ds = some d
def i_law_all_films : ISs :=
  (.cons (.set 2 (.o (.f gLst (.cons (.f gTup .nil) .nil))))
  (.cons (.fo (.n 3) (.f gRng1 (.cons (.v 1) .nil)) (.cons (.set 4 (.o (.f gLst .nil)))
    (.cons (.fo (.n 5) (.f gSeq (.cons (.v 2) .nil)) (.cons (.set 4 (.f gAdd (.cons (.v 4) (.cons (.o (.lc (.n 6) (.f gSeq (.cons (.v 0) .nil)) .tt (.f gAdd (.cons (.v 5) (.cons (.f gTup (.cons (.v 6) .nil)) .nil))) [6])) .nil))))
      .nil) [5])
    (.cons (.set 2 (.v 4))
    .nil))) [3, 4, 5])
  (.cons (.ret (.v 2))
  .nil)))
def r_law_all_films (ds : List D) : Option D := runD 7 i_law_all_films ds
abbrev sp_law_all_films (K : PySem.W.Frag) : Sp := spD K 2 fun ds d => r_law_all_films ds = some d
def i_law_pictures : ISs :=
  (.cons (.ret (.o (.f gSet (.cons (.f gAdd (.cons (.f gIx (.cons (.v 0) (.cons (.c (.int 1)) .nil))) (.cons (.f gIx (.cons (.v 1) (.cons (.c (.int 1)) .nil))) .nil))) .nil))))
  .nil)
def r_law_pictures (ds : List D) : Option D := runD 2 i_law_pictures ds
abbrev sp_law_pictures (K : PySem.W.Frag) : Sp := spD K 2 fun ds d => r_law_pictures ds = some d
def i_law_is : ISs :=
  (.cons (.ret (.andE (.f (gIsi "bool") (.cons (.v 0) .nil)) (.f (fun ds => (gEq ds).map .bool) (.cons (.v 0) (.cons (.v 1) .nil)))))
  .nil)
def r_law_is (ds : List D) : Option D := runD 2 i_law_is ds
abbrev sp_law_is (K : PySem.W.Frag) : Sp := spD K 2 fun ds d => r_law_is ds = some d
def i_law_parting : ISs :=
  (.cons (.par3 4 5 6 (.o (.f gLst (.cons (.f gTup (.cons (.f gTup .nil) (.cons (.c .none) (.cons (.c .none) .nil)))) .nil))) (.f gLst .nil) (.f r_law_pictures (.cons (.v 0) (.cons (.v 1) .nil))))
  (.cons (.wh 100000 (.cmp gNe (.v 4) (.o (.f gLst .nil))) (.cons (.setO 7 (.f gLst .nil))
    (.cons (.fo (.t (.cons (.n 8) (.cons (.n 9) (.cons (.n 10) .nil)))) (.f gSeq (.cons (.v 4) .nil)) (.cons (.fo (.n 11) (.f gSeq (.cons (.v 6) .nil)) (.cons (.set 12 (.ife (.cmp gNe (.v 9) (.f gTup .nil)) (.f r_law_see (.cons (.v 0) (.cons (.v 2) (.cons (.v 9) (.cons (.v 11) .nil))))) (.f gTup .nil)))
        (.cons (.set 13 (.ife (.cmp gNe (.v 10) (.f gTup .nil)) (.f r_law_see (.cons (.v 1) (.cons (.v 2) (.cons (.v 10) (.cons (.v 11) .nil))))) (.f gTup .nil)))
        (.cons (.ife (.orT (.andT (.cmp gEq (.v 12) (.f gTup .nil)) (.cmp gNe (.v 13) (.f gTup .nil))) (.andT (.cmp gEq (.v 13) (.f gTup .nil)) (.andT (.cmp gNe (.v 12) (.f gTup .nil)) (.notT (.val (.v 3)))))) (.cons (.ret (.f gAdd (.cons (.v 8) (.cons (.f gTup (.cons (.v 11) .nil)) .nil))))
          .nil) .nil)
        (.cons (.ife (.andT (.val (.rd 5 gNinO (.cons (.f gTup (.cons (.v 12) (.cons (.v 13) .nil))) .nil))) (.cmp gNe (.v 13) (.f gTup .nil))) (.cons (.upd 5 gApp (.cons (.f gTup (.cons (.v 12) (.cons (.v 13) .nil))) .nil))
          (.cons (.upd 7 gApp (.cons (.f gTup (.cons (.f gAdd (.cons (.v 8) (.cons (.f gTup (.cons (.v 11) .nil)) .nil))) (.cons (.v 12) (.cons (.v 13) .nil)))) .nil))
          .nil)) .nil)
        .nil)))) [11, 12, 13])
      .nil) [8, 9, 10, 11, 12, 13])
    (.cons (.set 4 (.v 7))
    .nil))) [7, 8, 9, 10, 11, 12, 13])
  (.cons (.ret (.c .none))
  .nil)))
def r_law_parting (ds : List D) : Option D := runD 14 i_law_parting ds
abbrev sp_law_parting (K : PySem.W.Frag) : Sp := spD K 4 fun ds d => r_law_parting ds = some d
def i_law_k62 : ISs :=
  (.cons (.setO 1 (.f gLst (.cons (.v 0) (.cons (.c (.int 0)) (.cons (.c (.int 9162)) (.cons (.c (.int 0)) .nil))))))
  (.cons (.tup (.t (.cons (.n 2) (.cons (.n 3) .nil))) (.f gTup (.cons (.up 1 r_law_reel_2 (.cons (.c (.int 4)) (.cons (.c (.int 2)) .nil))) (.cons (.up 1 r_law_gap_2 .nil) .nil))))
  (.cons (.set 4 (.up 1 r_law_reel_2 (.cons (.c (.int 4)) (.cons (.c (.int 2)) .nil))))
  (.cons (.ife (.cmp gEq (.up 1 r_law_taken (.cons (.c (.int 3)) .nil)) (.c (.int 0))) (.cons (.set 5 (.up 1 r_law_taken (.cons (.f gLen (.cons (.f gIx (.cons (.v 2) (.cons (.c (.int 0)) .nil))) .nil)) .nil)))
    (.cons (.set 4 (.f gTup (.cons (.f gAdd (.cons (.f gAdd (.cons (.f gCutTo (.cons (.f gIx (.cons (.v 2) (.cons (.c (.int 0)) .nil))) (.cons (.v 5) .nil))) (.cons (.f gTup (.cons (.f gTuple (.cons (.o (.f gSet (.cons (.f gAdd (.cons (.f gIx (.cons (.f gIx (.cons (.v 2) (.cons (.c (.int 0)) .nil))) (.cons (.v 5) .nil))) (.cons (.f gTup (.cons (.up 1 r_law_taken (.cons (.f gLen (.cons (.f gIx (.cons (.v 2) (.cons (.c (.int 0)) .nil))) .nil)) .nil)) .nil)) .nil))) .nil))) .nil)) .nil)) .nil))) (.cons (.f gCutFrom (.cons (.f gIx (.cons (.v 2) (.cons (.c (.int 0)) .nil))) (.cons (.f gAdd (.cons (.v 5) (.cons (.c (.int 1)) .nil))) .nil))) .nil))) (.cons (.f gIx (.cons (.v 2) (.cons (.c (.int 1)) .nil))) .nil))))
    .nil)) .nil)
  (.cons (.set 6 (.f r_law_parting (.cons (.v 2) (.cons (.v 4) (.cons (.v 3) (.cons (.c (.bool false)) .nil))))))
  (.cons (.ife (.orT (.notT (.val (.f r_law_alike_2 (.cons (.f r_parting_film (.cons (.v 2) (.cons (.v 4) (.cons (.v 3) .nil)))) (.cons (.v 6) .nil))))) (.notT (.val (.f r_law_is (.cons (.f r_are_same (.cons (.v 2) (.cons (.v 4) (.cons (.v 3) .nil)))) (.cons (.f (fun ds => (gIs ds).map .bool) (.cons (.v 6) (.cons (.c .none) .nil))) .nil)))))) (.cons (.ret (.c (.bool false)))
    .nil) .nil)
  (.cons (.ife (.notT (.val (.f r_law_is (.cons (.f r_covers (.cons (.v 2) (.cons (.v 4) (.cons (.v 3) .nil)))) (.cons (.f (fun ds => (gIs ds).map .bool) (.cons (.f r_law_parting (.cons (.v 2) (.cons (.v 4) (.cons (.v 3) (.cons (.c (.bool true)) .nil))))) (.cons (.c .none) .nil))) .nil))))) (.cons (.ret (.c (.bool false)))
    .nil) .nil)
  (.cons (.ife (.notT (.val (.f r_law_is (.cons (.f r_covers (.cons (.v 4) (.cons (.v 2) (.cons (.v 3) .nil)))) (.cons (.f (fun ds => (gIs ds).map .bool) (.cons (.f r_law_parting (.cons (.v 4) (.cons (.v 2) (.cons (.v 3) (.cons (.c (.bool true)) .nil))))) (.cons (.c .none) .nil))) .nil))))) (.cons (.ret (.c (.bool false)))
    .nil) .nil)
  (.cons (.fo (.n 7) (.f gRng2 (.cons (.c (.int 1)) (.cons (.c (.int 5)) .nil))) (.cons (.set 8 (.f r_law_all_films (.cons (.f r_law_pictures (.cons (.v 2) (.cons (.v 4) .nil))) (.cons (.v 7) .nil))))
    (.cons (.setF 9 (.lc (.n 12) (.f gSeq (.cons (.v 8) .nil)) (.cmp gNe (.f r_law_can (.cons (.v 2) (.cons (.v 3) (.cons (.v 12) .nil)))) (.f r_law_can (.cons (.v 4) (.cons (.v 3) (.cons (.v 12) .nil))))) (.v 12) [12]))
    (.cons (.ife (.andT (.cmp gNe (.v 9) (.o (.f gLst .nil))) (.orT (.cmp gIs (.v 6) (.c .none)) (.cmp gGt (.f gLen (.cons (.v 6) .nil)) (.v 7)))) (.cons (.ret (.c (.bool false)))
      .nil) .nil)
    (.cons (.ife (.andT (.cmp gNe (.v 9) (.o (.f gLst .nil))) (.andT (.cmp gEq (.f gLen (.cons (.v 6) .nil)) (.v 7)) (.cmp gNe (.v 6) (.f gIx (.cons (.v 9) (.cons (.c (.int 0)) .nil)))))) (.cons (.ret (.c (.bool false)))
      .nil) .nil)
    .nil)))) [7, 8, 9])
  (.cons (.setF 10 (.lc (.n 11) (.f gSeq (.cons (.o (.f gRngL (.cons (.c (.int 21)) .nil))) .nil)) (.cmp gIs (.f r_law_parting (.cons (.v 2) (.cons (.v 4) (.cons (.v 11) (.cons (.c (.bool false)) .nil))))) (.c .none)) (.v 11) [11]))
  (.cons (.ife (.cmp gNe (.f (fun ds => (gNe ds).map .bool) (.cons (.v 10) (.cons (.o (.f gLst .nil)) .nil))) (.f (fun ds => (gIs ds).map .bool) (.cons (.f r_law_parting (.cons (.v 2) (.cons (.v 4) (.cons (.c .none) (.cons (.c (.bool false)) .nil))))) (.cons (.c .none) .nil)))) (.cons (.ret (.c (.bool false)))
    .nil) .nil)
  (.cons (.ret (.f r_law_alike_2 (.cons (.f r_least_gap_alike (.cons (.v 2) (.cons (.v 4) .nil))) (.cons (.ife (.cmp gNe (.v 10) (.o (.f gLst .nil))) (.f gIx (.cons (.v 10) (.cons (.c (.int 0)) .nil))) (.c .none)) .nil))))
  .nil))))))))))))
def r_law_k62 (ds : List D) : Option D := runD 13 i_law_k62 ds
abbrev sp_law_k62 (K : PySem.W.Frag) : Sp := spD K 1 fun ds d => r_law_k62 ds = some d
end PG
set_option Elab.async false
set_option linter.all false
set_option maxRecDepth 100000
set_option maxHeartbeats 4000000
namespace PG
open PySem PySem.Spec PyProof.Rows L2 DL DI
theorem evG_n (k : Nat) (d : D) (ρ : List Sl) : evG (.n k) d ρ = some (ρ.set k (.d d)) := rfl
theorem evG_t (gs : IGs) (ds : List D) (ρ : List Sl) : evG (.t gs) (.tuple ds) ρ = evGs gs ds ρ := rfl
theorem evGs_n (ρ : List Sl) : evGs .nil [] ρ = some ρ := rfl
theorem evGs_c (g : IG) (gs : IGs) (d : D) (ds : List D) (ρ : List Sl) : evGs (.cons g gs) (d :: ds) ρ = (evG g d ρ).bind fun ρ1 => evGs gs ds ρ1 := rfl
/-! what stands behind is reckoned when it is its turn -/
theorem bind_now {α β : Type} {o o' : Option α} {f : α → Option β} (h : o = o') : o.bind f = o'.bind f := by rw [h]
theorem map_now {α β : Type} {o o' : Option α} {f : α → β} (h : o = o') : o.map f = o'.map f := by rw [h]
theorem lc_now {f : D → List Sl → Option (Option D × List Sl)} {xs xs' : List D} {ρ ρ' : List Sl} (h : xs = xs') (h2 : ρ = ρ') : lcGo f xs ρ = lcGo f xs' ρ' := by rw [h, h2]
theorem lc2_now {f : D → List Sl → Option (List D × List Sl)} {xs xs' : List D} {ρ ρ' : List Sl} (h : xs = xs') (h2 : ρ = ρ') : lc2Go f xs ρ = lc2Go f xs' ρ' := by rw [h, h2]
theorem fo_now {f : D → List Sl → Option Out} {xs xs' : List D} {ρ ρ' : List Sl} (h : xs = xs') (h2 : ρ = ρ') : foGo f xs ρ = foGo f xs' ρ' := by rw [h, h2]
theorem wh_now {t : List Sl → Option (Bool × List Sl)} {f : List Sl → Option Out} {n : Nat} {ρ ρ' : List Sl} (h2 : ρ = ρ') : whGo t f n ρ = whGo t f n ρ' := by rw [h2]
/-! ### the script's row -/
structure Row where
  scr : List Int
  p : Int
  s : Int
  n : Int
def eRow (r : Row) : List D := [scrD (r.scr.map .int), .int r.p, .int r.s, .int r.n]
def cellM (r : Row) : Int := (r.scr[r.p.toNat]?).getD 0
def takenV (r : Row) (m : Int) : Int :=
  if 0 < r.n then r.n % m else if (r.scr.length : Int) < r.p + 1 then ((r.s * 48271 + 11) % 2147483647) / 7 % m else cellM r % m
def takenR (r : Row) (m : Int) : Row :=
  if 0 < r.n then { r with n := r.n / m } else if (r.scr.length : Int) < r.p + 1 then { r with p := r.p + 1, s := (r.s * 48271 + 11) % 2147483647 }
  else { r with p := r.p + 1, s := (r.s * 48271 + cellM r + 11) % 2147483647, n := if 10 ^ 18 ≤ cellM r then cellM r / m else r.n }
theorem atI0 {α : Type} (x : α) (l : List α) : atI (x :: l) 0 = some x := atI_nat (j := 0) (xs := _) rfl
theorem atI1 {α : Type} (x y : α) (l : List α) : atI (x :: y :: l) 1 = some y := atI_nat (j := 1) (xs := _) rfl
theorem atI2 {α : Type} (x y z : α) (l : List α) : atI (x :: y :: z :: l) 2 = some z := atI_nat (j := 2) (xs := _) rfl
theorem atI3 {α : Type} (x y z u : α) (l : List α) : atI (x :: y :: z :: u :: l) 3 = some u := atI_nat (j := 3) (xs := _) rfl
theorem gAdd_ii (i j : Int) : gAdd [.int i, .int j] = some (.int (i + j)) := rfl
theorem gSub_ii (i j : Int) : DI.gSub [.int i, .int j] = some (.int (i - j)) := rfl
theorem gAdd_LL {xs ys : List D} (h : xs.length + ys.length ≤ 1000000) : gAdd [.list xs, .list ys] = some (.list (xs ++ ys)) := if_pos h
theorem gAdd_TT {xs ys : List D} (h : xs.length + ys.length ≤ 1000000) : gAdd [.tuple xs, .tuple ys] = some (.tuple (xs ++ ys)) := if_pos h
theorem gAdd_SS {xs ys : Str} (h : xs.length + ys.length ≤ 1000000) : gAdd [.str xs, .str ys] = some (.str (xs ++ ys)) := if_pos h
theorem cdiv {i j : Int} (h : 0 < j) (h1 : j < 1073741824) : CDiv i j := ⟨h, h1⟩
local macro_rules | `(tactic| walk_at "ev") => `(tactic| simp [evSs, evS, evT, evE, evA, evO, evI, startS, args, ownAt, DI.putAt, Sl.own, Sl.put, gIxO, atI0, atI1, atI2, atI3, gGt, gLt, gLe, gGe, gInt, gMod, gDiv, gAdd_ii, gSub_ii, gMul, gPow, gLen, gIx, ixN, scrD, *])
theorem taken_run {r : Row} {m : Int} (h0 : 0 < m) (h1 : m < 1073741824) (hp : 0 ≤ r.p) : r_law_taken (eRow r) [.int m] = some (.int (takenV r m), eRow (takenR r m)) := by
  have c1 : ∀ i : Int, CDiv i m := fun i => cdiv h0 h1
  have c2 : ∀ i : Int, CDiv i 7 := fun i => cdiv (by decide) (by decide)
  have c3 : ∀ i : Int, CMul i 48271 := fun i => .inr ⟨by decide, by decide⟩
  have c4 : CPow 10 18 := by decide
  unfold r_law_taken runB i_law_taken eRow takenV takenR
  by_cases a : 0 < r.n
  · walk_at "ev"
  · by_cases b : (r.scr.length : Int) < r.p + 1
    · walk_at "ev"
    · have e : atI (r.scr.map PyData.int) r.p = some (.int (cellM r)) := by
        refine atI_map (f := PyData.int) hp ?_
        unfold cellM
        rw [List.getElem?_eq_getElem (by omega)]
        rfl
      by_cases c : (1000000000000000000 : Int) ≤ cellM r
      · walk_at "ev"
      · walk_at "ev"
theorem taken_lt {r : Row} {m : Int} (h : 0 < m) : 0 ≤ takenV r m ∧ takenV r m < m := by
  unfold takenV
  split
  · exact ⟨Int.emod_nonneg _ (by omega), Int.emod_lt_of_pos _ h⟩
  · split
    · exact ⟨Int.emod_nonneg _ (by omega), Int.emod_lt_of_pos _ h⟩
    · exact ⟨Int.emod_nonneg _ (by omega), Int.emod_lt_of_pos _ h⟩
theorem takenR_p {r : Row} {m : Int} (h : 0 ≤ r.p) : 0 ≤ (takenR r m).p := by
  unfold takenR
  split
  · exact h
  · split
    · show 0 ≤ r.p + 1; omega
    · show 0 ≤ r.p + 1; omega
/-! ### loops -/
theorem s_cons {s : IS} {ss : ISs} {ρ ρ1 : List Sl} (h : evS s ρ = some (.nx ρ1)) : evSs (.cons s ss) ρ = evSs ss ρ1 := by
  conv => lhs; unfold evSs
  rw [h]; rfl
theorem run_rt {n : Nat} {body : ISs} {ds : List D} {d : D} {ρ : List Sl} (h : evSs body (startS n (args ds)) = some (.rt d ρ)) : runD n body ds = some d := by
  unfold runD; rw [h]; rfl
theorem run_nx {n : Nat} {body : ISs} {ds : List D} {ρ : List Sl} (h : evSs body (startS n (args ds)) = some (.nx ρ)) : runD n body ds = some .none := by
  unfold runD; rw [h]; rfl
theorem runB_rt {n : Nat} {body : ISs} {rs ds rs' : List D} {d : D} {ρ : List Sl} (h : evSs body (startS n (.b (0 : Nat) rs :: args ds)) = some (.rt d (.b (0 : Nat) rs' :: ρ))) : runB n body rs ds = some (d, rs') := by
  unfold runB; rw [h]; rfl
theorem s_nil {ρ : List Sl} : evSs .nil ρ = some (.nx ρ) := rfl
theorem s_ret {e : IE} {ss : ISs} {ρ ρ1 : List Sl} {d : D} (h : evE e ρ = some (d, ρ1)) : evSs (.cons (.ret e) ss) ρ = some (.rt d ρ1) := by
  conv => lhs; unfold evSs
  unfold evS
  rw [h]; rfl
theorem fo_fold {α β : Type} {enc : α → D} {sl : β → List Sl} {step : β → α → β} {P : β → Prop} {f : D → List Sl → Option Out} : ∀ (as : List α) (b : β), P b → (∀ a ∈ as, ∀ b, P b → P (step b a) ∧ f (enc a) (sl b) = some (.nx (sl (step b a)))) →
    foGo f (as.map enc) (sl b) = some (.nx (sl (as.foldl step b)))
  | [], _, _, _ => rfl
  | a :: as, b, hb, h => by
    obtain ⟨h1, h2⟩ := h a List.mem_cons_self b hb
    unfold foGo
    rw [List.map_cons]
    simp only [h2, Option.bind_some]
    exact fo_fold as _ h1 fun c hc => h c (List.mem_cons_of_mem _ hc)
theorem lc_filter {α : Type} {enc g : α → D} {p : α → Bool} {ρ : List Sl} {f : D → List Sl → Option (Option D × List Sl)} : ∀ (as : List α), (∀ a ∈ as, f (enc a) ρ = some (if p a = true then some (g a) else none, ρ)) → lcGo f (as.map enc) ρ = some ((as.filter p).map g, ρ)
  | [], _ => rfl
  | a :: as, h => by
    have h1 := h a List.mem_cons_self
    have ih := lc_filter as fun c hc => h c (List.mem_cons_of_mem _ hc)
    rw [List.map_cons]
    unfold lcGo
    rw [h1, Option.bind_some, ih]
    cases hp : p a <;> simp [hp]
theorem lc_map {α : Type} {enc g : α → D} {ρ : List Sl} {f : D → List Sl → Option (Option D × List Sl)} (as : List α) (h : ∀ a ∈ as, f (enc a) ρ = some (some (g a), ρ)) : lcGo f (as.map enc) ρ = some (as.map g, ρ) := by
  have := lc_filter (f := f) (p := fun _ => true) (g := g) as (by simpa using h)
  rwa [List.filter_eq_self.mpr (by simp)] at this
theorem lc2_map {α : Type} {enc : α → D} {ys : α → List D} {ρ : List Sl} {f : D → List Sl → Option (List D × List Sl)} : ∀ (as : List α), (∀ a ∈ as, f (enc a) ρ = some (ys a, ρ)) → lc2Go f (as.map enc) ρ = some (as.flatMap ys, ρ)
  | [], _ => rfl
  | a :: as, h => by
    have h1 := h a List.mem_cons_self
    have ih := lc2_map as fun c hc => h c (List.mem_cons_of_mem _ hc)
    rw [List.map_cons]
    unfold lc2Go
    rw [h1, Option.bind_some, ih]
    simp
/-- draws: each turn changes the row -/
theorem lc_draw {α β : Type} {e : α → D} {sl : β → List Sl} {P : β → Prop} {Q : α → Prop} {f : D → List Sl → Option (Option D × List Sl)} : ∀ (xs : List D) (b : β), P b → (∀ x ∈ xs, ∀ b, P b → ∃ a b', f x (sl b) = some (some (e a), sl b') ∧ P b' ∧ Q a) →
    ∃ (as : List α) (b' : β), lcGo f xs (sl b) = some (as.map e, sl b') ∧ P b' ∧ as.length = xs.length ∧ ∀ a ∈ as, Q a
  | [], b, hb, _ => ⟨[], b, rfl, hb, rfl, fun a h => by cases h⟩
  | x :: xs, b, hb, h => by
    obtain ⟨a, b1, e1, p1, q1⟩ := h x List.mem_cons_self b hb
    obtain ⟨as, b2, e2, p2, l2, q2⟩ := lc_draw xs b1 p1 fun y hy => h y (List.mem_cons_of_mem _ hy)
    refine ⟨a :: as, b2, ?_, p2, by simp [l2], fun c hc => ?_⟩
    · unfold lcGo
      rw [e1, Option.bind_some, e2]
      rfl
    · rcases List.mem_cons.mp hc with z | z
      · rw [z]; exact q1
      · exact q2 c z
/-! ### the checks -/
theorem kb_ii : kitB "int" "int" = some true := by decide +kernel
theorem kb_ib : kitB "int" "bool" = some false := by decide +kernel
theorem kb_tt : kitB "tuple" "tuple" = some true := by decide +kernel
theorem isi_ii (i : Int) : gIsi "int" [.int i] = some (.bool true) := by show (kitB "int" "int").map _ = _; rw [kb_ii]; rfl
theorem isi_ib (i : Int) : gIsi "bool" [.int i] = some (.bool false) := by show (kitB "int" "bool").map _ = _; rw [kb_ib]; rfl
theorem isi_tt (xs : List D) : gIsi "tuple" [.tuple xs] = some (.bool true) := by show (kitB "tuple" "tuple").map _ = _; rw [kb_tt]; rfl
local macro_rules | `(tactic| walk_at "run") => `(tactic| simp [evSs, evS, evT, evE, evA, evO, evI, evG_n, evG_t, evGs_n, evGs_c, startS, args, ownAt, dicAt, DI.putAt, Sl.own, Sl.put, gIxO, atI0, atI1, atI2, atI3, gGt, gLt, gLe, gGe, gInt, gMod, gDiv, gAdd_ii, gSub_ii, gMul, gPow, gLen, gIx, ixN, isi_ii, isi_ib, isi_tt, gNot, gNeg, gSeq, DI.gTup, gLst, gTuple, gIs, gNis, isNo, wipeS, backS, Sl.kept, wipeO, -Option.map_bind, -Option.map_map, -Option.bind_fun_some, -Option.map_eq_map, -Option.bind_eq_bind, -Option.map_eq_some_iff, *])
theorem isint_run (i lo hi : Int) : r_is_integer [.int i, .int lo, .int hi] = some (.bool (decide (lo ≤ i) && decide (i ≤ hi))) := by
  unfold r_is_integer runD i_is_integer
  by_cases h1 : lo ≤ i <;> by_cases h2 : i ≤ hi <;> walk_at "run"
theorem pic_run (i : Int) : r_is_picture [.int i] = some (.bool (decide (0 ≤ i) && decide (i ≤ 99))) := by
  unfold r_is_picture runD i_is_picture
  have := isint_run i 0 99
  walk_at "run"
theorem all_true {α : Type} (as : List α) : gAll [.list (as.map fun _ => PyData.bool true)] = some (.bool true) := by
  have e : as.map (fun _ => PyData.bool true) = (as.map fun _ => true).map .bool := by simp
  show (bls (as.map fun _ => PyData.bool true)).map (fun bs => PyData.bool (bs.all id)) = _
  rw [e, bls_map]
  simp
def FilmOk (film : List Int) : Prop := film.length ≤ 1000 ∧ ∀ p ∈ film, 0 ≤ p ∧ p ≤ 99
theorem few_of {ys : List D} (h : ys.length < 1000000) : few ys = true := decide_eq_true h
theorem isfilm_run {film : List Int} (h : FilmOk film) : r_is_film [eT film] = some (.bool true) := by
  obtain ⟨hl, hp⟩ := h
  have hl' : ¬ (1000 : Int) < film.length := by omega
  have hz : few (film.map fun _ => PyData.bool true) = true := few_of (by rw [List.length_map]; omega)
  have ha := all_true film
  unfold r_is_film runD i_is_film
  walk_at "run"
  rw [lc_map (g := fun _ => PyData.bool true) film fun a ha => ?_]
  · walk_at "run"
  · have := pic_run a
    have := hp a ha
    walk_at "run"
theorem gEq_ints (a b : List Int) : gEq [.list (a.map .int), .list (b.map .int)] = some (decide (a = b)) := by
  show (if SeqAt.shaped (.list (a.map .int)) = true ∧ SeqAt.shaped (.list (b.map .int)) = true then some (PyData.eqv (.list (a.map .int)) (.list (b.map .int))) else none) = _
  rw [if_pos ⟨shaped_ints a, shaped_ints b⟩, eqv_ints]
theorem gSet_ints {a : List Int} (h : a.length < 64) : gSet [.list (a.map .int)] = some ((setI a).map .int) := by
  show (toI (a.map .int)).bind (fun ns => if ns.length < 64 then some ((iset ns).map PyData.int) else none) = _
  rw [toI_map, Option.bind_some, if_pos h, iset_eq]
theorem gSet_intsT {a : List Int} (h : a.length < 64) : gSet [.tuple (a.map .int)] = some ((setI a).map .int) := by
  show (toI (a.map .int)).bind (fun ns => if ns.length < 64 then some ((iset ns).map PyData.int) else none) = _
  rw [toI_map, Option.bind_some, if_pos h, iset_eq]
theorem gSort_ints {a : List Int} : gSort [.list (a.map .int)] = some ((sortI a).map .int) := by
  show (toI (a.map .int)).map (fun ns => (isort ns).map PyData.int) = _
  rw [toI_map, Option.map_some, isort_eq]
theorem gSort_intsT {a : List Int} : gSort [.tuple (a.map .int)] = some ((sortI a).map .int) := by
  show (toI (a.map .int)).map (fun ns => (isort ns).map PyData.int) = _
  rw [toI_map, Option.map_some, isort_eq]
theorem gList_T (xs : List D) : gList [.tuple xs] = some xs := rfl
theorem isasc_run {row : List Int} (h : row.length < 64) (hlt : row.Pairwise (· < ·)) : r_is_ascending [eT row] = some (.bool true) := by
  have hs := gSet_intsT (a := row) h
  rw [setI_of_lt hlt] at hs
  have he := gEq_ints row row
  have hr := gList_T (row.map .int)
  unfold r_is_ascending runD i_is_ascending
  walk_at "run"
theorem isrow_run {n : Int} {row : List Int} (h6 : row.length ≤ 6) (hne : row ≠ []) (hlt : row.Pairwise (· < ·)) (hin : ∀ s ∈ row, 0 ≤ s ∧ s < n) : r_is_next_row [eT row, .int n] = some (.bool true) := by
  have hl : ¬ ((row.length : Int) = 0) := fun z => hne (List.eq_nil_of_length_eq_zero (by omega))
  have hz : few (row.map fun _ => PyData.bool true) = true := few_of (by rw [List.length_map]; omega)
  have ha := all_true row
  have h0 : gEq [.int row.length, .int 0] = some false := by show some (decide ((row.length : Int) = 0)) = _; rw [decide_eq_false hl]
  have hasc := isasc_run (row := row) (by omega) hlt
  unfold r_is_next_row runD i_is_next_row
  walk_at "run"
  rw [lc_map (g := fun _ => PyData.bool true) row fun a ha => ?_]
  · walk_at "run"
  · have := isint_run a 0 (n - 1)
    have := hin a ha
    have : a ≤ n - 1 := by omega
    walk_at "run"
theorem nexts_run {r : Reel} (h : r.Ok) : r_are_nexts [eN r.nexts] = some (.bool true) := by
  have h1 := h.some
  have h6 := h.few
  have hz : few (r.nexts.map fun _ => PyData.bool true) = true := few_of (by rw [List.length_map]; omega)
  have ha := all_true r.nexts
  have c1 : (1 : Int) ≤ r.nexts.length := by omega
  have c2 : (r.nexts.length : Int) ≤ 6 := by omega
  unfold r_are_nexts runD i_are_nexts
  walk_at "run"
  rw [lc_map (enc := eT) (g := fun _ => PyData.bool true) r.nexts fun a ha => ?_]
  · walk_at "run"
  · have hr := h.row a ha
    have := isrow_run (n := r.nexts.length) (Nat.le_trans (lt_len hr.2.1 hr.2.2) h6) hr.1 hr.2.1 hr.2.2
    walk_at "run"
end PG
set_option Elab.async false
set_option linter.all false
set_option maxRecDepth 100000
set_option maxHeartbeats 4000000
namespace PG
open PySem PySem.Spec PyProof.Rows L2 DL DI
local macro_rules | `(tactic| walk_at "run") => `(tactic| simp [evSs, evS, evT, evE, evA, evO, evI, evG_n, evG_t, evGs_n, evGs_c, startS, args, ownAt, dicAt, DI.putAt, Sl.own, Sl.put, gIxO, atI0, atI1, atI2, atI3, gGt, gLt, gLe, gGe, gInt, gMod, gDiv, gAdd_ii, gSub_ii, gMul, gPow, gLen, gIx, ixN, isi_ii, isi_ib, isi_tt, gNot, gNeg, gSeq, DI.gTup, gLst, gTuple, gIs, gNis, isNo, wipeS, backS, Sl.kept, wipeO, -Option.map_bind, -Option.map_map, -Option.bind_fun_some, -Option.map_eq_map, -Option.bind_eq_bind, -Option.map_eq_some_iff, *])
theorem gEq_ii (a b : Int) : gEq [.int a, .int b] = some (decide (a = b)) := rfl
theorem gNe_ii (a b : Int) : gNe [.int a, .int b] = some (!decide (a = b)) := rfl
theorem _root_.DL.Reel.Ok.film2 {r : Reel} (h : r.Ok) : FilmOk r.pics := ⟨by rw [h.pl]; have := h.few; omega, h.pic⟩
theorem wrong_run {r : Reel} (h : r.Ok) : r_wrong_part [eReel r] = some .none := by
  have h1 := nexts_run h
  have h2 := isfilm_run h.film2
  have h3 := h.pl
  unfold r_wrong_part runD i_wrong_part
  have e1 := gNe_ii 2 2
  have e2 := gNe_ii r.nexts.length r.nexts.length
  walk_at "run"
theorem ckgap_run {g : Option Nat} (h : GapOk g) : r_check_gap [eGap g] = some .none := by
  unfold r_check_gap runD i_check_gap
  cases g with
  | none => simp only [eGap]; walk_at "run"
  | some n =>
    have h : n ≤ 20 := h
    have h1 := isint_run n 0 20
    have : (n : Int) ≤ 20 := by omega
    simp only [eGap]
    walk_at "run"
theorem ckfilm_run {film : List Int} (h : FilmOk film) : r_check_film [eT film] = some .none := by
  unfold r_check_film runD i_check_film
  have h1 := isfilm_run h
  walk_at "run"
abbrev eReels (rs : List Reel) : D := .tuple (rs.map eReel)
def ReelsOk (rs : List Reel) : Prop := 2 ≤ rs.length ∧ rs.length ≤ 6 ∧ ∀ r ∈ rs, r.Ok
theorem enum_map {α : Type} (e : α → D) : ∀ (as : List α), enumD (as.map e) = as.zipIdx.map fun p => .tuple [.int (p.2 : Nat), e p.1] := fun as => by
  rw [enumD_encs]
  have : ∀ (as : List α) (i : Nat), encs (fun i a => PyData.tuple [.int (i : Nat), e a]) i as = (as.zipIdx i).map fun p => .tuple [.int (p.2 : Nat), e p.1] := by
    intro as
    induction as with
    | nil => intro i; rfl
    | cons a as ih => intro i; rw [List.zipIdx_cons, List.map_cons, ← ih (i + 1)]; rfl
  exact this as 0
theorem zip_mem {α : Type} {as : List α} {p : α × Nat} (h : p ∈ as.zipIdx) : p.1 ∈ as := by
  obtain ⟨a, i⟩ := p
  have := List.mem_zipIdx h
  rw [this.2.2]
  exact List.getElem_mem _
theorem fo_same {α : Type} {enc : α → D} {ρ : List Sl} {f : D → List Sl → Option Out} (as : List α) (h : ∀ a ∈ as, f (enc a) ρ = some (.nx ρ)) : foGo f (as.map enc) ρ = some (.nx ρ) := by
  have := fo_fold (enc := enc) (sl := fun _ : Unit => ρ) (step := fun b _ => b) (P := fun _ => True) (f := f) as () trivial fun a ha b _ => ⟨trivial, h a ha⟩
  exact this
theorem ckreels_run {rs : List Reel} (h : ReelsOk rs) : r_check_reels [eReels rs] = some .none := by
  obtain ⟨h2, h6, hr⟩ := h
  have c1 : (2 : Int) ≤ rs.length := by omega
  have c2 : (rs.length : Int) ≤ 6 := by omega
  have he : gEnum [eReels rs] = some (rs.zipIdx.map fun p => .tuple [.int (p.2 : Nat), eReel p.1]) := by
    show some (enumD (rs.map eReel)) = _
    rw [enum_map]
  refine run_nx (ρ := [.d (eReels rs), .u, .u]) ?_
  unfold i_check_reels
  refine (s_cons (ρ1 := [.d (eReels rs), .u, .u]) ?_).trans ((s_cons (ρ1 := [.d (eReels rs), .u, .u]) ?_).trans s_nil)
  · walk_at "run"
  · unfold evS evI
    simp only [evA, evE, List.getElem?_cons_zero, Option.bind_some, Option.map_some, he]
    refine fo_same rs.zipIdx fun a ha => ?_
    have := wrong_run (hr a.1 (zip_mem ha))
    walk_at "run"
theorem ahead_run (r : Reel) : r_ahead_of_all [eReel r] = some (eL [(r.nexts.length : Int)]) := by
  unfold r_ahead_of_all runD i_ahead_of_all
  walk_at "run"
end PG
set_option Elab.async false
set_option linter.all false
set_option maxRecDepth 100000
set_option maxHeartbeats 4000000
namespace PG
open PySem PySem.Spec PyProof.Rows L2 DL DI
local macro_rules | `(tactic| walk_at "run") => `(tactic| simp [evSs, evS, evT, evE, evA, evO, evI, evG_n, evG_t, evGs_n, evGs_c, startS, args, ownAt, dicAt, DI.putAt, Sl.own, Sl.put, gIxO, atI0, atI1, atI2, atI3, gGt, gLt, gLe, gGe, gInt, gMod, gDiv, gAdd_ii, gSub_ii, gMul, gPow, gLen, gIx, ixN, isi_ii, isi_ib, isi_tt, gNot, gNeg, gSeq, DI.gTup, gLst, gTuple, gIs, gNis, isNo, wipeS, backS, Sl.kept, wipeO, -Option.map_bind, -Option.map_map, -Option.bind_fun_some, -Option.map_eq_map, -Option.bind_eq_bind, -Option.map_eq_some_iff, *])
theorem few_len {ys : List D} {n : Nat} (h : ys.length ≤ n) (hn : n < 1000000) : few ys = true := few_of (by omega)
theorem gRng1_nat {n : Nat} (h : n < 1000000) : gRng1 [.int (n : Nat)] = some (rangeD 0 n) := by
  show (if small n = true then some (rangeD 0 (n : Int).toNat) else none) = _
  rw [if_pos (small_of ⟨by omega, by omega⟩), Int.toNat_natCast]
theorem within_run {ns : List (List Int)} {st : List Int} {g : Option Nat} {b : Bool} (hns : NsOk ns) (hst : In ns.length st) (hs6 : st.length ≤ 6) (hg : GapOk g) : r_states_within [eN ns, if b then eT st else eL st, eGap g] = some (eL (withinM ns st g)) := by
  have hn : ∀ r ∈ ns, In ns.length r := fun r hr => (hns.row r hr).2
  have hn6 := hns.few
  generalize hst' : (if b then eT st else eL st : D) = st'
  let sl : List Int → List Sl := fun found => [.d (eN ns), .d st', .d (eGap g), .d (.int (g.getD ns.length : Nat)), .d (eL found), .u, .u, .u]
  refine run_rt (ρ := sl (withinM ns st g)) ?_
  unfold i_states_within
  refine (s_cons (ρ1 := [.d (eN ns), .d st', .d (eGap g), .d (.int (g.getD ns.length : Nat)), .u, .u, .u, .u]) ?_).trans ((s_cons (ρ1 := sl (sortI st)) ?_).trans ((s_cons (ρ1 := sl (withinM ns st g)) ?_).trans (s_ret ?_)))
  · cases g with
    | none => simp only [eGap]; walk_at "run"
    | some g => simp only [eGap]; walk_at "run"
  · have h1 := gSort_ints (a := st)
    have h2 := gSort_intsT (a := st)
    cases b with
    | true => subst hst'; walk_at "run"; rfl
    | false => subst hst'; walk_at "run"; rfl
  · have hg20 : g.getD ns.length ≤ 20 := by
      cases g with
      | none => simp; omega
      | some g => exact hg
    have e : withinM ns st g = (List.range (g.getD ns.length)).foldl (fun f _ => grow ns f) (sortI st) := by
      unfold withinM
      generalize sortI st = f0
      generalize g.getD ns.length = n
      have : ∀ (l : List Nat) (f : List Int), iter (grow ns) l.length f = l.foldl (fun f _ => grow ns f) f := by
        intro l
        induction l with
        | nil => intro f; rfl
        | cons a l ih => intro f; exact ih _
      rw [← this, List.length_range]
    rw [e]
    unfold evS evI
    have hr := gRng1_nat (n := g.getD ns.length) (by omega)
    simp only [evA, evE, sl, List.getElem?_cons_zero, List.getElem?_cons_succ, Option.bind_some, Option.map_some, hr, rangeD]
    refine fo_fold (P := fun f => In ns.length f ∧ f.length ≤ 6) (sl := sl) (List.range (g.getD ns.length)) (sortI st) ⟨fun s hs => hst s ((sortI_perm st).mem_iff.mp hs), by rw [(sortI_perm st).length_eq]; exact hs6⟩ fun i _ f hf => ⟨⟨grow_in hn hf.1, Nat.le_trans (grow_len hf.1 hn) hn6⟩, ?_⟩
    have hsz : (f.flatMap (nx ns)).length ≤ 36 := by
      have := flat_len (f := nx ns) (k := 6) (l := f) fun x _ => hns.nx6 x
      omega
    have hset := gSet_ints (a := f ++ f.flatMap (nx ns)) (by rw [List.length_append]; omega)
    have hfew := few_len (ys := (f.flatMap (nx ns)).map PyData.int) (n := 36) (by rw [List.length_map]; exact hsz) (by decide)
    have hadd : gAdd [.list (f.map PyData.int), .list ((f.flatMap (nx ns)).map PyData.int)] = some (.list ((f ++ f.flatMap (nx ns)).map PyData.int)) := by
      rw [gAdd_LL (by rw [List.length_map, List.length_map]; omega), List.map_append]
    simp only [sl]
    walk_at "run"
    rw [lc2_map (enc := .int) (ys := fun s => (nx ns s).map PyData.int) f fun a ha => ?_, ← List.map_flatMap]
    · simp only [Option.bind_some, hfew, if_true, hadd, hset, Option.map_some]
      rfl
    · have hin := hf.1 a ha
      have hix : atI (ns.map eT) a = some (eT (nx ns a)) := atI_map (f := eT) hin.1 (nx_at hin.1 hin.2)
      walk_at "run"
      rw [lc_map (enc := .int) (g := .int) (nx ns a) fun t ht => ?_]
      · simp only [Option.map_some, List.map_map]
        rfl
      · rfl
  · rfl
end PG
set_option Elab.async false
set_option linter.all false
set_option maxRecDepth 100000
set_option maxHeartbeats 4000000
namespace PG
open PySem PySem.Spec PyProof.Rows L2 DL DI
local macro_rules | `(tactic| walk_at "run") => `(tactic| simp [evSs, evS, evT, evE, evA, evO, evI, evG_n, evG_t, evGs_n, evGs_c, startS, args, ownAt, dicAt, DI.putAt, Sl.own, Sl.put, gIxO, atI0, atI1, atI2, atI3, gGt, gLt, gLe, gGe, gInt, gMod, gDiv, gAdd_ii, gSub_ii, gMul, gPow, gLen, gIx, ixN, isi_ii, isi_ib, isi_tt, gNot, gNeg, gSeq, DI.gTup, gLst, gTuple, gIs, gNis, isNo, wipeS, backS, Sl.kept, wipeO, -Option.map_bind, -Option.map_map, -Option.bind_fun_some, -Option.map_eq_map, -Option.bind_eq_bind, -Option.map_eq_some_iff, *])
theorem leaps_run {r : Reel} {g : Option Nat} (hr : r.Ok) (hg : GapOk g) : r_leaps [eReel r, eGap g] = some (eRows (leapsM r g)) := by
  refine run_rt (ρ := [.d (eReel r), .d (eGap g), .d (eN r.nexts), .d (.list (r.nexts.map fun row => eL (withinM r.nexts row g))), .u]) ?_
  unfold i_leaps
  have h6 := hr.few
  refine (s_cons (ρ1 := [.d (eReel r), .d (eGap g), .d (eN r.nexts), .u, .u]) ?_).trans ((s_cons (ρ1 := [.d (eReel r), .d (eGap g), .d (eN r.nexts), .d (.list (r.nexts.map fun row => eL (withinM r.nexts row g))), .u]) ?_).trans (s_ret ?_))
  · walk_at "run"
  · have hfew := few_len (ys := r.nexts.map fun row => eL (withinM r.nexts row g)) (n := 6) (by rw [List.length_map]; exact h6) (by decide)
    walk_at "run"
    rw [lc_map (enc := eT) (g := fun row => eL (withinM r.nexts row g)) r.nexts fun a ha => ?_]
    · simp only [Option.bind_some, hfew, if_true, Option.map_some]
      rfl
    · have hrow := hr.ns.row a ha
      have := within_run (ns := r.nexts) (st := a) (g := g) (b := true) hr.ns hrow.2 (Nat.le_trans (lt_len hrow.1 hrow.2) h6) hg
      rw [if_pos rfl] at this
      walk_at "run"
  · have hw := within_run (ns := r.nexts) (st := [0]) (g := g) (b := false) hr.ns (fun s hs => by rw [List.mem_singleton.mp hs]; have := hr.some; omega) (by simp) hg
    rw [if_neg Bool.false_ne_true] at hw
    have hw' : r_states_within [eN r.nexts, .list [.int 0], eGap g] = some (eL (withinM r.nexts [0] g)) := hw
    have hadd : gAdd [.list (r.nexts.map fun row => eL (withinM r.nexts row g)), .list [eL (withinM r.nexts [0] g)]] = some (eRows (leapsM r g)) := by
      rw [gAdd_LL (by simp only [List.length_map, List.length_cons, List.length_nil]; omega)]
      unfold leapsM
      simp
    walk_at "run"
theorem pic_at {r : Reel} (h : r.Ok) {a : Int} (ha : 0 ≤ a ∧ a < r.nexts.length) : r.pics[a.toNat]? = some (picAt r.pics a) := by
  unfold picAt
  have : a.toNat < r.pics.length := by rw [h.pl]; omega
  rw [List.getElem?_eq_getElem this]
  rfl
theorem next_run {r : Reel} {rows : List (List Int)} {st : List Int} {p : Int} (hr : r.Ok) (hrow : RowsOk r.nexts.length rows) (hst : StOk r.nexts.length st) : r_states_at_next [eReel r, eRows rows, eL st, .int p] = some (eL (stepM r rows st p)) := by
  have n6 := hr.few
  have st7 : st.length ≤ 7 := by have := lt_len hst.1 hst.2; omega
  have h6 : ∀ x, (nx rows x).length ≤ 6 := fun x => by
    rcases nx_mem (ns := rows) (s := x) with e | e
    · rw [e]; exact Nat.zero_le _
    · exact Nat.le_trans (lt_len (hrow.row _ e).1 (hrow.row _ e).2) n6
  refine run_rt (ρ := [.d (eReel r), .d (eRows rows), .d (eL st), .d (.int p), .d (eT r.pics), .u, .u]) ?_
  unfold i_states_at_next
  refine (s_cons (ρ1 := [.d (eReel r), .d (eRows rows), .d (eL st), .d (.int p), .d (eT r.pics), .u, .u]) ?_).trans (s_ret ?_)
  · walk_at "run"
  · have hl : ((st.flatMap (nx rows)).filter fun a => decide (picAt r.pics a = p)).length ≤ 42 := by
      have h1 := flat_len (f := nx rows) (k := 6) (l := st) fun x _ => h6 x
      have h2 := List.length_filter_le (fun a => decide (picAt r.pics a = p)) (st.flatMap (nx rows))
      omega
    have hset := gSet_ints (a := (st.flatMap (nx rows)).filter fun a => decide (picAt r.pics a = p)) (by omega)
    have hfew := few_len (ys := ((st.flatMap (nx rows)).filter fun a => decide (picAt r.pics a = p)).map PyData.int) (n := 42) (by rw [List.length_map]; exact hl) (by decide)
    walk_at "run"
    rw [lc2_map (enc := .int) (ys := fun s => ((nx rows s).filter fun a => decide (picAt r.pics a = p)).map PyData.int) st fun a ha => ?_, ← List.map_flatMap, ← List.filter_flatMap]
    · simp only [Option.bind_some, hfew, if_true, hset, Option.map_some]
      rfl
    · have hin := hst.2 a ha
      have hix : atI (rows.map eL) a = some (eL (nx rows a)) := atI_map (f := eL) hin.1 (nx_at hin.1 (by have := hin.2; rw [hrow.len]; exact this))
      walk_at "run"
      rw [lc_filter (enc := .int) (g := .int) (p := fun a => decide (picAt r.pics a = p)) (nx rows a) fun t ht => ?_]
      · simp only [Option.map_some]
        rfl
      · have hin : 0 ≤ t ∧ t < r.nexts.length := by
          rcases nx_mem (ns := rows) (s := a) with e | e
          · rw [e] at ht; cases ht
          · exact (hrow.row _ e).2 t ht
        have hpx : atI (r.pics.map PyData.int) t = some (.int (picAt r.pics t)) := atI_map (f := PyData.int) hin.1 (pic_at hr hin)
        have he := gEq_ii (picAt r.pics t) p
        by_cases hp : picAt r.pics t = p
        · rw [decide_eq_true hp] at he
          have he2 : gEq [.int p, .int p] = some true := by rw [gEq_ii]; simp
          walk_at "run"
        · rw [decide_eq_false hp] at he
          walk_at "run"
theorem fo_run {α β : Type} {enc : Nat → α → D} {sl : β → List Sl} {P : β → Prop} {go : Nat → β → α → Sum β D} {f : D → List Sl → Option Out} : ∀ (as : List α) (i : Nat) (b : β), P b →
    (∀ i, ∀ a ∈ as, ∀ b, P b → (∀ b', go i b a = .inl b' → P b' ∧ f (enc i a) (sl b) = some (.nx (sl b'))) ∧ (∀ d, go i b a = .inr d → ∃ ρ, f (enc i a) (sl b) = some (.rt d ρ))) →
    (∀ b', runGo go i as b = .inl b' → P b' ∧ foGo f (encs enc i as) (sl b) = some (.nx (sl b'))) ∧ (∀ d, runGo go i as b = .inr d → ∃ ρ, foGo f (encs enc i as) (sl b) = some (.rt d ρ))
  | [], i, b, hb, _ => ⟨fun b' e => (by cases e; exact ⟨hb, rfl⟩), fun d e => (by cases e)⟩
  | a :: as, i, b, hb, h => by
    obtain ⟨h1, h2⟩ := h i a List.mem_cons_self b hb
    unfold runGo encs foGo
    cases e : go i b a with
    | inl b1 =>
      obtain ⟨p1, x1⟩ := h1 b1 e
      obtain ⟨r1, r2⟩ := fo_run as (i + 1) b1 p1 fun j c hc => h j c (List.mem_cons_of_mem _ hc)
      rw [x1]
      exact ⟨fun b' q => r1 b' q, fun d q => r2 d q⟩
    | inr d =>
      obtain ⟨ρ, x1⟩ := h2 d e
      rw [x1]
      exact ⟨fun b' q => (by cases q), fun d' q => (by cases q; exact ⟨ρ, rfl⟩)⟩
theorem fo_run_at {α β : Type} {enc : Nat → α → D} {sl : β → List Sl} {P : β → Prop} {go : Nat → β → α → Sum β D} {f : D → List Sl → Option Out} {as : List α} {i : Nat} {b : β} {ρ0 : List Sl} {o : Option Out} (hfo : foGo f (encs enc i as) ρ0 = o) (h0 : ρ0 = sl b) (hb : P b)
    (h : ∀ i, ∀ a ∈ as, ∀ b, P b → (∀ b', go i b a = .inl b' → P b' ∧ f (enc i a) (sl b) = some (.nx (sl b'))) ∧ (∀ d, go i b a = .inr d → ∃ ρ, f (enc i a) (sl b) = some (.rt d ρ))) :
    (∀ b', runGo go i as b = .inl b' → P b' ∧ o = some (.nx (sl b'))) ∧ (∀ d, runGo go i as b = .inr d → ∃ ρ, o = some (.rt d ρ)) := by
  subst hfo h0
  exact fo_run as i b hb h
def ahead (r : Reel) : List Int := [(r.nexts.length : Int)]
theorem ahead_ok {r : Reel} (h : r.Ok) : StOk r.nexts.length (ahead r) := ⟨List.pairwise_singleton _ _, fun s hs => by
  rw [List.mem_singleton.mp hs]
  omega⟩
def goF (r : Reel) (rows : List (List Int)) (i : Nat) (st : List Int) (p : Int) : Sum (List Int) D := if stepM r rows st p = [] then .inr (.int (i : Nat)) else .inl (stepM r rows st p)
theorem run_goF (r : Reel) (rows : List (List Int)) : ∀ (film : List Int) (i : Nat) (st : List Int), (∀ b, runGo (goF r rows) i film st = .inl b → shownM r rows st film = film.length) ∧ (∀ d, runGo (goF r rows) i film st = .inr d → d = .int ((i + shownM r rows st film : Nat) : Int))
  | [], i, st => ⟨fun b _ => rfl, fun d e => (by cases e)⟩
  | p :: ps, i, st => by
    obtain ⟨h1, h2⟩ := run_goF r rows ps (i + 1) (stepM r rows st p)
    unfold runGo goF shownM
    by_cases e : stepM r rows st p = []
    · rw [if_pos e, if_pos e]
      exact ⟨fun b q => (by cases q), fun d q => (by cases q; rfl)⟩
    · rw [if_neg e, if_neg e]
      refine ⟨fun b q => ?_, fun d q => ?_⟩
      · rw [h1 b q, List.length_cons]; omega
      · rw [h2 d q]
        congr 1
        omega
def sh (r : Reel) (g : Option Nat) (film : List Int) : Nat := shownM r (leapsM r g) (ahead r) film
theorem s_fo {tg : IG} {it : II} {body ss : ISs} {vs : List Nat} {ρ ρ1 : List Sl} {xs : List D} (h : evI it ρ = some (xs, ρ1)) : evSs (.cons (.fo tg it body vs) ss) ρ = (foGo (fun x ρ => (evG tg x ρ).bind fun ρ1 => (evSs body ρ1).map (wipeO vs)) xs (wipeS ρ1 vs)).bind fun o => match o with
    | .nx ρ1 => evSs ss ρ1
    | o => some o := by
  conv => lhs; unfold evSs
  unfold evS
  rw [h]; rfl
theorem shown_run {r : Reel} {g : Option Nat} {film : List Int} (hr : r.Ok) (hg : GapOk g) : r_frames_shown [eReel r, eGap g, eT film] = some (.int (sh r g film : Nat)) := by
  have hrow := leaps_ok hr g
  have hl := leaps_run hr hg
  have ha := ahead_run r
  let sl : List Int → List Sl := fun x => [.d (eReel r), .d (eGap g), .d (eT film), .d (eRows (leapsM r g)), .d (eL x), .u, .u]
  have he : evI (.f gEnum (.cons (.v 2) .nil)) (sl (ahead r)) = some (encs (fun i p => .tuple [.int (i : Nat), .int p]) 0 film, sl (ahead r)) := by
    have : gEnum [eT film] = some (encs (fun i p => .tuple [.int (i : Nat), .int p]) 0 film) := by
      show some (enumD (film.map .int)) = _
      rw [enumD_encs]
    simp only [sl]
    walk_at "run"
  unfold r_frames_shown runD i_frames_shown
  rw [s_cons (ρ1 := [.d (eReel r), .d (eGap g), .d (eT film), .d (eRows (leapsM r g)), .u, .u, .u]) (by walk_at "run"), s_cons (ρ1 := sl (ahead r)) (by have ha' : r_ahead_of_all [eReel r] = some (.list [.int r.nexts.length]) := ha; walk_at "run"; rfl), s_fo he]
  generalize hfo : foGo _ _ _ = o
  obtain ⟨r1, r2⟩ := fo_run_at (sl := sl) (P := StOk r.nexts.length) (go := goF r (leapsM r g)) (b := ahead r) hfo rfl (ahead_ok hr) fun i p _ x hx => by
    have hn := next_run (p := p) hr hrow hx
    by_cases h : stepM r (leapsM r g) x p = []
    · have e1 : goF r (leapsM r g) i x p = .inr (.int (i : Nat)) := if_pos h
      refine ⟨fun b' q => (by rw [e1] at q; cases q), fun d q => ?_⟩
      rw [e1] at q
      cases q
      have h0 : gEq [.int 0, .int 0] = some true := rfl
      rw [h] at hn
      refine ⟨[.d (eReel r), .d (eGap g), .d (eT film), .d (eRows (leapsM r g)), .d (eL []), .d (.int (i : Nat)), .d (.int p)], ?_⟩
      simp only [sl]
      walk_at "run"
    · have e1 : goF r (leapsM r g) i x p = .inl (stepM r (leapsM r g) x p) := if_neg h
      refine ⟨fun b' q => ?_, fun d q => (by rw [e1] at q; cases q)⟩
      rw [e1] at q
      cases q
      have hne : ¬ (((stepM r (leapsM r g) x p).length : Int) = 0) := fun z => h (List.eq_nil_of_length_eq_zero (by omega))
      have h0 : gEq [.int (stepM r (leapsM r g) x p).length, .int 0] = some false := by rw [gEq_ii, decide_eq_false hne]
      refine ⟨step_ok hrow, ?_⟩
      simp only [sl]
      walk_at "run"
  clear hfo
  cases q : runGo (goF r (leapsM r g)) 0 film (ahead r) with
  | inl b =>
    have e1 := (run_goF r (leapsM r g) film 0 (ahead r)).1 b q
    have e1 : sh r g film = film.length := e1
    rw [(r1 b q).2, e1]
    simp only [sl]
    walk_at "run"
  | inr d =>
    have e1 := (run_goF r (leapsM r g) film 0 (ahead r)).2 d q
    rw [Nat.zero_add] at e1
    obtain ⟨ρ, l⟩ := r2 d q
    subst e1
    rw [l]
    rfl
end PG
set_option Elab.async false
set_option linter.all false
set_option maxRecDepth 100000
set_option maxHeartbeats 4000000
/-! states by steps: what can be reached -/
namespace PG
open PySem PySem.Spec PyProof.Rows L2 DL
/-- from s to t by so many steps -/
def Pt (ns : List (List Int)) : Nat → Int → Int → Prop
  | 0, s, t => s = t
  | i + 1, s, t => ∃ u, Pt ns i s u ∧ t ∈ nx ns u
theorem pt_head {ns : List (List Int)} {s t : Int} : ∀ {i : Nat}, Pt ns (i + 1) s t ↔ ∃ u ∈ nx ns s, Pt ns i u t
  | 0 => ⟨fun ⟨u, h, h2⟩ => by cases h; exact ⟨t, h2, rfl⟩, fun ⟨u, h, h2⟩ => by cases h2; exact ⟨s, rfl, h⟩⟩
  | i + 1 => ⟨fun ⟨u, h, h2⟩ => by
      obtain ⟨v, h3, h4⟩ := pt_head.mp h
      exact ⟨v, h3, u, h4, h2⟩, fun ⟨v, h3, u, h4, h2⟩ => ⟨u, pt_head.mpr ⟨v, h3, h4⟩, h2⟩⟩
theorem pt_add {ns : List (List Int)} {s u t : Int} {i : Nat} (h : Pt ns i s u) : ∀ {j : Nat}, Pt ns j u t → Pt ns (i + j) s t
  | 0, q => by cases q; exact h
  | j + 1, ⟨v, q1, q2⟩ => ⟨v, pt_add h q1, q2⟩
theorem mem_grow {ns : List (List Int)} {f : List Int} {t : Int} : t ∈ grow ns f ↔ t ∈ f ∨ ∃ s ∈ f, t ∈ nx ns s := by
  unfold grow
  rw [mem_setI, List.mem_append, List.mem_flatMap]
theorem iter_succ {α : Type} (f : α → α) : ∀ (n : Nat) (x : α), iter f (n + 1) x = f (iter f n x)
  | 0, _ => rfl
  | n + 1, x => by
    show iter f (n + 1) (f x) = _
    rw [iter_succ f n (f x)]
    rfl
theorem mem_iter {ns : List (List Int)} {st : List Int} {t : Int} : ∀ {k : Nat}, t ∈ iter (grow ns) k st ↔ ∃ i, i ≤ k ∧ ∃ s ∈ st, Pt ns i s t := by
  intro k
  induction k generalizing t with
  | zero => exact ⟨fun h => ⟨0, Nat.le_refl _, t, h, rfl⟩, fun ⟨i, hi, s, hs, p⟩ => by
      obtain rfl : i = 0 := by omega
      cases p
      exact hs⟩
  | succ k ih =>
    rw [iter_succ, mem_grow]
    constructor
    · rintro (h | ⟨u, h, hn⟩)
      · obtain ⟨i, hi, s, hs, p⟩ := ih.mp h
        exact ⟨i, by omega, s, hs, p⟩
      · obtain ⟨i, hi, s, hs, p⟩ := ih.mp h
        exact ⟨i + 1, by omega, s, hs, u, p, hn⟩
    · rintro ⟨i, hi, s, hs, p⟩
      by_cases hk : i ≤ k
      · exact .inl (ih.mpr ⟨i, hk, s, hs, p⟩)
      · obtain rfl : i = k + 1 := by omega
        obtain ⟨u, p1, p2⟩ := p
        exact .inr ⟨u, ih.mpr ⟨k, Nat.le_refl _, s, hs, p1⟩, p2⟩
/-- ascending lists one in the other, of one length -/
theorem sub_list : ∀ {ys xs : List Int}, xs.Pairwise (· < ·) → ys.Pairwise (· < ·) → (∀ x ∈ xs, x ∈ ys) → xs.Sublist ys
  | [], [], _, _, _ => .slnil
  | [], x :: xs, _, _, h => by cases h x List.mem_cons_self
  | y :: ys, [], _, _, _ => List.nil_sublist _
  | y :: ys, x :: xs, hx, hy, h => by
    have hx' := List.pairwise_cons.mp hx
    have hy' := List.pairwise_cons.mp hy
    by_cases e : x = y
    · subst e
      refine .cons₂ _ (sub_list hx'.2 hy'.2 fun z hz => ?_)
      rcases List.mem_cons.mp (h z (List.mem_cons_of_mem _ hz)) with q | q
      · have := hx'.1 z hz; omega
      · exact q
    · have hxy : x ∈ ys := (List.mem_cons.mp (h x List.mem_cons_self)).resolve_left e
      have hlt := hy'.1 x hxy
      refine .cons _ (sub_list hx hy'.2 fun z hz => ?_)
      rcases List.mem_cons.mp (h z hz) with q | q
      · rcases List.mem_cons.mp hz with q2 | q2
        · omega
        · have := hx'.1 z q2; omega
      · exact q
theorem sub_eq {xs ys : List Int} (hx : xs.Pairwise (· < ·)) (hy : ys.Pairwise (· < ·)) (hs : ∀ x ∈ xs, x ∈ ys) (hl : ys.length ≤ xs.length) : xs = ys := (sub_list hx hy hs).eq_of_length_le hl
theorem grow_sub {ns : List (List Int)} {f : List Int} : ∀ x ∈ f, x ∈ grow ns f := fun x h => mem_grow.mpr (.inl h)
/-- nothing new comes behind as many steps as there are states -/
theorem iter_stable {ns : List (List Int)} (hn : ∀ r ∈ ns, In ns.length r) {st : List Int} (hst : In ns.length st) : ∀ k, ns.length ≤ k → iter (grow ns) (k + 1) (setI st) = iter (grow ns) k (setI st) := by
  have hin : ∀ k, In ns.length (iter (grow ns) k (setI st)) := fun k => iter_inv (fun x hx => grow_in hn hx) (fun s hs => hst s (mem_setI.mp hs)) k
  have hlt : ∀ k, (iter (grow ns) k (setI st)).Pairwise (· < ·) := fun k => iter_lt k (setI_lt _)
  have key : ∀ k, iter (grow ns) (k + 1) (setI st) = iter (grow ns) k (setI st) ∨ k < (iter (grow ns) (k + 1) (setI st)).length := by
    intro k
    induction k with
    | zero =>
      by_cases e : (iter (grow ns) 1 (setI st)).length = 0
      · refine .inl ?_
        have h0 : iter (grow ns) 1 (setI st) = [] := List.eq_nil_of_length_eq_zero e
        have h1 : setI st = [] := List.eq_nil_iff_forall_not_mem.mpr fun x hx => by
          have := grow_sub (ns := ns) x hx
          rw [show grow ns (setI st) = iter (grow ns) 1 (setI st) from rfl, h0] at this
          cases this
        rw [h0]
        exact h1.symm
      · exact .inr (Nat.pos_of_ne_zero e)
    | succ k ih =>
      rcases ih with ih | ih
      · refine .inl ?_
        rw [iter_succ (grow ns) (k + 1), ih]
        exact (iter_succ (grow ns) k _).symm.trans ih
      · by_cases e : iter (grow ns) (k + 1 + 1) (setI st) = iter (grow ns) (k + 1) (setI st)
        · exact .inl e
        · refine .inr ?_
          have hsub : ∀ x ∈ iter (grow ns) (k + 1) (setI st), x ∈ iter (grow ns) (k + 1 + 1) (setI st) := fun x hx => by
            rw [iter_succ (grow ns) (k + 1)]
            exact grow_sub x hx
          have : ¬ (iter (grow ns) (k + 1 + 1) (setI st)).length ≤ (iter (grow ns) (k + 1) (setI st)).length := fun h => e (sub_eq (hlt _) (hlt _) hsub h).symm
          omega
  intro k hk
  rcases key k with h | h
  · exact h
  · have := lt_len (hlt (k + 1)) (hin (k + 1))
    omega
theorem iter_same {ns : List (List Int)} (hn : ∀ r ∈ ns, In ns.length r) {st : List Int} (hst : In ns.length st) : ∀ d, iter (grow ns) (ns.length + d) (setI st) = iter (grow ns) ns.length (setI st)
  | 0 => rfl
  | d + 1 => by
    rw [← iter_same hn hst d]
    exact iter_stable hn hst (ns.length + d) (by omega)
theorem pt_short {ns : List (List Int)} (hn : ∀ r ∈ ns, In ns.length r) {st : List Int} (hst : In ns.length st) {t : Int} {i : Nat} (h : ∃ s ∈ st, Pt ns i s t) : ∃ j, j ≤ ns.length ∧ ∃ s ∈ st, Pt ns j s t := by
  obtain ⟨s, hs, p⟩ := h
  have h1 : t ∈ iter (grow ns) (ns.length + i) (setI st) := mem_iter.mpr ⟨i, by omega, s, mem_setI.mpr hs, p⟩
  rw [iter_same hn hst] at h1
  obtain ⟨j, hj, s, hs, p⟩ := mem_iter.mp h1
  exact ⟨j, hj, s, mem_setI.mp hs, p⟩
theorem reach_eq {ns : List (List Int)} (hn : ∀ r ∈ ns, In ns.length r) {st : List Int} (hst : In ns.length st) {a b : Nat} (hab : a = b ∨ (ns.length ≤ a ∧ ns.length ≤ b)) {t : Int} : (∃ i, i ≤ a ∧ ∃ s ∈ st, Pt ns i s t) ↔ ∃ i, i ≤ b ∧ ∃ s ∈ st, Pt ns i s t := by
  rcases hab with rfl | ⟨ha, hb⟩
  · exact Iff.rfl
  · constructor
    · rintro ⟨i, _, h⟩
      obtain ⟨j, hj, h⟩ := pt_short hn hst h
      exact ⟨j, by omega, h⟩
    · rintro ⟨i, _, h⟩
      obtain ⟨j, hj, h⟩ := pt_short hn hst h
      exact ⟨j, by omega, h⟩
/-- as many steps as a law takes -/
def farN : Option Nat → Nat
  | none => 8
  | some g => if g < 8 then g else 8
theorem farN_le (g : Option Nat) : farN g ≤ 8 := by
  cases g with
  | none => exact Nat.le_refl _
  | some g =>
    show (if g < 8 then g else 8) ≤ 8
    by_cases h : g < 8
    · rw [if_pos h]; omega
    · rw [if_neg h]; omega
theorem far_gap {n : Nat} (hn : n ≤ 6) (g : Option Nat) : g.getD n = farN g ∨ (n ≤ g.getD n ∧ n ≤ farN g) := by
  cases g with
  | none => exact .inr ⟨Nat.le_refl _, by show n ≤ 8; omega⟩
  | some g =>
    unfold farN
    simp only [Option.getD_some]
    split <;> omega
theorem mem_within {ns : List (List Int)} {st : List Int} {g : Option Nat} {t : Int} : t ∈ withinM ns st g ↔ ∃ i, i ≤ g.getD ns.length ∧ ∃ s ∈ st, Pt ns i s t := by
  unfold withinM
  rw [mem_iter]
  exact ⟨fun ⟨i, hi, s, hs, p⟩ => ⟨i, hi, s, (sortI_perm st).mem_iff.mp hs, p⟩, fun ⟨i, hi, s, hs, p⟩ => ⟨i, hi, s, (sortI_perm st).mem_iff.mpr hs, p⟩⟩
section
variable {rl : Reel} {g : Option Nat}
def St (rl : Reel) (s : Int) : Prop := 0 ≤ s ∧ s < rl.nexts.length
theorem zero_in (h : rl.Ok) : In rl.nexts.length [0] := fun s hs => by
  rw [List.mem_singleton.mp hs]
  have := h.some
  omega
theorem rows_in (h : rl.Ok) : ∀ r ∈ rl.nexts, In rl.nexts.length r := fun r hr => (h.row r hr).2.2
theorem nx_of (h : rl.Ok) {s : Int} (hs : St rl s) : nx rl.nexts s ∈ rl.nexts := List.mem_of_getElem? (nx_at hs.1 hs.2)
theorem nx_in (h : rl.Ok) (s : Int) : In rl.nexts.length (nx rl.nexts s) := by
  rcases nx_mem (ns := rl.nexts) (s := s) with e | e
  · rw [e]; exact fun t ht => by cases ht
  · exact rows_in h _ e
theorem rows_at {s : Int} (hs : St rl s) : nx (leapsM rl g) s = withinM rl.nexts (nx rl.nexts s) g := by
  have hlt : s.toNat < rl.nexts.length := by have := hs.1; have := hs.2; omega
  unfold nx leapsM
  rw [List.getElem?_append_left (by rw [List.length_map]; exact hlt), List.getElem?_map, List.getElem?_eq_getElem hlt]
  rfl
theorem rows_last : nx (leapsM rl g) (rl.nexts.length : Int) = withinM rl.nexts [0] g := by
  unfold nx leapsM
  rw [List.getElem?_append_right (by rw [List.length_map]; omega)]
  simp
theorem mem_step {rows : List (List Int)} {here : List Int} {p t : Int} : t ∈ stepM rl rows here p ↔ (∃ s ∈ here, t ∈ nx rows s) ∧ picAt rl.pics t = p := by
  unfold stepM
  rw [mem_setI, List.mem_filter, List.mem_flatMap, decide_eq_true_iff]
/-! the second way of the laws: new ones behind the old ones -/
def bey2 (ns : List (List Int)) (st : List Int) : List Int := st.foldl (fun f s => f ++ (nx ns s).filter fun t => !decide (t ∈ f)) []
def with2 (ns : List (List Int)) (here : List Int) (far : Nat) : List Int × List Int := (List.range far).foldl (fun b _ => (bey2 ns b.1, b.2 ++ (bey2 ns b.1).filter fun t => !decide (t ∈ b.2))) (here, here)
theorem bey2_fold {ns : List (List Int)} (hs : ∀ s, (nx ns s).Nodup) : ∀ (st f : List Int), f.Nodup → (st.foldl (fun f s => f ++ (nx ns s).filter fun t => !decide (t ∈ f)) f).Nodup ∧ ∀ t, t ∈ st.foldl (fun f s => f ++ (nx ns s).filter fun t => !decide (t ∈ f)) f ↔ t ∈ f ∨ ∃ s ∈ st, t ∈ nx ns s
  | [], f, hf => ⟨hf, fun t => by simp⟩
  | s :: st, f, hf => by
    have hn : (f ++ (nx ns s).filter fun t => !decide (t ∈ f)).Nodup := by
      refine List.nodup_append.mpr ⟨hf, (hs s).filter _, fun a ha b hb e => ?_⟩
      subst e
      have := (List.mem_filter.mp hb).2
      simp [ha] at this
    obtain ⟨h1, h2⟩ := bey2_fold hs st _ hn
    refine ⟨h1, fun t => ?_⟩
    rw [List.foldl_cons, h2 t, List.mem_append, List.mem_filter]
    by_cases hm : t ∈ f <;> simp [hm]
theorem mem_bey2 {ns : List (List Int)} (hs : ∀ s, (nx ns s).Nodup) {st : List Int} {t : Int} : t ∈ bey2 ns st ↔ ∃ s ∈ st, t ∈ nx ns s := by
  unfold bey2
  rw [(bey2_fold hs st [] .nil).2 t]
  simp
theorem bey2_nodup {ns : List (List Int)} (hs : ∀ s, (nx ns s).Nodup) (st : List Int) : (bey2 ns st).Nodup := (bey2_fold hs st [] .nil).1
theorem with2_fold {ns : List (List Int)} (hs : ∀ s, (nx ns s).Nodup) {here : List Int} (hh : here.Nodup) : ∀ n : Nat, (∀ t, t ∈ (with2 ns here n).1 ↔ ∃ s ∈ here, Pt ns n s t) ∧ (with2 ns here n).2.Nodup ∧ ∀ t, t ∈ (with2 ns here n).2 ↔ ∃ i, i ≤ n ∧ ∃ s ∈ here, Pt ns i s t
  | 0 => by
    refine ⟨fun t => ⟨fun h => ⟨t, h, rfl⟩, fun ⟨s, h, e⟩ => by cases e; exact h⟩, hh, fun t => ⟨fun h => ⟨0, Nat.le_refl _, t, h, rfl⟩, fun ⟨i, hi, s, h, e⟩ => ?_⟩⟩
    obtain rfl : i = 0 := by omega
    cases e
    exact h
  | n + 1 => by
    obtain ⟨h1, h2, h3⟩ := with2_fold hs hh n
    have e : with2 ns here (n + 1) = (bey2 ns (with2 ns here n).1, (with2 ns here n).2 ++ (bey2 ns (with2 ns here n).1).filter fun t => !decide (t ∈ (with2 ns here n).2)) := by
      unfold with2
      rw [List.range_succ, List.foldl_append]
      rfl
    rw [e]
    have hb : ∀ t, t ∈ bey2 ns (with2 ns here n).1 ↔ ∃ s ∈ here, Pt ns (n + 1) s t := fun t => by
      rw [mem_bey2 hs]
      constructor
      · rintro ⟨u, hu, ht⟩
        obtain ⟨s, hs', p⟩ := (h1 u).mp hu
        exact ⟨s, hs', u, p, ht⟩
      · rintro ⟨s, hs', u, p, ht⟩
        exact ⟨u, (h1 u).mpr ⟨s, hs', p⟩, ht⟩
    refine ⟨hb, List.nodup_append.mpr ⟨h2, (bey2_nodup hs _).filter _, fun a ha b hb' e => ?_⟩, fun t => ?_⟩
    · subst e
      have := (List.mem_filter.mp hb').2
      simp [ha] at this
    · show t ∈ _ ++ _ ↔ _
      rw [List.mem_append, List.mem_filter, hb t]
      constructor
      · rintro (q | ⟨q, _⟩)
        · obtain ⟨i, hi, q⟩ := (h3 t).mp q
          exact ⟨i, by omega, q⟩
        · exact ⟨n + 1, Nat.le_refl _, q⟩
      · rintro ⟨i, hi, q⟩
        by_cases hn : i ≤ n
        · exact .inl ((h3 t).mpr ⟨i, hn, q⟩)
        · obtain rfl : i = n + 1 := by omega
          by_cases hm : t ∈ (with2 ns here n).2
          · exact .inl hm
          · exact .inr ⟨q, by simp [hm]⟩
theorem nx_nodup (h : rl.Ok) (s : Int) : (nx rl.nexts s).Nodup := by
  rcases nx_mem (ns := rl.nexts) (s := s) with e | e
  · rw [e]; exact .nil
  · exact (h.row _ e).2.1.imp fun h => by omega
/-- states once each are few -/
theorem nodup_few {n : Nat} {xs : List Int} (hn : xs.Nodup) (hi : In n xs) : xs.length ≤ n := by
  have h1 : (setI xs).length ≤ n := lt_len (setI_lt xs) fun s hs => hi s (mem_setI.mp hs)
  have h2 : (setI xs).Perm xs := (List.perm_ext_iff_of_nodup ((setI_lt xs).imp fun h => by omega) hn).mpr fun a => mem_setI
  rw [← h2.length_eq]
  exact h1
/-- where the next frame may be, as the laws say it -/
def may2 (rl : Reel) (g : Option Nat) : Option (List Int) → List Int
  | none => (with2 rl.nexts [0] (farN g)).2
  | some here => (with2 rl.nexts (bey2 rl.nexts here) (farN g)).2
def see2 (rl : Reel) (g : Option Nat) (here : Option (List Int)) (p : Int) : List Int := sortI ((may2 rl g here).filter fun s => decide (picAt rl.pics s = p))
theorem may2_nodup (h : rl.Ok) (here : Option (List Int)) : (may2 rl g here).Nodup := by
  cases here with
  | none => exact (with2_fold (nx_nodup h) (List.nodup_cons.mpr ⟨by simp, .nil⟩) _).2.1
  | some here => exact (with2_fold (nx_nodup h) (bey2_nodup (nx_nodup h) here) _).2.1
theorem mem_may0 (h : rl.Ok) {t : Int} : t ∈ may2 rl g none ↔ t ∈ nx (leapsM rl g) (rl.nexts.length : Int) := by
  rw [rows_last, mem_within]
  refine ((with2_fold (nx_nodup h) (List.nodup_cons.mpr ⟨by simp, .nil⟩) _).2.2 t).trans ?_
  exact (reach_eq (rows_in h) (zero_in h) (far_gap h.few g)).symm
theorem bey2_in (h : rl.Ok) (here : List Int) : In rl.nexts.length (bey2 rl.nexts here) := fun t ht => by
  obtain ⟨s, _, hs⟩ := (mem_bey2 (nx_nodup h)).mp ht
  exact nx_in h s t hs
theorem mem_may1 (h : rl.Ok) {here : List Int} (hh : In rl.nexts.length here) {t : Int} : t ∈ may2 rl g (some here) ↔ ∃ s ∈ here, t ∈ nx (leapsM rl g) s := by
  refine ((with2_fold (nx_nodup h) (bey2_nodup (nx_nodup h) here) _).2.2 t).trans ?_
  rw [(reach_eq (rows_in h) (bey2_in h here) (far_gap h.few g)).symm]
  constructor
  · rintro ⟨i, hi, u, hu, p⟩
    obtain ⟨s, hs, hu⟩ := (mem_bey2 (nx_nodup h)).mp hu
    refine ⟨s, hs, ?_⟩
    rw [rows_at (hh s hs), mem_within]
    exact ⟨i, hi, u, hu, p⟩
  · rintro ⟨s, hs, ht⟩
    rw [rows_at (hh s hs), mem_within] at ht
    obtain ⟨i, hi, u, hu, p⟩ := ht
    exact ⟨i, hi, u, (mem_bey2 (nx_nodup h)).mpr ⟨s, hs, hu⟩, p⟩
theorem see_lt (h : rl.Ok) {here : Option (List Int)} {p : Int} : (see2 rl g here p).Pairwise (· < ·) := by
  have hn : (see2 rl g here p).Nodup := (sortI_perm _).nodup_iff.mpr ((may2_nodup h here).filter _)
  refine List.Pairwise.imp₂ (fun a b h1 h2 => ?_) (sortI_sorted _) hn
  exact Int.lt_iff_le_and_ne.mpr ⟨h1, h2⟩
theorem see_first (h : rl.Ok) (p : Int) : see2 rl g none p = stepM rl (leapsM rl g) [(rl.nexts.length : Int)] p := by
  refine lt_one (see_lt h) (setI_lt _) fun t => ?_
  unfold see2
  rw [(sortI_perm _).mem_iff, List.mem_filter, decide_eq_true_iff, mem_may0 h, mem_step]
  simp
theorem see_next (h : rl.Ok) {here : List Int} (hh : In rl.nexts.length here) (p : Int) : see2 rl g (some here) p = stepM rl (leapsM rl g) here p := by
  refine lt_one (see_lt h) (setI_lt _) fun t => ?_
  unfold see2
  rw [(sortI_perm _).mem_iff, List.mem_filter, decide_eq_true_iff, mem_may1 h hh, mem_step]
def stands2 (rl : Reel) (g : Option Nat) (film : List Int) : Option (List Int) := film.foldl (fun here p => some (see2 rl g here p)) none
theorem stands_fold (h : rl.Ok) : ∀ (film here : List Int), In rl.nexts.length here → film.foldl (fun here p => some (see2 rl g here p)) (some here) = some (film.foldl (stepM rl (leapsM rl g)) here)
  | [], _, _ => rfl
  | p :: film, here, hh => by
    rw [List.foldl_cons, List.foldl_cons, see_next h hh]
    exact stands_fold h film _ (step_in (leaps_ok h g))
theorem stands_eq (h : rl.Ok) (film : List Int) : stands2 rl g film = if film = [] then none else some (behindM rl (leapsM rl g) [(rl.nexts.length : Int)] film) := by
  cases film with
  | nil => rfl
  | cons p film =>
    rw [if_neg (by simp)]
    show film.foldl _ (some (see2 rl g none p)) = _
    rw [see_first h, stands_fold h film _ (step_in (leaps_ok h g))]
    rfl
/-- how many frames can be shown: at least k exactly if k frames can -/
theorem shown_ge (rows : List (List Int)) (hz : ∀ p, stepM rl rows [] p = []) : ∀ (film st : List Int) (k : Nat), k ≤ film.length → (k ≤ shownM rl rows st film ↔ (film.take k = [] ∨ (film.take k).foldl (stepM rl rows) st ≠ []))
  | film, st, 0, _ => by simp
  | [], st, k + 1, h => by simp at h
  | p :: film, st, k + 1, h => by
    have hk : k ≤ film.length := by simpa using h
    unfold shownM
    rw [List.take_succ_cons, List.foldl_cons]
    by_cases e : stepM rl rows st p = []
    · rw [if_pos e, e]
      have : ∀ l : List Int, l.foldl (stepM rl rows) [] = [] := fun l => by
        induction l with
        | nil => rfl
        | cons a l ih => rw [List.foldl_cons, hz, ih]
      rw [this]
      simp
    · rw [if_neg e]
      have ih := shown_ge rows hz film (stepM rl rows st p) k hk
      constructor
      · intro q
        refine .inr ?_
        rcases ih.mp (by omega) with q | q
        · rw [q]; exact e
        · exact q
      · rintro (q | q)
        · cases q
        · have := ih.mpr (.inr q)
          omega
theorem step_nil (rows : List (List Int)) (p : Int) : stepM rl rows [] p = [] := by
  have : ∀ t, t ∉ stepM rl rows [] p := fun t ht => by
    obtain ⟨⟨s, hs, _⟩, _⟩ := mem_step.mp ht
    cases hs
  exact List.eq_nil_iff_forall_not_mem.mpr this
end
end PG
set_option Elab.async false
set_option linter.all false
set_option maxRecDepth 100000
set_option maxHeartbeats 4000000
namespace PG
open PySem PySem.Spec PyProof.Rows L2 DL DI
local macro_rules | `(tactic| walk_at "run") => `(tactic| simp [evSs, evS, evT, evE, evA, evO, evI, evG_n, evG_t, evGs_n, evGs_c, startS, args, ownAt, dicAt, DI.putAt, Sl.own, Sl.put, gIxO, atI0, atI1, atI2, atI3, gGt, gLt, gLe, gGe, gInt, gMod, gDiv, gAdd_ii, gSub_ii, gMul, gPow, gLen, gIx, ixN, isi_ii, isi_ib, isi_tt, gNot, gNeg, gSeq, DI.gTup, gLst, gTuple, gIs, gNis, isNo, wipeS, backS, Sl.kept, wipeO, -Option.map_bind, -Option.map_map, -Option.bind_fun_some, -Option.map_eq_map, -Option.bind_eq_bind, -Option.map_eq_some_iff, *])
/-! ### draws -/
theorem pick_run {r : Row} {xs : List D} (hp : 0 ≤ r.p) (h0 : 0 < xs.length) (h1 : xs.length < 1000) : ∃ x ∈ xs, r_law_pick (eRow r) [.list xs] = some (x, eRow (takenR r xs.length)) := by
  have ht := taken_run (r := r) (m := xs.length) (by omega) (by omega) hp
  have hl := taken_lt (r := r) (m := xs.length) (by omega)
  have hlt : (takenV r xs.length).toNat < xs.length := by omega
  refine ⟨xs[(takenV r xs.length).toNat], List.getElem_mem hlt, ?_⟩
  have e : (((takenV r xs.length).toNat : Nat) : Int) = takenV r xs.length := by omega
  have hat : atI xs (((takenV r xs.length).toNat : Nat) : Int) = some xs[(takenV r xs.length).toNat] := atI_nat (List.getElem?_eq_getElem hlt)
  rw [e] at hat
  refine runB_rt (ρ := [.d (.list xs)]) ?_
  unfold i_law_pick
  refine s_ret ?_
  walk_at "run"
theorem gap2_run {r : Row} (hp : 0 ≤ r.p) : ∃ g r', GapOk g ∧ 0 ≤ r'.p ∧ r_law_gap_2 (eRow r) [] = some (eGap g, eRow r') := by
  obtain ⟨x, hx, e⟩ := pick_run (r := r) (xs := [.int 0, .int 0, .int 1, .int 2, .int 20, .none, .none]) hp (by decide) (by decide)
  have : ∃ g, GapOk g ∧ x = eGap g := by
    simp only [List.mem_cons, List.not_mem_nil, or_false] at hx
    rcases hx with rfl | rfl | rfl | rfl | rfl | rfl | rfl
    · exact ⟨some 0, Nat.zero_le _, rfl⟩
    · exact ⟨some 0, Nat.zero_le _, rfl⟩
    · exact ⟨some 1, by show 1 ≤ 20; omega, rfl⟩
    · exact ⟨some 2, by show 2 ≤ 20; omega, rfl⟩
    · exact ⟨some 20, Nat.le_refl _, rfl⟩
    · exact ⟨none, trivial, rfl⟩
    · exact ⟨none, trivial, rfl⟩
  obtain ⟨g, hg, rfl⟩ := this
  have e : r_law_pick (eRow r) [.list [.int 0, .int 0, .int 1, .int 2, .int 20, .none, .none]] = some (eGap g, eRow (takenR r 7)) := e
  refine ⟨g, takenR r 7, hg, takenR_p hp, ?_⟩
  refine runB_rt (ρ := []) ?_
  unfold i_law_gap_2
  refine s_ret ?_
  walk_at "run"
theorem fo_exN {α β : Type} {enc : α → D} {sl : β → List Sl} {P : Nat → β → Prop} {f : D → List Sl → Option Out} {m : Nat} : ∀ (as : List α) (k : Nat) (b : β), k + as.length ≤ m → P k b → (∀ a ∈ as, ∀ k b, k < m → P k b → ∃ b', P (k + 1) b' ∧ f (enc a) (sl b) = some (.nx (sl b'))) →
    ∃ b', P (k + as.length) b' ∧ foGo f (as.map enc) (sl b) = some (.nx (sl b'))
  | [], k, b, _, hb, _ => ⟨b, hb, rfl⟩
  | a :: as, k, b, hm, hb, h => by
    rw [List.length_cons] at hm
    obtain ⟨b1, p1, e1⟩ := h a List.mem_cons_self k b (by omega) hb
    obtain ⟨b2, p2, e2⟩ := fo_exN as (k + 1) b1 (by omega) p1 fun c hc => h c (List.mem_cons_of_mem _ hc)
    refine ⟨b2, by rw [List.length_cons, show k + (as.length + 1) = k + 1 + as.length by omega]; exact p2, ?_⟩
    rw [List.map_cons]
    unfold foGo
    rw [e1]
    exact e2
/-- some of the items, by draws -/
theorem lc_some {β : Type} {sl : β → List Sl} {P : β → Prop} {f : D → List Sl → Option (Option D × List Sl)} : ∀ (ks : List Int) (b : β), P b → (∀ k ∈ ks, ∀ b, P b → ∃ b', P b' ∧ (f (.int k) (sl b) = some (some (.int k), sl b') ∨ f (.int k) (sl b) = some (none, sl b'))) →
    ∃ (as : List Int) (b' : β), lcGo f (ks.map .int) (sl b) = some (as.map .int, sl b') ∧ P b' ∧ as.Sublist ks
  | [], b, hb, _ => ⟨[], b, rfl, hb, .slnil⟩
  | k :: ks, b, hb, h => by
    obtain ⟨b1, p1, e1⟩ := h k List.mem_cons_self b hb
    obtain ⟨as, b2, e2, p2, s2⟩ := lc_some ks b1 p1 fun y hy => h y (List.mem_cons_of_mem _ hy)
    rcases e1 with e1 | e1
    · refine ⟨k :: as, b2, ?_, p2, s2.cons₂ k⟩
      rw [List.map_cons]
      unfold lcGo
      rw [e1, Option.bind_some, e2]
      rfl
    · refine ⟨as, b2, ?_, p2, s2.cons k⟩
      rw [List.map_cons]
      unfold lcGo
      rw [e1, Option.bind_some, e2]
      rfl
def upTo0 (n : Nat) : List Int := (List.range n).map fun i => (0 : Int) + (i : Nat)
theorem rangeD_up (n : Nat) : rangeD 0 n = (upTo0 n).map .int := by
  unfold rangeD upTo0
  rw [List.map_map]
  rfl
theorem upTo_lt (n : Nat) : (upTo0 n).Pairwise (· < ·) := by
  unfold upTo0
  rw [List.pairwise_map]
  exact List.pairwise_lt_range.imp fun h => by omega
theorem upTo_mem {n : Nat} {k : Int} (h : k ∈ upTo0 n) : 0 ≤ k ∧ k < n := by
  unfold upTo0 at h
  obtain ⟨i, hi, rfl⟩ := List.mem_map.mp h
  have := List.mem_range.mp hi
  omega
theorem upTo_len (n : Nat) : (upTo0 n).length = n := by simp [upTo0]
theorem gNe_ints (a b : List Int) : gNe [.list (a.map .int), .list (b.map .int)] = some (!decide (a = b)) := by
  show (gEq _).map (!·) = _
  rw [gEq_ints]; rfl
theorem gApp_one {xs : List D} {x : D} (h : xs.length < 1000000) : gApp xs [x] = some (xs ++ [x]) := if_pos h
/-- the states' rows that were drawn -/
structure Rows (n : Nat) (k : Nat) (b : Row × List (List Int)) : Prop where
  p : 0 ≤ b.1.p
  len : b.2.length = k
  row : ∀ ns ∈ b.2, ns ≠ [] ∧ ns.Pairwise (· < ·) ∧ ∀ s ∈ ns, 0 ≤ s ∧ s < (n : Int)
theorem reel2_run {r : Row} {most pics : Int} (hp : 0 ≤ r.p) (h1 : 1 ≤ most) (h6 : most ≤ 6) (q1 : 1 ≤ pics) (q2 : pics ≤ 100) : ∃ rl r', r_law_reel_2 (eRow r) [.int most, .int pics] = some (eReel rl, eRow r') ∧ rl.Ok ∧ rl.nexts.length ≤ most ∧ 0 ≤ r'.p := by
  have t1 := taken_run (r := r) (m := most) (by omega) (by omega) hp
  have l1 := taken_lt (r := r) (m := most) (by omega)
  have hp1 := takenR_p (m := most) hp
  generalize hr1 : takenR r most = r1 at t1 hp1
  generalize hv1 : takenV r most = v1 at t1 l1
  have t2 := taken_run (r := r1) (m := 4) (by omega) (by omega) hp1
  have l2 := taken_lt (r := r1) (m := 4) (by omega)
  have hp2 := takenR_p (m := 4) hp1
  generalize hr2 : takenR r1 4 = r2 at t2 hp2
  generalize hv2 : takenV r1 4 = kind at t2 l2
  obtain ⟨n, hn⟩ : ∃ n : Nat, 1 + v1 = n := ⟨(1 + v1).toNat, by omega⟩
  have hn1 : 1 ≤ n := by omega
  have hn6 : n ≤ 6 := by omega
  have hrg := gRng1_nat (n := n) (by omega)
  rw [rangeD_up] at hrg
  let sl : Row × List (List Int) → List Sl := fun b => [.b (0 : Nat) (eRow b.1), .d (.int most), .d (.int pics), .d (.int n), .d (.int kind), .o (b.2.map eT), .u, .u, .u]
  unfold r_law_reel_2 runB i_law_reel_2
  rw [s_cons (ρ1 := [.b (0 : Nat) (eRow r2), .d (.int most), .d (.int pics), .d (.int n), .d (.int kind), .u, .u, .u, .u]) (by walk_at "run"), s_cons (ρ1 := sl (r2, [])) (by simp only [sl]; walk_at "run"), s_fo (xs := (upTo0 n).map .int) (ρ1 := sl (r2, [])) (by simp only [sl]; walk_at "run")]
  generalize hfo : foGo _ _ _ = o
  have key : ∃ b, Rows n (0 + (upTo0 n).length) b ∧ o = some (.nx (sl b)) := by
    subst hfo
    refine fo_exN (enc := PyData.int) (sl := sl) (P := Rows n) (m := n) (upTo0 n) 0 (r2, []) (by rw [upTo_len]; omega) ⟨hp2, rfl, fun _ h => by cases h⟩ fun k hk j b hjn hb => ?_
    obtain ⟨rb, ns⟩ := b
    have hpb : 0 ≤ rb.p := hb.p
    let sm : Row → List Sl := fun rb => [.b (0 : Nat) (eRow rb), .d (.int most), .d (.int pics), .d (.int n), .d (.int kind), .o (ns.map eT), .d (.int k), .u, .u]
    obtain ⟨as, rc, e1, p1, s1⟩ := lc_some (sl := sm) (P := fun r : Row => 0 ≤ r.p) (f := fun x ρ => (evG (.n 8) x ρ).bind fun ρ1 => (evT (.cmp gEq (.up 0 r_law_taken (.cons (.c (.int 3)) .nil)) (.c (.int 0))) ρ1).bind fun q => if q.1 = true then (evE (.v 8) q.2).map fun r => (some r.1, wipeS r.2 [8]) else some (none, wipeS q.2 [8])) (upTo0 n) rb hpb (fun k' hk' r' hp' => by
      have t3 := taken_run (r := r') (m := 3) (by omega) (by omega) hp'
      refine ⟨takenR r' 3, takenR_p hp', ?_⟩
      have h0 := gEq_ii (takenV r' 3) 0
      by_cases hz : takenV r' 3 = 0
      · rw [decide_eq_true hz] at h0
        rw [hz] at h0 t3
        refine .inl ?_
        simp only [sm]
        walk_at "run"
      · rw [decide_eq_false hz] at h0
        refine .inr ?_
        simp only [sm]
        walk_at "run")
    have hfew := few_len (ys := as.map PyData.int) (n := 6) (by rw [List.length_map]; have := s1.length_le; rw [upTo_len] at this; omega) (by decide)
    have has : as.length ≤ 6 := by have := s1.length_le; rw [upTo_len] at this; omega
    have haslt : as.Pairwise (· < ·) := (upTo_lt n).sublist s1
    have hasin : ∀ s ∈ as, 0 ≤ s ∧ s < (n : Int) := fun s hs => upTo_mem (s1.subset hs)
    have hns : ns.length ≤ j := Nat.le_of_eq hb.len
    have hj : j < 1000000 := by omega
    let sn : Row → List Sl := fun rc => [.b (0 : Nat) (eRow rc), .d (.int most), .d (.int pics), .d (.int n), .d (.int kind), .o (ns.map eT), .d (.int k), .d (eL as), .u]
    have tlast := taken_run (r := rc) (m := n) (by omega) (by omega) p1
    have llast := taken_lt (r := rc) (m := n) (by omega)
    have hne := gNe_ints as []
    have happ : ∀ x : D, gApp (ns.map eT) [x] = some (ns.map eT ++ [x]) := fun x => gApp_one (by rw [List.length_map]; omega)
    show ∃ b', Rows n (j + 1) b' ∧ (evSs _ (sm rb)).map (wipeO [6, 7]) = _
    rw [s_cons (ρ1 := sn rc) (by
      have hI : evI (.f gRng1 (.cons (.v 3) .nil)) (sm rb) = some ((upTo0 n).map .int, sm rb) := by simp only [sm]; walk_at "run"
      unfold evS evO
      rw [hI]
      simp only [Option.bind_some]
      rw [show wipeS (sm rb) [8] = sm rb from rfl, e1]
      simp only [Option.bind_some, hfew, if_true, Option.map_some]
      rfl)]
    by_cases hc : as ≠ [] ∧ 0 < kind
    · refine ⟨(rc, ns ++ [as]), ⟨p1, by simp [hb.len], fun x hx => ?_⟩, ?_⟩
      · rcases List.mem_append.mp hx with h | h
        · exact hb.row x h
        · rw [List.mem_singleton.mp h]; exact ⟨hc.1, haslt, hasin⟩
      · have hc1 := hc.1
        have hc2 := hc.2
        rw [decide_eq_false hc1] at hne
        have hne' : gNe [eL as, .list []] = some true := hne
        simp only [sn, sl]
        walk_at "run"
    · refine ⟨(takenR rc n, ns ++ [[takenV rc n]]), ⟨takenR_p p1, by simp [hb.len], fun x hx => ?_⟩, ?_⟩
      · rcases List.mem_append.mp hx with h | h
        · exact hb.row x h
        · rw [List.mem_singleton.mp h]; exact ⟨by simp, List.pairwise_singleton _ _, fun s hs => by rw [List.mem_singleton.mp hs]; exact llast⟩
      · by_cases ha : as = []
        · have hne' : gNe [eL [], .list []] = some false := gNe_ints [] []
          clear hne
          simp only [sn, sl]
          walk_at "run"
        · have hk : ¬ 0 < kind := fun z => hc ⟨ha, z⟩
          rw [decide_eq_false ha] at hne
          have hne' : gNe [eL as, .list []] = some true := hne
          simp only [sn, sl]
          walk_at "run"
  clear hfo
  obtain ⟨⟨r3, ns⟩, hR, rfl⟩ := key
  rw [upTo_len, Nat.zero_add] at hR
  obtain ⟨hp3, hlen, hrow⟩ := hR
  have hp3 : 0 ≤ r3.p := hp3
  have hlen : ns.length = n := hlen
  let sp : Row → List Sl := fun r => [.b (0 : Nat) (eRow r), .d (.int most), .d (.int pics), .d (.int n), .d (.int kind), .d (.list (ns.map eT)), .u, .u, .u]
  obtain ⟨ps, r4, e4, p4, l4, q4⟩ := lc_draw (e := PyData.int) (sl := sp) (P := fun r : Row => 0 ≤ r.p) (Q := fun x : Int => 0 ≤ x ∧ x < pics) (f := fun x ρ => (evG (.n 6) x ρ).bind fun ρ1 => (evT .tt ρ1).bind fun q => if q.1 = true then (evE (.up 0 r_law_taken (.cons (.v 2) .nil)) q.2).map fun r => (some r.1, wipeS r.2 [6]) else some (none, wipeS q.2 [6])) ((upTo0 n).map .int) r3 hp3 (fun x hx r hr => by
    have t := taken_run (r := r) (m := pics) (by omega) (by omega) hr
    refine ⟨takenV r pics, takenR r pics, ?_, takenR_p hr, taken_lt (by omega)⟩
    simp only [sp]
    walk_at "run")
  rw [List.length_map, upTo_len] at l4
  have hfew := few_len (ys := ps.map PyData.int) (n := 6) (by rw [List.length_map]; omega) (by decide)
  refine ⟨⟨ns, ps⟩, r4, ?_, ⟨by show 1 ≤ ns.length; omega, by show ns.length ≤ 6; omega, by show ps.length = ns.length; omega, fun x hx => by show _ ∧ _ ∧ ∀ s ∈ x, 0 ≤ s ∧ s < (ns.length : Int); rw [hlen]; exact hrow x hx, fun p hp => ?_⟩, by show (ns.length : Int) ≤ most; omega, p4⟩
  · show (evSs _ (sl (r3, ns))).bind _ = _
    rw [s_ret (d := eReel ⟨ns, ps⟩) (ρ1 := sp r4) (by
      have hO : evO (.lc (.n 6) (.f gRng1 (.cons (.v 3) .nil)) .tt (.up 0 r_law_taken (.cons (.v 2) .nil)) [6]) (sp r3) = some (ps.map .int, sp r4) := by
        have hI : evI (.f gRng1 (.cons (.v 3) .nil)) (sp r3) = some ((upTo0 n).map .int, sp r3) := by simp only [sp]; walk_at "run"
        unfold evO
        rw [hI]
        simp only [Option.bind_some]
        rw [show wipeS (sp r3) [6] = sp r3 from rfl, e4]
        simp only [Option.bind_some, hfew, if_true]
        rfl
      have hv : evE (.f gTuple (.cons (.v 5) .nil)) (sl (r3, ns)) = some (eN ns, sp r3) := by simp only [sl, sp]; walk_at "run"
      unfold evE evA
      rw [hv]
      simp only [Option.bind_some]
      simp only [evA, evE, hO, Option.bind_some, Option.map_some, gTuple, DI.gTup]
      rfl)]
    rfl
  · have := q4 p hp
    omega
theorem fo_foldN {α β : Type} {enc : α → D} {sl : β → List Sl} {step : β → α → β} {P : Nat → β → Prop} {f : D → List Sl → Option Out} {m : Nat} : ∀ (as : List α) (k : Nat) (b : β), k + as.length ≤ m → P k b → (∀ a ∈ as, ∀ k b, k < m → P k b → P (k + 1) (step b a) ∧ f (enc a) (sl b) = some (.nx (sl (step b a)))) →
    foGo f (as.map enc) (sl b) = some (.nx (sl (as.foldl step b)))
  | [], _, _, _, _, _ => rfl
  | a :: as, k, b, hm, hb, h => by
    rw [List.length_cons] at hm
    obtain ⟨h1, h2⟩ := h a List.mem_cons_self k b (by omega) hb
    unfold foGo
    rw [List.map_cons]
    simp only [h2, Option.bind_some]
    exact fo_foldN as (k + 1) _ (by omega) h1 fun c hc => h c (List.mem_cons_of_mem _ hc)
end PG
set_option Elab.async false
set_option linter.all false
set_option maxRecDepth 100000
set_option maxHeartbeats 4000000
namespace PG
open PySem PySem.Spec PyProof.Rows L2 DL DI
local macro_rules | `(tactic| walk_at "run") => `(tactic| simp [evSs, evS, evT, evE, evA, evO, evI, evG_n, evG_t, evGs_n, evGs_c, startS, args, ownAt, dicAt, DI.putAt, Sl.own, Sl.put, gIxO, atI0, atI1, atI2, atI3, gGt, gLt, gLe, gGe, gInt, gMod, gDiv, gAdd_ii, gSub_ii, gMul, gPow, gLen, gIx, ixN, isi_ii, isi_ib, isi_tt, gNot, gNeg, gSeq, DI.gTup, gLst, gTuple, gIs, gNis, isNo, wipeS, backS, Sl.kept, wipeO, -Option.map_bind, -Option.map_map, -Option.bind_fun_some, -Option.map_eq_map, -Option.bind_eq_bind, -Option.map_eq_some_iff, *])
theorem all_flat (f : List Int) : (f.map PyData.int).all flatD = true := by
  induction f with
  | nil => rfl
  | cons a l ih => rw [List.map_cons, List.all_cons, ih]; rfl
theorem any_eq (t : Int) (f : List Int) : ((f.map PyData.int).any fun y => eqF y (.int t)) = decide (t ∈ f) := by
  induction f with
  | nil => rfl
  | cons a l ih =>
    rw [List.map_cons, List.any_cons, ih]
    show (a == t || decide (t ∈ l)) = _
    by_cases h : a = t
    · subst h; simp
    · have h' : ¬ t = a := fun z => h z.symm
      simp [h, h']
theorem gIn_ints (t : Int) (f : List Int) : gIn [.int t, .list (f.map .int)] = some (decide (t ∈ f)) := by
  show inL (.int t) (f.map .int) = _
  unfold inL
  rw [if_pos ⟨rfl, all_flat f⟩, any_eq]
theorem gNin_ints (t : Int) (f : List Int) : gNin [.int t, .list (f.map .int)] = some (!decide (t ∈ f)) := by
  show (gIn _).map (!·) = _
  rw [gIn_ints]; rfl
/-- states once each -/
def Once (n : Nat) (f : List Int) : Prop := f.Nodup ∧ In n f
theorem once_add {n : Nat} {f g : List Int} (hf : Once n f) (hg : Once n g) : Once n (f ++ g.filter fun t => !decide (t ∈ f)) := by
  refine ⟨List.nodup_append.mpr ⟨hf.1, hg.1.filter _, fun a ha b hb e => ?_⟩, fun s hs => ?_⟩
  · subst e
    have := (List.mem_filter.mp hb).2
    simp [ha] at this
  · rcases List.mem_append.mp hs with h | h
    · exact hf.2 s h
    · exact hg.2 s (List.mem_filter.mp h).1
theorem once_len {n : Nat} {f : List Int} (h : Once n f) : f.length ≤ n := nodup_few h.1 h.2
theorem nx_once {r : Reel} (h : r.Ok) (s : Int) : Once r.nexts.length (nx r.nexts s) := ⟨nx_nodup h s, nx_in h s⟩
theorem add_new {f g : List Int} (hl : f.length + g.length ≤ 100) : gAdd [.list (f.map PyData.int), .list ((g.filter fun t => !decide (t ∈ f)).map PyData.int)] = some (eL (f ++ g.filter fun t => !decide (t ∈ f))) := by
  have := List.length_filter_le (fun t => !decide (t ∈ f)) g
  rw [gAdd_LL (by simp only [List.length_map]; omega), ← List.map_append]
theorem few_new {f g : List Int} (hl : g.length ≤ 100) : few ((g.filter fun t => !decide (t ∈ f)).map PyData.int) = true := by
  have := List.length_filter_le (fun t => !decide (t ∈ f)) g
  exact few_len (n := 100) (by rw [List.length_map]; omega) (by decide)
theorem beyond2_run {r : Reel} {st : List Int} {b : Bool} (hr : r.Ok) (hst : In r.nexts.length st) : r_law_beyond_2 [eReel r, if b then eT st else eL st] = some (eL (bey2 r.nexts st)) := by
  have h6 := hr.few
  generalize hst' : (if b then eT st else eL st : D) = st'
  let sl : List Int → List Sl := fun f => [.d (eReel r), .d st', .d (eL f), .u, .u]
  refine run_rt (ρ := sl (bey2 r.nexts st)) ?_
  unfold i_law_beyond_2
  rw [s_cons (ρ1 := sl []) (by simp only [sl]; walk_at "run"), s_fo (xs := st.map .int) (ρ1 := sl []) (by simp only [sl]; cases b <;> subst hst' <;> walk_at "run")]
  have hfo := fun (f : D → List Sl → Option Out) h => fo_fold (enc := PyData.int) (sl := sl) (P := Once r.nexts.length) (f := f) (step := fun f s => f ++ (nx r.nexts s).filter fun t => !decide (t ∈ f)) st [] ⟨.nil, fun _ h => by cases h⟩ h
  show (foGo _ (st.map .int) (sl [])).bind _ = _
  rw [hfo _ fun s hs f hf => ⟨once_add hf (nx_once hr s), ?_⟩]
  · rfl
  · have hin := hst s hs
    have hix : atI (r.nexts.map eT) s = some (eT (nx r.nexts s)) := atI_map (f := eT) hin.1 (nx_at hin.1 hin.2)
    have hadd := add_new (f := f) (g := nx r.nexts s) (by have := once_len hf; have := once_len (nx_once hr s); omega)
    have hfew := few_new (f := f) (g := nx r.nexts s) (by have := once_len (nx_once hr s); omega)
    simp only [sl]
    walk_at "run"
    rw [lc_filter (enc := .int) (g := .int) (p := fun t => !decide (t ∈ f)) (nx r.nexts s) fun t ht => ?_]
    · simp only [Option.bind_some, hfew, if_true, Option.map_some, hadd]
      rfl
    · have hn := gNin_ints t f
      by_cases hm : t ∈ f
      · rw [decide_eq_true hm] at hn
        walk_at "run"
      · rw [decide_eq_false hm] at hn
        walk_at "run"
theorem bey2_once {r : Reel} (h : r.Ok) (st : List Int) : Once r.nexts.length (bey2 r.nexts st) := ⟨bey2_nodup (nx_nodup h) st, bey2_in h st⟩
theorem gMin_far (g : Nat) : gMin [.int 8, .int g] = some (.int (farN (some g) : Nat)) := by
  show some (PyData.int (if (g : Int) < 8 then (g : Int) else 8)) = some (.int ((if g < 8 then g else 8 : Nat) : Int))
  by_cases h : g < 8
  · rw [if_pos h, if_pos (by omega)]
  · rw [if_neg h, if_neg (by omega)]; rfl
theorem within2_run {r : Reel} {st : List Int} {g : Option Nat} (hr : r.Ok) (hst : Once r.nexts.length st) : r_law_within [eReel r, eL st, eGap g] = some (eL (with2 r.nexts st (farN g)).2) := by
  have h6 := hr.few
  let sl : List Int × List Int → List Sl := fun b => [.d (eReel r), .d (eL b.1), .d (eGap g), .d (eL b.2), .u, .u]
  refine run_rt (ρ := sl (with2 r.nexts st (farN g))) ?_
  unfold i_law_within
  have hrg := gRng1_nat (n := farN g) (by have := farN_le g; omega)
  have hit : gList [eL st] = some (st.map .int) := rfl
  rw [s_cons (ρ1 := sl (st, st)) (by simp only [sl]; walk_at "run"), s_fo (xs := rangeD 0 (farN g)) (ρ1 := sl (st, st)) (by
    simp only [sl]
    cases g with
    | none => simp only [eGap]; have hrg' : gRng1 [.int 8] = some (rangeD 0 (farN none)) := hrg; walk_at "run"
    | some g => simp only [eGap]; have hm := gMin_far g; walk_at "run")]
  show (foGo _ ((List.range (farN g)).map fun i => PyData.int (0 + (i : Nat))) (sl (st, st))).bind _ = _
  have hfo := fun (f : D → List Sl → Option Out) h => fo_fold (enc := fun i : Nat => PyData.int (0 + (i : Nat))) (sl := sl) (P := fun b => Once r.nexts.length b.1 ∧ Once r.nexts.length b.2) (f := f) (step := fun b _ => (bey2 r.nexts b.1, b.2 ++ (bey2 r.nexts b.1).filter fun t => !decide (t ∈ b.2))) (List.range (farN g)) (st, st) ⟨hst, hst⟩ h
  rw [hfo _ fun i hi b hb => ⟨⟨bey2_once hr b.1, once_add hb.2 (bey2_once hr b.1)⟩, ?_⟩]
  · rfl
  · obtain ⟨h, f⟩ := b
    have hb1 : Once r.nexts.length h := hb.1
    have hb2 : Once r.nexts.length f := hb.2
    have hbe := beyond2_run (st := h) (b := false) hr hb1.2
    rw [if_neg Bool.false_ne_true] at hbe
    have hl := once_len (bey2_once hr h)
    have hadd := add_new (f := f) (g := bey2 r.nexts h) (by have := once_len hb2; omega)
    have hfew := few_new (f := f) (g := bey2 r.nexts h) (by omega)
    simp only [sl]
    walk_at "run"
    rw [lc_filter (enc := .int) (g := .int) (p := fun t => !decide (t ∈ f)) (bey2 r.nexts h) fun t ht => ?_]
    · simp only [Option.bind_some, hfew, if_true, Option.map_some, hadd]
      rfl
    · have hn := gNin_ints t f
      by_cases hm : t ∈ f
      · rw [decide_eq_true hm] at hn
        walk_at "run"
      · rw [decide_eq_false hm] at hn
        walk_at "run"
def eHere : Option (List Int) → D
  | none => .none
  | some h => eT h
def HereOk (n : Nat) : Option (List Int) → Prop
  | none => True
  | some h => In n h
theorem may_run {r : Reel} {g : Option Nat} {here : Option (List Int)} (hr : r.Ok) (hh : HereOk r.nexts.length here) : r_law_may [eReel r, eGap g, eHere here] = some (eL (may2 r g here)) := by
  refine run_rt (ρ := [.d (eReel r), .d (eGap g), .d (eHere here)]) ?_
  unfold i_law_may
  refine s_ret ?_
  cases here with
  | none =>
    have hw := within2_run (r := r) (st := [0]) (g := g) hr ⟨List.nodup_cons.mpr ⟨by simp, .nil⟩, zero_in hr⟩
    have hw' : r_law_within [eReel r, .list [.int 0], eGap g] = some (eL (may2 r g none)) := hw
    simp only [eHere]
    walk_at "run"
  | some h =>
    have hb := beyond2_run (st := h) (b := true) hr hh
    rw [if_pos rfl] at hb
    have hw : r_law_within [eReel r, eL (bey2 r.nexts h), eGap g] = some (eL (may2 r g (some h))) := within2_run (r := r) (g := g) hr (bey2_once hr h)
    simp only [eHere]
    walk_at "run"
theorem may2_in {r : Reel} {g : Option Nat} (hr : r.Ok) {here : Option (List Int)} (hh : HereOk r.nexts.length here) : In r.nexts.length (may2 r g here) := fun t ht => by
  have hrow := leaps_ok hr g
  have : ∀ s, t ∈ nx (leapsM r g) s → 0 ≤ t ∧ t < r.nexts.length := fun s h => by
    rcases nx_mem (ns := leapsM r g) (s := s) with e | e
    · rw [e] at h; cases h
    · exact (hrow.row _ e).2 t h
  cases here with
  | none => exact this _ ((mem_may0 hr).mp ht)
  | some h =>
    obtain ⟨s, _, hs⟩ := (mem_may1 hr hh).mp ht
    exact this s hs
theorem see_run {r : Reel} {g : Option Nat} {here : Option (List Int)} {p : Int} (hr : r.Ok) (hh : HereOk r.nexts.length here) : r_law_see [eReel r, eGap g, eHere here, .int p] = some (eT (see2 r g here p)) := by
  have h6 := hr.few
  have hm := may_run (g := g) hr hh
  have hon : Once r.nexts.length (may2 r g here) := ⟨may2_nodup hr here, may2_in hr hh⟩
  have hl := once_len hon
  have hfl := List.length_filter_le (fun s => decide (picAt r.pics s = p)) (may2 r g here)
  have hfew := few_len (ys := ((may2 r g here).filter fun s => decide (picAt r.pics s = p)).map PyData.int) (n := 6) (by rw [List.length_map]; omega) (by decide)
  have hsort := gSort_ints (a := (may2 r g here).filter fun s => decide (picAt r.pics s = p))
  refine run_rt (ρ := [.d (eReel r), .d (eGap g), .d (eHere here), .d (.int p), .u]) ?_
  unfold i_law_see
  refine s_ret ?_
  walk_at "run"
  rw [lc_filter (enc := .int) (g := .int) (p := fun s => decide (picAt r.pics s = p)) (may2 r g here) fun t ht => ?_]
  · simp only [Option.bind_some, hfew, if_true, Option.map_some, hsort]
    rfl
  · have hin := hon.2 t ht
    have hpx : atI (r.pics.map PyData.int) t = some (.int (picAt r.pics t)) := atI_map (f := PyData.int) hin.1 (pic_at hr hin)
    have he := gEq_ii (picAt r.pics t) p
    by_cases hp : picAt r.pics t = p
    · rw [decide_eq_true hp] at he
      have he2 : gEq [.int p, .int p] = some true := by rw [gEq_ii]; simp
      walk_at "run"
    · rw [decide_eq_false hp] at he
      walk_at "run"
theorem see2_in {r : Reel} {g : Option Nat} (hr : r.Ok) {here : Option (List Int)} (hh : HereOk r.nexts.length here) (p : Int) : HereOk r.nexts.length (some (see2 r g here p)) := fun t ht => by
  unfold see2 at ht
  exact may2_in hr hh t (List.mem_filter.mp ((sortI_perm _).mem_iff.mp ht)).1
theorem stands2_run {r : Reel} {g : Option Nat} {film : List Int} (hr : r.Ok) : r_law_stands_2 [eReel r, eGap g, eT film] = some (eHere (stands2 r g film)) := by
  let sl : Option (List Int) → List Sl := fun h => [.d (eReel r), .d (eGap g), .d (eT film), .d (eHere h), .u]
  refine run_rt (ρ := sl (stands2 r g film)) ?_
  unfold i_law_stands_2
  rw [s_cons (ρ1 := sl none) (by simp only [sl, eHere]; walk_at "run"), s_fo (xs := film.map .int) (ρ1 := sl none) (by simp only [sl]; walk_at "run")]
  show (foGo _ (film.map .int) (sl none)).bind _ = _
  have hfo := fun (f : D → List Sl → Option Out) h => fo_fold (enc := PyData.int) (sl := sl) (P := HereOk r.nexts.length) (f := f) (step := fun here p => some (see2 r g here p)) film none trivial h
  rw [hfo _ fun p hp here hh => ⟨see2_in hr hh p, ?_⟩]
  · rfl
  · have hs := see_run (g := g) (p := p) hr hh
    simp only [sl]
    walk_at "run"
    rfl
def canB (r : Reel) (g : Option Nat) (film : List Int) : Bool := match stands2 r g film with
  | none => true
  | some h => !decide (h = [])
theorem shaped_intsT (ns : List Int) : SeqAt.shaped (.tuple (ns.map .int)) = true := shaped_ints ns
theorem eqv_intsT (ns ms : List Int) : PyData.eqv (.tuple (ns.map .int)) (.tuple (ms.map .int)) = decide (ns = ms) := by
  have := eqv_ints ns ms
  simp only [PyData.eqv] at this ⊢
  exact this
theorem gNe_none : gNe [.none, .tuple []] = some true := by decide +kernel
theorem gNe_T (h : List Int) : gNe [eT h, .tuple []] = some (!decide (h = [])) := by
  show (if SeqAt.shaped (eT h) = true ∧ SeqAt.shaped (eT []) = true then some (PyData.eqv (eT h) (eT [])) else none).map (!·) = _
  rw [if_pos ⟨shaped_intsT h, shaped_intsT []⟩, eqv_intsT]
  rfl
theorem can2_run {r : Reel} {g : Option Nat} {film : List Int} (hr : r.Ok) : r_law_can [eReel r, eGap g, eT film] = some (.bool (canB r g film)) := by
  have hs := stands2_run (g := g) (film := film) hr
  refine run_rt (ρ := [.d (eReel r), .d (eGap g), .d (eT film)]) ?_
  unfold i_law_can canB
  refine s_ret ?_
  cases hq : stands2 r g film with
  | none =>
    rw [hq] at hs
    have h0 := gNe_none
    simp only [eHere] at hs
    walk_at "run"
  | some h =>
    rw [hq] at hs
    have h0 := gNe_T h
    simp only [eHere] at hs
    walk_at "run"
theorem canB_sh {r : Reel} {g : Option Nat} {film : List Int} (hr : r.Ok) {k : Nat} (hk : k ≤ film.length) : canB r g (film.take k) = decide (k ≤ sh r g film) := by
  have h := shown_ge (rl := r) (leapsM r g) (step_nil (leapsM r g)) film (ahead r) k hk
  unfold canB sh
  rw [stands_eq hr]
  by_cases e : film.take k = []
  · rw [if_pos e, decide_eq_true (h.mpr (.inl e))]
  · rw [if_neg e]
    show (!decide ((film.take k).foldl (stepM r (leapsM r g)) (ahead r) = [])) = _
    by_cases q : (film.take k).foldl (stepM r (leapsM r g)) (ahead r) = []
    · rw [decide_eq_true q, decide_eq_false fun z => (h.mp z).elim e fun y => y q]; rfl
    · rw [decide_eq_false q, decide_eq_true (h.mpr (.inr q))]; rfl
end PG
set_option linter.all false
/-! Films in the order of length and pictures; two searches by width for the first film of a kind. -/
namespace BF
def lexLt : List Int → List Int → Prop
  | a :: as, b :: bs => a < b ∨ (a = b ∧ lexLt as bs)
  | _, _ => False
def sllt (a b : List Int) : Prop := a.length < b.length ∨ (a.length = b.length ∧ lexLt a b)
def sle (a b : List Int) : Prop := a = b ∨ sllt a b
theorem lex_irr : ∀ a : List Int, ¬ lexLt a a
  | [], h => h
  | a :: as, h => by
    rcases h with h | h
    · omega
    · exact lex_irr as h.2
theorem lex_trans : ∀ {a b c : List Int}, lexLt a b → lexLt b c → lexLt a c
  | [], _, _, h, _ => h.elim
  | _ :: _, [], _, h, _ => h.elim
  | _ :: _, _ :: _, [], _, h => h.elim
  | a :: as, b :: bs, c :: cs, h, h' => by
    rcases h with h | ⟨rfl, h⟩
    · rcases h' with h' | ⟨rfl, h'⟩
      · exact .inl (by omega)
      · exact .inl h
    · rcases h' with h' | ⟨rfl, h'⟩
      · exact .inl h'
      · exact .inr ⟨rfl, lex_trans h h'⟩
theorem lex_app : ∀ {a b : List Int} (c d : List Int), a.length = b.length → lexLt a b → lexLt (a ++ c) (b ++ d)
  | [], _, _, _, _, h => h.elim
  | _ :: _, [], _, _, _, h => h.elim
  | a :: as, b :: bs, c, d, hl, h => by
    rcases h with h | ⟨rfl, h⟩
    · exact .inl h
    · exact .inr ⟨rfl, lex_app c d (by simpa using hl) h⟩
theorem lex_end : ∀ (a : List Int) {p q : Int}, p < q → lexLt (a ++ [p]) (a ++ [q])
  | [], _, _, h => .inl h
  | a :: as, _, _, h => .inr ⟨rfl, lex_end as h⟩
theorem sllt_irr {a : List Int} (h : sllt a a) : False := by
  rcases h with h | h
  · omega
  · exact lex_irr _ h.2
theorem sllt_trans {a b c : List Int} (h : sllt a b) (h' : sllt b c) : sllt a c := by
  rcases h with h | h <;> rcases h' with h' | h'
  · exact .inl (by omega)
  · exact .inl (by omega)
  · exact .inl (by omega)
  · exact .inr ⟨h.1.trans h'.1, lex_trans h.2 h'.2⟩
theorem sllt_snoc {a b : List Int} (p q : Int) (h : sllt a b) : sllt (a ++ [p]) (b ++ [q]) := by
  rcases h with h | h
  · exact .inl (by simp; omega)
  · exact .inr ⟨by simp [h.1], lex_app _ _ h.1 h.2⟩
theorem sllt_end (a : List Int) {p q : Int} (h : p < q) : sllt (a ++ [p]) (a ++ [q]) := .inr ⟨by simp, lex_end a h⟩
theorem sle_refl (a : List Int) : sle a a := .inl rfl
theorem sle_trans {a b c : List Int} (h : sle a b) (h' : sle b c) : sle a c := by
  rcases h with rfl | h
  · exact h'
  · rcases h' with rfl | h'
    · exact .inr h
    · exact .inr (sllt_trans h h')
theorem sle_snoc {a b : List Int} (p : Int) (h : sle a b) : sle (a ++ [p]) (b ++ [p]) := by
  rcases h with rfl | h
  · exact .inl rfl
  · exact .inr (sllt_snoc p p h)
theorem sle_anti {a b : List Int} (h : sle a b) (h' : sle b a) : a = b := by
  rcases h with h | h
  · exact h
  · rcases h' with h' | h'
    · exact h'.symm
    · exact (sllt_irr (sllt_trans h h')).elim
theorem sle_len {a b : List Int} (h : sle a b) : a.length ≤ b.length := by
  rcases h with rfl | h | h <;> omega
theorem sllt_sle {a b c : List Int} (h : sllt a b) (h' : sle b c) : sllt a c := by
  rcases h' with rfl | h'
  · exact h
  · exact sllt_trans h h'

section
variable {S : Type} [DecidableEq S] (ps : List Int) (δ : S → Int → S) (s0 : S) (al : S → Bool)
def run (w : List Int) : S := w.foldl δ s0
theorem run_snoc (w : List Int) (p : Int) : run δ s0 (w ++ [p]) = δ (run δ s0 w) p := by simp [run]
inductive Valid : List Int → Prop
  | nil : Valid []
  | snoc {u : List Int} {p : Int} : Valid u → al (run δ s0 u) = true → p ∈ ps → Valid (u ++ [p])
theorem snoc_inj {u v : List Int} {p q : Int} (h : u ++ [p] = v ++ [q]) : u = v ∧ p = q := by
  have := List.append_inj' h rfl
  exact ⟨this.1, by simpa using this.2⟩
theorem Valid.back {w : List Int} (h : Valid ps δ s0 al w) : w = [] ∨ ∃ u p, w = u ++ [p] ∧ Valid ps δ s0 al u ∧ al (run δ s0 u) = true ∧ p ∈ ps := by
  cases h with
  | nil => exact .inl rfl
  | snoc a b c => exact .inr ⟨_, _, rfl, a, b, c⟩
/-- the first of the shortest films of a kind -/
def Least (T : S → Bool) (w : List Int) : Prop := Valid ps δ s0 al w ∧ T (run δ s0 w) = true ∧ ∀ v, Valid ps δ s0 al v → T (run δ s0 v) = true → sle w v
theorem Least.one {T : S → Bool} {w v : List Int} (h : Least ps δ s0 al T w) (h' : Least ps δ s0 al T v) : w = v := sle_anti (h.2.2 v h'.1 h'.2.1) (h'.2.2 w h.1 h.2.1)
/-! the queue -/
structure PI (wt : List (List Int × S)) (at' : Nat) (fd : List (S × List Int)) : Prop where
  ok : ∀ x ∈ wt, Valid ps δ s0 al x.1 ∧ x.2 = run δ s0 x.1
  sorted : (wt.map (·.1)).Pairwise sllt
  par : ∀ x ∈ wt, x.1 = [] ∨ ∃ y p, x.1 = y ++ [p] ∧ ∃ z ∈ wt.take at', z.1 = y
  fnd : ∀ f ∈ fd, (f.2, f.1) ∈ wt.take at'
  fsort : (fd.map (·.2)).Pairwise sllt
  dn : ∀ x ∈ wt.take at', ∃ f ∈ fd, f.1 = x.2 ∧ sle f.2 x.1
  cl : ∀ f ∈ fd, al f.1 = true → ∀ p ∈ ps, (f.2 ++ [p], δ f.1 p) ∈ wt
  nd : (fd.map (·.1)).Nodup
  st : ([], s0) ∈ wt
  len : wt.length ≤ 1 + ps.length * fd.length
  at_le : at' ≤ wt.length
def kids (x : List Int × S) : List (List Int × S) := ps.map fun p => (x.1 ++ [p], δ x.2 p)
theorem pi_start : PI ps δ s0 al [([], s0)] 0 [] where
  ok := fun x hx => by rw [List.mem_singleton.mp hx]; exact ⟨.nil, rfl⟩
  sorted := List.pairwise_singleton _ _
  par := fun x hx => by rw [List.mem_singleton.mp hx]; exact .inl rfl
  fnd := fun f hf => by cases hf
  fsort := .nil
  dn := fun x hx => by simp at hx
  cl := fun f hf => by cases hf
  nd := .nil
  st := List.mem_singleton.mpr rfl
  len := by simp
  at_le := Nat.zero_le _
variable {ps δ s0 al}
theorem take_succ {α : Type} {l : List α} {n : Nat} {x : α} (h : l[n]? = some x) : l.take (n + 1) = l.take n ++ [x] := by
  rw [List.take_add_one, h]; rfl
theorem mem_take_app {α : Type} {l m : List α} {n : Nat} (h : n ≤ l.length) : (l ++ m).take n = l.take n := by
  rw [List.take_append_of_le_length h]
theorem before {α : Type} {r : α → α → Prop} {l : List α} (h : l.Pairwise r) {n : Nat} {x : α} (hx : l[n]? = some x) : ∀ y ∈ l.take n, r y x := by
  intro y hy
  have hs : l = l.take n ++ l.drop n := (List.take_append_drop n l).symm
  rw [hs] at h
  have hd : x ∈ l.drop n := List.mem_of_getElem? (i := 0) (by rw [List.getElem?_drop]; simpa using hx)
  exact (List.pairwise_append.mp h).2.2 y hy x hd
theorem PI.skip {wt : List (List Int × S)} {n : Nat} {fd : List (S × List Int)} (h : PI ps δ s0 al wt n fd) {x : List Int × S} (hx : wt[n]? = some x) (hin : x.2 ∈ fd.map (·.1)) : PI ps δ s0 al wt (n + 1) fd where
  ok := h.ok
  sorted := h.sorted
  par := fun y hy => by
    rcases h.par y hy with e | ⟨u, p, e, z, hz, e2⟩
    · exact .inl e
    · exact .inr ⟨u, p, e, z, by rw [take_succ hx]; exact List.mem_append_left _ hz, e2⟩
  fnd := fun f hf => by rw [take_succ hx]; exact List.mem_append_left _ (h.fnd f hf)
  fsort := h.fsort
  dn := fun y hy => by
    rw [take_succ hx] at hy
    rcases List.mem_append.mp hy with hy | hy
    · exact h.dn y hy
    · rw [List.mem_singleton.mp hy]
      obtain ⟨f, hf, e⟩ := List.mem_map.mp hin
      refine ⟨f, hf, e, .inr ?_⟩
      have h1 := h.fnd f hf
      have hs := before (l := wt.map (·.1)) h.sorted (n := n) (x := x.1) (by rw [List.getElem?_map, hx]; rfl)
      rw [← List.map_take] at hs
      exact hs _ (List.mem_map.mpr ⟨_, h1, rfl⟩)
  cl := h.cl
  nd := h.nd
  st := h.st
  len := h.len
  at_le := (List.getElem?_eq_some_iff.mp hx).1
theorem kids_sorted {x : List Int × S} (hp : ps.Pairwise (· < ·)) : ((kids ps δ x).map (·.1)).Pairwise sllt := by
  unfold kids
  rw [List.map_map, List.pairwise_map]
  exact hp.imp fun h => sllt_end _ h
theorem PI.grow {wt : List (List Int × S)} {n : Nat} {fd : List (S × List Int)} (h : PI ps δ s0 al wt n fd) (hp : ps.Pairwise (· < ·)) {x : List Int × S} (hx : wt[n]? = some x) (hin : x.2 ∉ fd.map (·.1)) : PI ps δ s0 al (wt ++ if al x.2 = true then kids ps δ x else []) (n + 1) (fd ++ [(x.2, x.1)]) := by
  have hm := List.mem_of_getElem? hx
  have hln := (List.getElem?_eq_some_iff.mp hx).1
  obtain ⟨hv, hr⟩ := h.ok x hm
  have hbef := before (l := wt.map (·.1)) h.sorted (n := n) (x := x.1) (by rw [List.getElem?_map, hx]; rfl)
  rw [← List.map_take] at hbef
  have ht : ∀ m, ((wt ++ m).take (n + 1)) = wt.take n ++ [x] := fun m => by rw [mem_take_app hln, take_succ hx]
  have hk : ∀ y ∈ (if al x.2 = true then kids ps δ x else []), al x.2 = true ∧ ∃ p ∈ ps, y = (x.1 ++ [p], δ x.2 p) := fun y hy => by
    split at hy
    · rename_i ha
      obtain ⟨p, hp, e⟩ := List.mem_map.mp hy
      exact ⟨ha, p, hp, e.symm⟩
    · cases hy
  refine ⟨fun y hy => ?_, ?_, fun y hy => ?_, fun f hf => ?_, ?_, fun y hy => ?_, fun f hf ha p hp => ?_, ?_, List.mem_append_left _ h.st, ?_, ?_⟩
  · rcases List.mem_append.mp hy with hy | hy
    · exact h.ok y hy
    · obtain ⟨ha, p, hp, rfl⟩ := hk y hy
      exact ⟨.snoc hv (by rw [← hr]; exact ha) hp, by show δ x.2 p = _; rw [run_snoc, ← hr]⟩
  · rw [List.map_append, List.pairwise_append]
    refine ⟨h.sorted, ?_, fun a ha b hb => ?_⟩
    · split
      · exact kids_sorted hp
      · exact .nil
    · obtain ⟨y, hy, rfl⟩ := List.mem_map.mp hb
      obtain ⟨_, p, _, rfl⟩ := hk y hy
      obtain ⟨z, hz, rfl⟩ := List.mem_map.mp ha
      rcases h.par z hz with e | ⟨u, q, e, z2, hz2, e2⟩
      · rw [e]; exact .inl (by simp)
      · rw [e]
        exact sllt_snoc _ _ (hbef u (List.mem_map.mpr ⟨z2, hz2, e2⟩))
  · rcases List.mem_append.mp hy with hy | hy
    · rcases h.par y hy with e | ⟨u, p, e, z, hz, e2⟩
      · exact .inl e
      · exact .inr ⟨u, p, e, z, by rw [ht]; exact List.mem_append_left _ hz, e2⟩
    · obtain ⟨_, p, _, rfl⟩ := hk y hy
      exact .inr ⟨x.1, p, rfl, x, by rw [ht]; exact List.mem_append_right _ (List.mem_singleton.mpr rfl), rfl⟩
  · rw [ht]
    rcases List.mem_append.mp hf with hf | hf
    · exact List.mem_append_left _ (h.fnd f hf)
    · rw [List.mem_singleton.mp hf]; exact List.mem_append_right _ (List.mem_singleton.mpr rfl)
  · rw [List.map_append, List.pairwise_append]
    refine ⟨h.fsort, List.pairwise_singleton _ _, fun a ha b hb => ?_⟩
    rw [List.mem_singleton.mp hb]
    obtain ⟨f, hf, rfl⟩ := List.mem_map.mp ha
    exact hbef _ (List.mem_map.mpr ⟨_, h.fnd f hf, rfl⟩)
  · rw [ht] at hy
    rcases List.mem_append.mp hy with hy | hy
    · obtain ⟨f, hf, e⟩ := h.dn y hy
      exact ⟨f, List.mem_append_left _ hf, e⟩
    · rw [List.mem_singleton.mp hy]
      exact ⟨_, List.mem_append_right _ (List.mem_singleton.mpr rfl), rfl, sle_refl _⟩
  · rcases List.mem_append.mp hf with hf | hf
    · exact List.mem_append_left _ (h.cl f hf ha p hp)
    · rw [List.mem_singleton.mp hf] at ha ⊢
      refine List.mem_append_right _ ?_
      rw [if_pos ha]
      exact List.mem_map.mpr ⟨p, hp, rfl⟩
  · rw [List.map_append, List.nodup_append]
    refine ⟨h.nd, by simp, fun a ha b hb => ?_⟩
    have : b = x.2 := by simpa using hb
    rw [this]
    exact fun z => hin (z ▸ ha)
  · have := h.len
    have hl : (if al x.2 = true then kids ps δ x else []).length ≤ ps.length := by
      split
      · simp [kids]
      · simp
    rw [List.length_append, List.length_append, List.length_singleton, Nat.mul_add, Nat.mul_one]
    omega
  · rw [List.length_append]; omega
/-- what the queue has found at its end -/
theorem PI.done {wt : List (List Int × S)} {fd : List (S × List Int)} (h : PI ps δ s0 al wt wt.length fd) : (∀ f ∈ fd, Valid ps δ s0 al f.2 ∧ f.1 = run δ s0 f.2) ∧ ∀ v, Valid ps δ s0 al v → ∃ f ∈ fd, f.1 = run δ s0 v ∧ sle f.2 v := by
  refine ⟨fun f hf => ?_, fun v hv => ?_⟩
  · have := h.fnd f hf
    rw [List.take_length] at this
    exact h.ok _ this
  · induction hv with
    | nil =>
      obtain ⟨f, hf, e1, e2⟩ := h.dn ([], s0) (by rw [List.take_length]; exact h.st)
      exact ⟨f, hf, e1, e2⟩
    | @snoc u p hu ha hp ih =>
      obtain ⟨f, hf, e1, e2⟩ := ih
      have hm := h.cl f hf (by rw [e1]; exact ha) p hp
      obtain ⟨f2, hf2, e3, e4⟩ := h.dn _ (by rw [List.take_length]; exact hm)
      refine ⟨f2, hf2, ?_, sle_trans e4 (sle_snoc p e2)⟩
      rw [e3, run_snoc, e1]
/-- the first found of a kind -/
theorem PI.least {wt : List (List Int × S)} {fd : List (S × List Int)} (h : PI ps δ s0 al wt wt.length fd) (T : S → Bool) : (∀ f, fd.find? (fun f => T f.1) = some f → Least ps δ s0 al T f.2) ∧ (fd.find? (fun f => T f.1) = none → ∀ v, Valid ps δ s0 al v → T (run δ s0 v) = false) := by
  obtain ⟨h1, h2⟩ := h.done
  refine ⟨fun f hf => ?_, fun hn v hv => ?_⟩
  · have hm := List.mem_of_find?_eq_some hf
    have hT := List.find?_some hf
    obtain ⟨g1, g2⟩ := h1 f hm
    refine ⟨g1, by rw [← g2]; exact hT, fun v hv hvT => ?_⟩
    obtain ⟨f2, hf2, e1, e2⟩ := h2 v hv
    obtain ⟨as, bs, eq, hno⟩ := List.find?_eq_some_iff_append.mp hf |>.2
    have hs := h.fsort
    rw [eq] at hf2 hs
    rcases List.mem_append.mp hf2 with hf2 | hf2
    · have := hno f2 hf2
      rw [e1, hvT] at this
      cases this
    · rcases List.mem_cons.mp hf2 with e | hf2
      · rw [e] at e2; exact e2
      · rw [List.map_append, List.pairwise_append] at hs
        have := (List.pairwise_cons.mp hs.2.1).1 f2.2 (List.mem_map.mpr ⟨f2, hf2, rfl⟩)
        exact sle_trans (.inr this) e2
  · obtain ⟨f2, hf2, e1, _⟩ := h2 v hv
    have := List.find?_eq_none.mp hn f2 hf2
    rw [← e1]
    simpa using this
/-! the layers -/
structure LI (T : S → Bool) (k : Nat) (ly : List (List Int × S)) (seen : List S) : Prop where
  ok : ∀ x ∈ ly, Valid ps δ s0 al x.1 ∧ x.2 = run δ s0 x.1 ∧ x.1.length = k ∧ al x.2 = true
  sorted : (ly.map (·.1)).Pairwise sllt
  no : ∀ v, Valid ps δ s0 al v → v.length ≤ k → T (run δ s0 v) = false
  cov : ∀ v, Valid ps δ s0 al v → v.length = k → al (run δ s0 v) = true → (∃ x ∈ ly, x.2 = run δ s0 v ∧ sle x.1 v) ∨ ∃ u, Valid ps δ s0 al u ∧ u.length < k ∧ run δ s0 u = run δ s0 v
  snd : ∀ t ∈ seen, ∃ u, Valid ps δ s0 al u ∧ u.length ≤ k ∧ run δ s0 u = t
  nd : seen.Nodup
  few : k ≤ seen.length
/-- in the midst of a layer: the kids that are done, the later layer, what is seen -/
structure LM (T : S → Bool) (k : Nat) (dn : List (List Int × S)) (lt : List (List Int × S)) (seen : List S) : Prop where
  ok : ∀ x ∈ lt, x ∈ dn ∧ al x.2 = true
  sub : (lt.map (·.1)).Pairwise sllt
  noT : ∀ x ∈ dn, T x.2 = false
  cov : ∀ x ∈ dn, al x.2 = true → (∃ y ∈ lt, y.2 = x.2 ∧ sle y.1 x.1) ∨ ∃ u, Valid ps δ s0 al u ∧ u.length ≤ k ∧ run δ s0 u = x.2
  snd : ∀ t ∈ seen, (∃ u, Valid ps δ s0 al u ∧ u.length ≤ k ∧ run δ s0 u = t) ∨ ∃ y ∈ lt, y.2 = t
  nd : seen.Nodup
  few : k + (if lt = [] then 0 else 1) ≤ seen.length
theorem LI.mid {T : S → Bool} {k : Nat} {ly : List (List Int × S)} {seen : List S} (h : LI (ps := ps) (δ := δ) (s0 := s0) (al := al) T k ly seen) : LM (ps := ps) (δ := δ) (s0 := s0) (al := al) T k [] [] seen :=
  ⟨fun x hx => by (cases hx), .nil, fun x hx => by (cases hx), fun x hx => by (cases hx), fun t ht => .inl (h.snd t ht), h.nd, by simpa using h.few⟩
theorem LM.skip {T : S → Bool} {k : Nat} {dn lt : List (List Int × S)} {seen : List S} (h : LM (ps := ps) (δ := δ) (s0 := s0) (al := al) T k dn lt seen) {x : List Int × S} (hT : T x.2 = false) (hs : x.2 ∈ seen ∨ al x.2 = false) (hb : ∀ y ∈ dn, sllt y.1 x.1) : LM (ps := ps) (δ := δ) (s0 := s0) (al := al) T k (dn ++ [x]) lt seen where
  ok := fun y hy => ⟨List.mem_append_left _ (h.ok y hy).1, (h.ok y hy).2⟩
  sub := h.sub
  noT := fun y hy => by
    rcases List.mem_append.mp hy with hy | hy
    · exact h.noT y hy
    · rw [List.mem_singleton.mp hy]; exact hT
  cov := fun y hy ha => by
    rcases List.mem_append.mp hy with hy | hy
    · exact h.cov y hy ha
    · rw [List.mem_singleton.mp hy] at ha ⊢
      rcases hs with hs | hs
      · rcases h.snd _ hs with e | ⟨z, hz, e⟩
        · exact .inr e
        · exact .inl ⟨z, hz, e, .inr (hb z (h.ok z hz).1)⟩
      · rw [hs] at ha; cases ha
  snd := h.snd
  nd := h.nd
  few := h.few
theorem LM.push {T : S → Bool} {k : Nat} {dn lt : List (List Int × S)} {seen : List S} (h : LM (ps := ps) (δ := δ) (s0 := s0) (al := al) T k dn lt seen) {x : List Int × S} (hT : T x.2 = false) (hs : x.2 ∉ seen) (ha : al x.2 = true) (hb : ∀ y ∈ dn, sllt y.1 x.1) : LM (ps := ps) (δ := δ) (s0 := s0) (al := al) T k (dn ++ [x]) (lt ++ [x]) (seen ++ [x.2]) where
  ok := fun y hy => by
    rcases List.mem_append.mp hy with hy | hy
    · exact ⟨List.mem_append_left _ (h.ok y hy).1, (h.ok y hy).2⟩
    · rw [List.mem_singleton.mp hy]; exact ⟨List.mem_append_right _ (List.mem_singleton.mpr rfl), ha⟩
  sub := by
    rw [List.map_append, List.pairwise_append]
    refine ⟨h.sub, List.pairwise_singleton _ _, fun a ha b hb2 => ?_⟩
    rw [List.mem_singleton.mp hb2]
    obtain ⟨y, hy, rfl⟩ := List.mem_map.mp ha
    exact hb y (h.ok y hy).1
  noT := fun y hy => by
    rcases List.mem_append.mp hy with hy | hy
    · exact h.noT y hy
    · rw [List.mem_singleton.mp hy]; exact hT
  cov := fun y hy ha => by
    rcases List.mem_append.mp hy with hy | hy
    · rcases h.cov y hy ha with ⟨z, hz, e⟩ | e
      · exact .inl ⟨z, List.mem_append_left _ hz, e⟩
      · exact .inr e
    · rw [List.mem_singleton.mp hy]
      exact .inl ⟨x, List.mem_append_right _ (List.mem_singleton.mpr rfl), rfl, sle_refl _⟩
  snd := fun t ht => by
    rcases List.mem_append.mp ht with ht | ht
    · rcases h.snd t ht with e | ⟨z, hz, e⟩
      · exact .inl e
      · exact .inr ⟨z, List.mem_append_left _ hz, e⟩
    · rw [List.mem_singleton.mp ht]
      exact .inr ⟨x, List.mem_append_right _ (List.mem_singleton.mpr rfl), rfl⟩
  nd := by
    rw [List.nodup_append]
    exact ⟨h.nd, by simp, fun a ha b hb z => hs (by rw [List.mem_singleton.mp hb] at z; exact z ▸ ha)⟩
  few := by
    have := h.few
    rw [List.length_append, List.length_singleton]
    have : (if lt ++ [x] = [] then 0 else 1) ≤ 1 := by split <;> omega
    have : k ≤ seen.length := by have := h.few; split at this <;> omega
    omega
abbrev kidsAll (ps : List Int) (δ : S → Int → S) (ly : List (List Int × S)) : List (List Int × S) := ly.flatMap (kids ps δ)
theorem kidsAll_sorted (hp : ps.Pairwise (· < ·)) : ∀ {ly : List (List Int × S)}, (ly.map (·.1)).Pairwise sllt → ((kidsAll ps δ ly).map (·.1)).Pairwise sllt
  | [], _ => .nil
  | x :: ly, h => by
    rw [List.map_cons, List.pairwise_cons] at h
    show ((kids ps δ x ++ kidsAll ps δ ly).map (·.1)).Pairwise sllt
    rw [List.map_append, List.pairwise_append]
    refine ⟨kids_sorted hp, kidsAll_sorted hp h.2, fun a ha b hb => ?_⟩
    obtain ⟨y, hy, rfl⟩ := List.mem_map.mp ha
    obtain ⟨z, hz, rfl⟩ := List.mem_map.mp hb
    obtain ⟨p, _, rfl⟩ := List.mem_map.mp hy
    obtain ⟨u, hu, hz⟩ := List.mem_flatMap.mp hz
    obtain ⟨q, _, rfl⟩ := List.mem_map.mp hz
    exact sllt_snoc _ _ (h.1 u.1 (List.mem_map.mpr ⟨u, hu, rfl⟩))
theorem LI.kid {T : S → Bool} {k : Nat} {ly : List (List Int × S)} {seen : List S} (h : LI (ps := ps) (δ := δ) (s0 := s0) (al := al) T k ly seen) {x : List Int × S} (hx : x ∈ kidsAll ps δ ly) : Valid ps δ s0 al x.1 ∧ x.2 = run δ s0 x.1 ∧ x.1.length = k + 1 := by
  obtain ⟨u, hu, hx⟩ := List.mem_flatMap.mp hx
  obtain ⟨p, hp, rfl⟩ := List.mem_map.mp hx
  obtain ⟨h1, h2, h3, h4⟩ := h.ok u hu
  exact ⟨.snoc h1 (by rw [← h2]; exact h4) hp, by show δ u.2 p = _; rw [run_snoc, ← h2], by simp [h3]⟩
/-- a film of one frame more: a kid leads to the same, or a shorter film does -/
theorem LI.cov1 {T : S → Bool} {k : Nat} {ly : List (List Int × S)} {seen : List S} (h : LI (ps := ps) (δ := δ) (s0 := s0) (al := al) T k ly seen) {v : List Int} (hv : Valid ps δ s0 al v) (hl : v.length = k + 1) : (∃ x ∈ kidsAll ps δ ly, x.2 = run δ s0 v ∧ sle x.1 v) ∨ ∃ u, Valid ps δ s0 al u ∧ u.length ≤ k ∧ run δ s0 u = run δ s0 v := by
  rcases Valid.back ps δ s0 al hv with e | ⟨u, p, rfl, hu, ha, hp⟩
  · rw [e] at hl; simp at hl
  · have hul : u.length = k := by simpa using hl
    rcases h.cov u hu hul ha with ⟨x, hx, e1, e2⟩ | ⟨w, hw, e1, e2⟩
    · refine .inl ⟨(x.1 ++ [p], δ x.2 p), List.mem_flatMap.mpr ⟨x, hx, List.mem_map.mpr ⟨p, hp, rfl⟩⟩, ?_, sle_snoc p e2⟩
      show δ x.2 p = _
      rw [run_snoc, e1]
    · refine .inr ⟨w ++ [p], .snoc hw (by rw [e2]; exact ha) hp, by simp; omega, ?_⟩
      rw [run_snoc, run_snoc, e2]
/-- the layer ends without a film of the kind -/
theorem LI.next {T : S → Bool} {k : Nat} {ly lt : List (List Int × S)} {seen seen' : List S} (h : LI (ps := ps) (δ := δ) (s0 := s0) (al := al) T k ly seen) (m : LM (ps := ps) (δ := δ) (s0 := s0) (al := al) T k (kidsAll ps δ ly) lt seen') (hne : lt ≠ []) : LI (ps := ps) (δ := δ) (s0 := s0) (al := al) T (k + 1) lt seen' where
  ok := fun x hx => by
    obtain ⟨g1, g2⟩ := m.ok x hx
    obtain ⟨q1, q2, q3⟩ := h.kid g1
    exact ⟨q1, q2, q3, g2⟩
  sorted := m.sub
  no := fun v hv hl => by
    by_cases e : v.length ≤ k
    · exact h.no v hv e
    · rcases h.cov1 hv (by omega) with ⟨x, hx, e1, _⟩ | ⟨u, hu, e1, e2⟩
      · rw [← e1]; exact m.noT x hx
      · rw [← e2]; exact h.no u hu e1
  cov := fun v hv hl ha => by
    rcases h.cov1 hv hl with ⟨x, hx, e1, e2⟩ | ⟨u, hu, e1, e2⟩
    · rcases m.cov x hx (by rw [e1]; exact ha) with ⟨y, hy, e3, e4⟩ | ⟨u, hu, e3, e4⟩
      · exact .inl ⟨y, hy, e3.trans e1, sle_trans e4 e2⟩
      · exact .inr ⟨u, hu, by omega, e4.trans e1⟩
    · exact .inr ⟨u, hu, by omega, e2⟩
  snd := fun t ht => by
    rcases m.snd t ht with ⟨u, hu, e1, e2⟩ | ⟨y, hy, e⟩
    · exact ⟨u, hu, by omega, e2⟩
    · obtain ⟨q1, q2, q3⟩ := h.kid (m.ok y hy).1
      exact ⟨y.1, q1, by omega, q2.symm.trans e⟩
  nd := m.nd
  few := by have := m.few; rw [if_neg hne] at this; exact this
/-- .. and with nothing later: there is none -/
theorem LI.none {T : S → Bool} {k : Nat} {ly : List (List Int × S)} {seen seen' : List S} (h : LI (ps := ps) (δ := δ) (s0 := s0) (al := al) T k ly seen) (m : LM (ps := ps) (δ := δ) (s0 := s0) (al := al) T k (kidsAll ps δ ly) [] seen') : ∀ v, Valid ps δ s0 al v → T (run δ s0 v) = false := by
  have hk : ∀ v, Valid ps δ s0 al v → v.length ≤ k + 1 → T (run δ s0 v) = false := fun v hv hl => by
    by_cases e : v.length ≤ k
    · exact h.no v hv e
    · rcases h.cov1 hv (by omega) with ⟨x, hx, e1, _⟩ | ⟨u, hu, e1, e2⟩
      · rw [← e1]; exact m.noT x hx
      · rw [← e2]; exact h.no u hu e1
  -- each film leads where one of at most k + 1 frames does
  have sh : ∀ v, Valid ps δ s0 al v → ∃ u, Valid ps δ s0 al u ∧ u.length ≤ k + 1 ∧ run δ s0 u = run δ s0 v := by
    intro v hv
    induction hv with
    | nil => exact ⟨[], .nil, by simp, rfl⟩
    | @snoc u p hu ha hp ih =>
      obtain ⟨w, hw, e1, e2⟩ := ih
      have haw : al (run δ s0 w) = true := by rw [e2]; exact ha
      have hlow : ∃ w', Valid ps δ s0 al w' ∧ w'.length ≤ k ∧ run δ s0 w' = run δ s0 w := by
        by_cases e : w.length ≤ k
        · exact ⟨w, hw, e, rfl⟩
        · rcases h.cov1 hw (by omega) with ⟨x, hx, e3, _⟩ | e3
          · rcases m.cov x hx (by rw [e3]; exact haw) with ⟨y, hy, _⟩ | ⟨u', hu', e4, e5⟩
            · cases hy
            · exact ⟨u', hu', e4, e5.trans e3⟩
          · exact e3
      obtain ⟨w', hw', e3, e4⟩ := hlow
      refine ⟨w' ++ [p], .snoc hw' (by rw [e4]; exact haw) hp, by simp; omega, ?_⟩
      rw [run_snoc, run_snoc, e4, e2]
  intro v hv
  obtain ⟨u, hu, e1, e2⟩ := sh v hv
  rw [← e2]
  exact hk u hu e1
/-- a kid of the kind, none ahead of it: the least -/
theorem LI.hit {T : S → Bool} {k : Nat} {ly lt : List (List Int × S)} {seen seen' : List S} (h : LI (ps := ps) (δ := δ) (s0 := s0) (al := al) T k ly seen) (hp : ps.Pairwise (· < ·)) {dn rs : List (List Int × S)} {x : List Int × S} (he : kidsAll ps δ ly = dn ++ x :: rs) (hn : ∀ y ∈ dn, T y.2 = false) (hT : T x.2 = true) : Least ps δ s0 al T x.1 := by
  have hx : x ∈ kidsAll ps δ ly := by rw [he]; simp
  obtain ⟨q1, q2, q3⟩ := h.kid hx
  refine ⟨q1, by rw [← q2]; exact hT, fun v hv hvT => ?_⟩
  by_cases e : v.length ≤ k
  · rw [h.no v hv e] at hvT; cases hvT
  · by_cases e' : v.length = k + 1
    · rcases h.cov1 hv e' with ⟨y, hy, e1, e2⟩ | ⟨u, hu, e1, e2⟩
      · have hs := kidsAll_sorted (δ := δ) hp h.sorted
        rw [he] at hy hs
        rcases List.mem_append.mp hy with hy | hy
        · rw [← e1, hn y hy] at hvT; cases hvT
        · rcases List.mem_cons.mp hy with e3 | hy
          · rw [← e3]; exact e2
          · rw [List.map_append, List.pairwise_append, List.map_cons] at hs
            exact sle_trans (.inr ((List.pairwise_cons.mp hs.2.1).1 y.1 (List.mem_map.mpr ⟨y, hy, rfl⟩))) e2
      · rw [← e2, h.no u hu e1] at hvT; cases hvT
    · exact .inr (.inl (by omega))
theorem li_start {T : S → Bool} (h0 : al s0 = true) (hT : T s0 = false) : LI (ps := ps) (δ := δ) (s0 := s0) (al := al) T 0 [([], s0)] [] where
  ok := fun x hx => by rw [List.mem_singleton.mp hx]; exact ⟨.nil, rfl, rfl, h0⟩
  sorted := List.pairwise_singleton _ _
  no := fun v hv hl => by rw [List.eq_nil_of_length_eq_zero (Nat.le_zero.mp hl)]; exact hT
  cov := fun v hv hl ha => by rw [List.eq_nil_of_length_eq_zero hl]; exact .inl ⟨_, List.mem_singleton.mpr rfl, rfl, sle_refl _⟩
  snd := fun t ht => by cases ht
  nd := .nil
  few := Nat.zero_le _
end
end BF
set_option Elab.async false
set_option linter.all false
set_option maxRecDepth 100000
set_option maxHeartbeats 4000000
namespace PG
open PySem PySem.Spec PyProof.Rows L2 DL DI
local macro_rules | `(tactic| walk_at "run") => `(tactic| simp [evSs, evS, evT, evE, evA, evO, evI, evG_n, evG_t, evGs_n, evGs_c, startS, args, ownAt, dicAt, nAt, DI.putAt, Sl.own, Sl.put, atI0, atI1, gGt, gLt, gLe, gGe, gInt, gMod, gDiv, gAdd_ii, gSub_ii, gIadd, gMul, gPow, gLen, gLenO, gIx, ixN, isi_ii, isi_ib, isi_tt, gNot, gNeg, gSeq, DI.gTup, gLst, gTuple, gIs, gNis, isNo, wipeS, backS, Sl.kept, wipeO, -Option.map_bind, -Option.map_map, -Option.bind_fun_some, -Option.map_eq_map, -Option.bind_eq_bind, -Option.map_eq_some_iff, *])
/-! while -/
theorem s_wh {fuel : Nat} {t : IT} {body ss : ISs} {vs : List Nat} {ρ : List Sl} : evSs (.cons (.wh fuel t body vs) ss) ρ = (whGo (evT t) (fun ρ => (evSs body ρ).map (wipeO vs)) fuel (wipeS ρ vs)).bind fun o => match o with
    | .nx ρ1 => evSs ss ρ1
    | o => some o := by
  conv => lhs; unfold evSs
  unfold evS
  rfl
theorem s_stop {s : IS} {ss : ISs} {ρ ρ1 : List Sl} (h : evS s ρ = some (.ct ρ1)) : evSs (.cons s ss) ρ = some (.ct ρ1) := by
  unfold evSs
  rw [h]; rfl
theorem s_rt {s : IS} {ss : ISs} {ρ ρ1 : List Sl} {d : D} (h : evS s ρ = some (.rt d ρ1)) : evSs (.cons s ss) ρ = some (.rt d ρ1) := by
  unfold evSs
  rw [h]; rfl
theorem wh_ex {β : Type} {sl : β → List Sl} {P : β → Prop} {R : D → Prop} {done : β → Bool} {μ : β → Nat} {t : List Sl → Option (Bool × List Sl)} {f : List Sl → Option Out} (ht : ∀ b, P b → t (sl b) = some (!done b, sl b))
    (hf : ∀ b, P b → done b = false → (∃ b', P b' ∧ μ b' < μ b ∧ (f (sl b) = some (.nx (sl b')) ∨ f (sl b) = some (.ct (sl b')))) ∨ (0 < μ b ∧ ∃ d ρ', f (sl b) = some (.rt d ρ') ∧ R d)) :
    ∀ (n : Nat) (b : β), P b → μ b ≤ n → (∃ b', P b' ∧ done b' = true ∧ whGo t f n (sl b) = some (.nx (sl b'))) ∨ ∃ d ρ', whGo t f n (sl b) = some (.rt d ρ') ∧ R d
  | n, b, hb, hn => by
    cases hd : done b with
    | true =>
      refine .inl ⟨b, hb, hd, ?_⟩
      have := ht b hb
      rw [hd] at this
      cases n <;> (unfold whGo; rw [this]; rfl)
    | false =>
      have h1 := ht b hb
      rw [hd] at h1
      cases n with
      | zero =>
        rcases hf b hb hd with ⟨b', _, hlt, _⟩ | ⟨h0, _⟩
        · omega
        · omega
      | succ n =>
        rcases hf b hb hd with ⟨b', hb', hlt, e⟩ | ⟨_, d, ρ', e, r⟩
        · have ih := wh_ex ht hf n b' hb' (by omega)
          have hw : whGo t f (n + 1) (sl b) = whGo t f n (sl b') := by
            conv => lhs; unfold whGo
            rw [h1]
            rcases e with e | e <;> (show ((f (sl b)).bind _) = _; rw [e]; rfl)
          rw [hw]
          exact ih
        · refine .inr ⟨d, ρ', ?_, r⟩
          unfold whGo
          rw [h1]
          show ((f (sl b)).bind _) = _
          rw [e]; rfl
theorem wh_done {β : Type} {sl : β → List Sl} {P : β → Prop} {R : D → Prop} {done : β → Bool} {o : Option Out} {C : Prop} (h : (∃ b', P b' ∧ done b' = true ∧ o = some (.nx (sl b'))) ∨ ∃ d ρ', o = some (.rt d ρ') ∧ R d) (h1 : ∀ b, P b → done b = true → o = some (.nx (sl b)) → C) (h2 : ∀ d ρ', o = some (.rt d ρ') → R d → C) : C :=
  h.elim (fun ⟨b, p, q, e⟩ => h1 b p q e) fun ⟨d, ρ', e, r⟩ => h2 d ρ' e r
theorem evE_f (gg : List D → Option D) (as : IA) (ρ : List Sl) : evE (.f gg as) ρ = (evA as ρ).bind fun p => (gg p.1).map fun d => (d, p.2) := by conv => lhs; unfold evE
theorem evE_v {n : Nat} {x : D} {ρ : List Sl} (h : ρ[n]? = some (.d x)) : evE (.v n) ρ = some (x, ρ) := by unfold evE; rw [h]
theorem evE_o {io : IO} {ys : List D} {ρ ρ' : List Sl} (h : evO io ρ = some (ys, ρ')) : evE (.o io) ρ = some (.list ys, ρ') := by unfold evE; rw [h]; rfl
theorem evA_c (e : IE) (as : IA) (ρ : List Sl) : evA (.cons e as) ρ = (evE e ρ).bind fun p => (evA as p.2).map fun q => (p.1 :: q.1, q.2) := by conv => lhs; unfold evA
theorem evA_n (ρ : List Sl) : evA .nil ρ = some ([], ρ) := by unfold evA; rfl
theorem evAddO {n : Nat} {x z : D} {io : IO} {ys : List D} {ρ ρ' : List Sl} (h : ρ[n]? = some (.d x)) (h2 : evO io ρ = some (ys, ρ')) (h3 : gAdd [x, .list ys] = some z) : evE (.f gAdd (.cons (.v n) (.cons (.o io) .nil))) ρ = some (z, ρ') := by
  rw [evE_f, evA_c, evE_v h]
  simp only [Option.bind_some]
  rw [evA_c, evE_o h2]
  simp only [Option.bind_some]
  rw [evA_n]
  simp only [Option.map_some, Option.bind_some, h3]
end PG
set_option Elab.async false
set_option linter.all false
set_option maxRecDepth 100000
set_option maxHeartbeats 4000000
namespace PG
open PySem PySem.Spec PyProof.Rows L2 DL DI
local macro_rules | `(tactic| walk_at "run") => `(tactic| simp [evSs, evS, evT, evE, evA, evO, evI, evG_n, evG_t, evGs_n, evGs_c, startS, args, ownAt, dicAt, nAt, DI.putAt, Sl.own, Sl.put, atI0, atI1, gGt, gLt, gLe, gGe, gInt, gMod, gDiv, gAdd_ii, gSub_ii, gIadd, gMul, gPow, gLen, gLenO, gIx, ixN, isi_ii, isi_ib, isi_tt, gNot, gNeg, gSeq, DI.gTup, gLst, gTuple, gIs, gNis, isNo, wipeS, backS, Sl.kept, wipeO, -Option.map_bind, -Option.map_map, -Option.bind_fun_some, -Option.map_eq_map, -Option.bind_eq_bind, -Option.map_eq_some_iff, *])
abbrev SS := List Int × List Int
abbrev eS (s : SS) : D := .tuple [eT s.1, eT s.2]
abbrev eW (x : List Int × SS) : D := .tuple [eT x.1, eT x.2.1, eT x.2.2]
abbrev eF (f : SS × List Int) : D × D := (eS f.1, eT f.2)
def nS (s : SS) : NK := .tup [.tup (s.1.map .num), .tup (s.2.map .num)]
theorem allS_nums (n : Nat) : ∀ a : List Int, allS (toN n) (a.map .int) = some (a.map .num)
  | [] => rfl
  | x :: a => by
    show (toN n (.int x)).bind (fun k => (allS (toN n) (a.map .int)).map fun l => k :: l) = _
    rw [allS_nums n a]
    cases n <;> rfl
theorem toNT_eS (s : SS) : toNT (eS s) = some (nS s) := by
  have h : ∀ a : List Int, toN 7 (eT a) = some (.tup (a.map .num)) := fun a => by
    show (allS (toN 6) (a.map .int)).map NestedKey.tup = _
    rw [allS_nums]; rfl
  show (allS (toN 7) [eT s.1, eT s.2]).map NestedKey.tup = _
  show ((toN 7 (eT s.1)).bind fun k => (((toN 7 (eT s.2)).bind fun k2 => (some []).map fun l => k2 :: l)).map fun l => k :: l).map NestedKey.tup = _
  rw [h, h]; rfl
theorem nums_inj : ∀ {a b : List Int}, a.map NestedKey.num = b.map NestedKey.num → a = b
  | [], [], _ => rfl
  | [], _ :: _, h => by cases h
  | _ :: _, [], h => by cases h
  | x :: a, y :: b, h => by
    simp only [List.map_cons, List.cons.injEq, NestedKey.num.injEq] at h
    rw [h.1, nums_inj h.2]
theorem nS_inj {s t : SS} (h : nS s = nS t) : s = t := by
  unfold nS at h
  simp only [NestedKey.tup.injEq, List.cons.injEq, and_true] at h
  exact Prod.ext (nums_inj h.1) (nums_inj h.2)
theorem getN_F (s : SS) : ∀ fd : List (SS × List Int), getN (fd.map eF) (nS s) = (fd.find? fun f => decide (f.1 = s)).map fun f => eT f.2
  | [] => rfl
  | f :: fd => by
    rw [List.map_cons, getN_cons, toNT_eS, List.find?_cons]
    by_cases e : f.1 = s
    · rw [if_pos (by rw [e]), decide_eq_true e]; rfl
    · rw [if_neg (fun z => e (nS_inj (Option.some.inj z))), decide_eq_false e, getN_F s fd]
theorem find_some (s : SS) : ∀ fd : List (SS × List Int), (fd.find? fun f => decide (f.1 = s)).isSome = decide (s ∈ fd.map (·.1))
  | [] => by simp
  | f :: fd => by
    rw [List.find?_cons]
    by_cases e : f.1 = s
    · rw [decide_eq_true e]; subst e; simp
    · rw [decide_eq_false e, find_some s fd]
      have e' : ¬ s = f.1 := fun z => e z.symm
      simp [e']
theorem gInN_F (fd : List (SS × List Int)) (s : SS) : gInN (fd.map eF) [eS s] = some (.bool (decide (s ∈ fd.map (·.1)))) := by
  show (toNT (eS s)).map (fun k => PyData.bool (getN (fd.map eF) k).isSome) = _
  rw [toNT_eS, Option.map_some, getN_F, Option.isSome_map, find_some]
theorem putN_F {fd : List (SS × List Int)} {s : SS} {w : List Int} (h : s ∉ fd.map (·.1)) : putN (fd.map eF) (nS s) (eS s) (eT w) = (fd ++ [(s, w)]).map eF := by
  unfold putN
  rw [getN_F, Option.isSome_map, find_some, if_neg (by rw [decide_eq_false h]; simp), List.map_append]
  rfl
/-! what two reels do -/
section
variable (a b : Reel) (g : Option Nat)
def dl (s : SS) (p : Int) : SS := (stepM a (leapsM a g) s.1 p, stepM b (leapsM b g) s.2 p)
def st0 : SS := (ahead a, ahead b)
def alv (s : SS) : Bool := !decide (s.1 = []) && !decide (s.2 = [])
def psO : List Int := setI (a.pics ++ b.pics)
end
section
variable {a b : Reel} {g : Option Nat}
theorem psO_lt : (psO a b).Pairwise (· < ·) := setI_lt _
theorem nodup_sub {α : Type} [DecidableEq α] : ∀ {xs ys : List α}, xs.Nodup → (∀ x ∈ xs, x ∈ ys) → xs.length ≤ ys.length
  | [], _, _, _ => Nat.zero_le _
  | x :: xs, ys, h, hs => by
    rw [List.nodup_cons] at h
    have hx := hs x List.mem_cons_self
    have ih := nodup_sub (xs := xs) (ys := ys.erase x) h.2 fun y hy => (List.mem_erase_of_ne (fun z => h.1 (by rw [← z]; exact hy))).mpr (hs y (List.mem_cons_of_mem _ hy))
    rw [List.length_erase_of_mem hx] at ih
    have := List.length_pos_of_mem hx
    rw [List.length_cons]
    omega
theorem psO_len (ha : a.Ok) (hb : b.Ok) : (psO a b).length ≤ 12 := by
  have h1 : (psO a b).length ≤ (a.pics ++ b.pics).length := nodup_sub (psO_lt.imp fun h => by omega) fun x hx => mem_setI.mp hx
  rw [List.length_append, ha.pl, hb.pl] at h1
  have := ha.few
  have := hb.few
  omega
/-! few lots -/
def subs : List Int → List (List Int)
  | [] => [[]]
  | x :: l => subs l ++ (subs l).map (x :: ·)
theorem subs_len : ∀ l : List Int, (subs l).length = 2 ^ l.length
  | [] => rfl
  | x :: l => by
    show (subs l ++ (subs l).map (x :: ·)).length = _
    rw [List.length_append, List.length_map, subs_len l, List.length_cons, Nat.pow_succ]
    omega
theorem subs_mem {xs l : List Int} (h : xs.Sublist l) : xs ∈ subs l := by
  induction h with
  | slnil => exact List.mem_singleton.mpr rfl
  | cons x _ ih => exact List.mem_append_left _ ih
  | cons_cons x _ ih => exact List.mem_append_right _ (List.mem_map.mpr ⟨_, ih, rfl⟩)
def lots (r : Reel) : List (List Int) := subs (upTo0 r.nexts.length) ++ [ahead r]
theorem lots_len {r : Reel} (h : r.Ok) : (lots r).length ≤ 65 := by
  unfold lots
  rw [List.length_append, subs_len, upTo_len, List.length_singleton]
  have : 2 ^ r.nexts.length ≤ 2 ^ 6 := Nat.pow_le_pow_right (by decide) h.few
  omega
theorem in_lots {r : Reel} {st : List Int} (hs : st.Pairwise (· < ·)) (hi : In r.nexts.length st) : st ∈ lots r := by
  refine List.mem_append_left _ (subs_mem (sub_list (ys := upTo0 r.nexts.length) hs (upTo_lt _) fun x hx => ?_))
  have := hi x hx
  unfold upTo0
  refine List.mem_map.mpr ⟨x.toNat, List.mem_range.mpr (by omega), by omega⟩
theorem behind_lots {r : Reel} (h : r.Ok) (g : Option Nat) (w : List Int) : StOk r.nexts.length (w.foldl (stepM r (leapsM r g)) (ahead r)) ∧ w.foldl (stepM r (leapsM r g)) (ahead r) ∈ lots r ∧ (w ≠ [] → In r.nexts.length (w.foldl (stepM r (leapsM r g)) (ahead r))) := by
  rcases List.eq_nil_or_concat w with e | ⟨u, p, e⟩
  · subst e
    exact ⟨ahead_ok h, List.mem_append_right _ (List.mem_singleton.mpr rfl), fun z => (z rfl).elim⟩
  · rw [e, List.concat_eq_append, List.foldl_append]
    show StOk _ (stepM r (leapsM r g) _ p) ∧ stepM r (leapsM r g) _ p ∈ lots r ∧ (_ → In _ (stepM r (leapsM r g) _ p))
    exact ⟨step_ok (leaps_ok h g), in_lots (step_ok (leaps_ok h g)).1 (step_in (leaps_ok h g)), fun _ => step_in (leaps_ok h g)⟩
theorem run_dl (a b : Reel) (g : Option Nat) : ∀ (w : List Int) (s : SS), w.foldl (dl a b g) s = (w.foldl (stepM a (leapsM a g)) s.1, w.foldl (stepM b (leapsM b g)) s.2)
  | [], _ => rfl
  | p :: w, s => by rw [List.foldl_cons, run_dl a b g w]; rfl
theorem run_two (a b : Reel) (g : Option Nat) (w : List Int) : BF.run (dl a b g) (st0 a b) w = (w.foldl (stepM a (leapsM a g)) (ahead a), w.foldl (stepM b (leapsM b g)) (ahead b)) := run_dl a b g w _
def pairsO (a b : Reel) : List SS := (lots a).flatMap fun x => (lots b).map fun y => (x, y)
theorem pairsO_len (ha : a.Ok) (hb : b.Ok) : (pairsO a b).length ≤ 4225 := by
  have h1 := lots_len ha
  have h2 := lots_len hb
  have : ∀ l : List (List Int), (l.flatMap fun x => (lots b).map fun y => (x, y)).length = l.length * (lots b).length := fun l => by
    induction l with
    | nil => simp
    | cons x l ih => rw [List.flatMap_cons, List.length_append, ih, List.length_map, List.length_cons, Nat.succ_mul]; omega
  unfold pairsO
  rw [this]
  calc (lots a).length * (lots b).length ≤ 65 * 65 := Nat.mul_le_mul h1 h2
    _ = 4225 := rfl
theorem run_pairs (ha : a.Ok) (hb : b.Ok) (w : List Int) : BF.run (dl a b g) (st0 a b) w ∈ pairsO a b := by
  rw [run_two]
  exact List.mem_flatMap.mpr ⟨_, (behind_lots ha g w).2.1, List.mem_map.mpr ⟨_, (behind_lots hb g w).2.1, rfl⟩⟩
/-! the program's steps -/
theorem nextT_run {r : Reel} {rows : List (List Int)} {st : List Int} {p : Int} (hr : r.Ok) (hrow : RowsOk r.nexts.length rows) (hst : StOk r.nexts.length st) : r_states_at_next [eReel r, eRows rows, eT st, .int p] = some (eL (stepM r rows st p)) := by
  have n6 := hr.few
  have st7 : st.length ≤ 7 := by have := lt_len hst.1 hst.2; omega
  have h6 : ∀ x, (nx rows x).length ≤ 6 := fun x => by
    rcases nx_mem (ns := rows) (s := x) with e | e
    · rw [e]; exact Nat.zero_le _
    · exact Nat.le_trans (lt_len (hrow.row _ e).1 (hrow.row _ e).2) n6
  refine run_rt (ρ := [.d (eReel r), .d (eRows rows), .d (eT st), .d (.int p), .d (eT r.pics), .u, .u]) ?_
  unfold i_states_at_next
  refine (s_cons (ρ1 := [.d (eReel r), .d (eRows rows), .d (eT st), .d (.int p), .d (eT r.pics), .u, .u]) ?_).trans (s_ret ?_)
  · walk_at "run"
  · have hl : ((st.flatMap (nx rows)).filter fun a => decide (picAt r.pics a = p)).length ≤ 42 := by
      have h1 := flat_len (f := nx rows) (k := 6) (l := st) fun x _ => h6 x
      have h2 := List.length_filter_le (fun a => decide (picAt r.pics a = p)) (st.flatMap (nx rows))
      omega
    have hset := gSet_ints (a := (st.flatMap (nx rows)).filter fun a => decide (picAt r.pics a = p)) (by omega)
    have hfew := few_len (ys := ((st.flatMap (nx rows)).filter fun a => decide (picAt r.pics a = p)).map PyData.int) (n := 42) (by rw [List.length_map]; exact hl) (by decide)
    walk_at "run"
    rw [lc2_map (enc := .int) (ys := fun s => ((nx rows s).filter fun a => decide (picAt r.pics a = p)).map PyData.int) st fun a ha => ?_, ← List.map_flatMap, ← List.filter_flatMap]
    · simp only [Option.bind_some, hfew, if_true, hset, Option.map_some]
      rfl
    · have hin := hst.2 a ha
      have hix : atI (rows.map eL) a = some (eL (nx rows a)) := atI_map (f := eL) hin.1 (nx_at hin.1 (by have := hin.2; rw [hrow.len]; exact this))
      walk_at "run"
      rw [lc_filter (enc := .int) (g := .int) (p := fun a => decide (picAt r.pics a = p)) (nx rows a) fun t ht => ?_]
      · simp only [Option.map_some]
        rfl
      · have hin : 0 ≤ t ∧ t < r.nexts.length := by
          rcases nx_mem (ns := rows) (s := a) with e | e
          · rw [e] at ht; cases ht
          · exact (hrow.row _ e).2 t ht
        have hpx : atI (r.pics.map PyData.int) t = some (.int (picAt r.pics t)) := atI_map (f := PyData.int) hin.1 (pic_at hr hin)
        have he := gEq_ii (picAt r.pics t) p
        by_cases hp : picAt r.pics t = p
        · rw [decide_eq_true hp] at he
          have he2 : gEq [.int p, .int p] = some true := by rw [gEq_ii]; simp
          walk_at "run"
        · rw [decide_eq_false hp] at he
          walk_at "run"
theorem ckreel_run {r : Reel} (h : r.Ok) : r_check_reel [eReel r] = some .none := by
  have hw := wrong_run h
  refine run_nx (ρ := [.d (eReel r), .d .none]) ?_
  unfold i_check_reel
  walk_at "run"
theorem cktwo_run (ha : a.Ok) (hb : b.Ok) (hg : GapOk g) : r_check_two [eReel a, eReel b, eGap g] = some .none := by
  have h1 := ckreel_run ha
  have h2 := ckreel_run hb
  have h3 := ckgap_run hg
  refine run_nx (ρ := [.d (eReel a), .d (eReel b), .d (eGap g)]) ?_
  unfold i_check_two
  walk_at "run"
theorem pics_run (ha : a.Ok) (hb : b.Ok) : r_law_pictures [eReel a, eReel b] = some (eL (psO a b)) := by
  have l1 := ha.pl
  have l2 := hb.pl
  have h1 := ha.few
  have h2 := hb.few
  have hadd := gAdd_TT (xs := a.pics.map PyData.int) (ys := b.pics.map PyData.int) (by rw [List.length_map, List.length_map]; omega)
  rw [← List.map_append] at hadd
  have hset := gSet_intsT (a := a.pics ++ b.pics) (by rw [List.length_append]; omega)
  have hp : (setI (a.pics ++ b.pics)) = psO a b := rfl
  rw [hp] at hset
  refine run_rt (ρ := [.d (eReel a), .d (eReel b)]) ?_
  unfold i_law_pictures
  refine s_ret ?_
  clear hp
  rw [List.map_append] at hadd hset
  walk_at "run"
end
end PG
set_option Elab.async false
set_option linter.all false
set_option maxRecDepth 100000
set_option maxHeartbeats 4000000
namespace PG
open PySem PySem.Spec PyProof.Rows L2 DL DI
local macro_rules | `(tactic| walk_at "run") => `(tactic| simp [evSs, evS, evT, evE, evA, evO, evI, evG_n, evG_t, evGs_n, evGs_c, startS, args, ownAt, dicAt, nAt, DI.putAt, Sl.own, Sl.put, atI0, atI1, gGt, gLt, gLe, gGe, gInt, gMod, gDiv, gAdd_ii, gSub_ii, gIadd, gMul, gPow, gLen, gLenO, gIx, ixN, isi_ii, isi_ib, isi_tt, gNot, gNeg, gSeq, DI.gTup, gLst, gTuple, gIs, gNis, isNo, wipeS, backS, Sl.kept, wipeO, -Option.map_bind, -Option.map_map, -Option.bind_fun_some, -Option.map_eq_map, -Option.bind_eq_bind, -Option.map_eq_some_iff, *])
section
variable {a b : Reel} {g : Option Nat}
structure Q3 where
  wt : List (List Int × SS)
  at' : Nat
  fd : List (SS × List Int)
/-- the queue's state -/
structure QOk (a b : Reel) (g : Option Nat) (q : Q3) : Prop where
  pi : BF.PI (psO a b) (dl a b g) (st0 a b) alv q.wt q.at' q.fd
  ln : ∀ x ∈ q.wt, x.1.length ≤ q.at'
def qstep (a b : Reel) (g : Option Nat) (x : List Int × SS) (q : Q3) : Q3 := if x.2 ∈ q.fd.map (·.1) then ⟨q.wt, q.at' + 1, q.fd⟩ else ⟨q.wt ++ if alv x.2 = true then BF.kids (psO a b) (dl a b g) x else [], q.at' + 1, q.fd ++ [(x.2, x.1)]⟩
theorem qstep_ok {q : Q3} (h : QOk a b g q) {x : List Int × SS} (hx : q.wt[q.at']? = some x) : QOk a b g (qstep a b g x q) := by
  unfold qstep
  split
  · rename_i hin
    exact ⟨h.pi.skip hx hin, fun y hy => by have := h.ln y hy; show _ ≤ q.at' + 1; omega⟩
  · rename_i hin
    refine ⟨h.pi.grow psO_lt hx hin, fun y hy => ?_⟩
    show _ ≤ q.at' + 1
    rcases List.mem_append.mp hy with hy | hy
    · have := h.ln y hy; omega
    · split at hy
      · obtain ⟨p, _, rfl⟩ := List.mem_map.mp hy
        have := h.ln x (List.mem_of_getElem? hx)
        simp
        omega
      · cases hy
theorem q_len (ha : a.Ok) (hb : b.Ok) {q : Q3} (h : QOk a b g q) : q.wt.length ≤ 50701 ∧ q.fd.length ≤ 4225 := by
  have h1 := h.pi.len
  have h2 := psO_len ha hb
  have h3 : (q.fd.map (·.1)).length ≤ (pairsO a b).length := nodup_sub h.pi.nd fun s hs => by
    obtain ⟨f, hf, rfl⟩ := List.mem_map.mp hs
    have := h.pi.fnd f hf
    have := (h.pi.ok _ (List.mem_of_mem_take this)).2
    rw [show f.1 = _ from this]
    exact run_pairs ha hb _
  rw [List.length_map] at h3
  have h4 := pairsO_len ha hb
  have h5 : (psO a b).length * q.fd.length ≤ 12 * 4225 := Nat.mul_le_mul h2 (by omega)
  omega
theorem gIxO_W (wt : List (List Int × SS)) (n : Nat) {x : List Int × SS} (h : wt[n]? = some x) : gIxO (wt.map eW) [.int (n : Nat)] = some (eW x) := by
  show atI (wt.map eW) (n : Nat) = _
  exact atI_nat (j := n) (by rw [List.getElem?_map, h]; rfl)
theorem q_st (ha : a.Ok) (hb : b.Ok) {q : Q3} (h : QOk a b g q) {x : List Int × SS} (hx : x ∈ q.wt) : StOk a.nexts.length x.2.1 ∧ StOk b.nexts.length x.2.2 := by
  have := (h.pi.ok x hx).2
  rw [this, run_two]
  exact ⟨(behind_lots ha g _).1, (behind_lots hb g _).1⟩
theorem toNTk (s : SS) : toNT (.tuple [eT s.1, eT s.2]) = some (nS s) := toNT_eS s
def qsl (a b : Reel) (g : Option Nat) (q : Q3) : List Sl := [.d (eReel a), .d (eReel b), .d (eGap g), .d (eRows (leapsM a g)), .d (eRows (leapsM b g)), .d (eL (psO a b)), .n (q.fd.map eF), .o (q.wt.map eW), .d (.int (q.at' : Nat)), .u, .u, .u, .u, .u, .u]
theorem alv_eq (s : SS) : alv s = (decide (0 < s.1.length) && decide (0 < s.2.length)) := by
  unfold alv
  cases h1 : s.1 <;> cases h2 : s.2 <;> simp
theorem gAppN {xs : List D} {x : D} (h : xs.length < 1000000) : gApp xs [x] = some (xs ++ [x]) := if_pos h
theorem first_run (ha : a.Ok) (hb : b.Ok) (hg : GapOk g) : ∃ q, QOk a b g q ∧ q.at' = q.wt.length ∧ r_first_films [eReel a, eReel b, eGap g] = some (ndD (q.fd.map eF)) := by
  have l1 := leaps_run (r := a) ha hg
  have l2 := leaps_run (r := b) hb hg
  have hpl1 := ha.pl
  have hpl2 := hb.pl
  have hf1 := ha.few
  have hf2 := hb.few
  have hadd := gAdd_TT (xs := a.pics.map PyData.int) (ys := b.pics.map PyData.int) (by rw [List.length_map, List.length_map]; omega)
  have hset := gSet_intsT (a := a.pics ++ b.pics) (by rw [List.length_append]; omega)
  have hp : (setI (a.pics ++ b.pics)) = psO a b := rfl
  rw [hp, List.map_append] at hset
  clear hp
  have a1 := ahead_run a
  have a2 := ahead_run b
  let q0 : Q3 := ⟨[([], st0 a b)], 0, []⟩
  have h0 : QOk a b g q0 := ⟨BF.pi_start _ _ _ _, fun x hx => by rw [List.mem_singleton.mp hx]; exact Nat.zero_le _⟩
  unfold r_first_films runD i_first_films
  show ∃ q, _ ∧ _ ∧ (evSs _ [.d (eReel a), .d (eReel b), .d (eGap g), .u, .u, .u, .u, .u, .u, .u, .u, .u, .u, .u, .u]).bind _ = _
  rw [s_cons (ρ1 := [.d (eReel a), .d (eReel b), .d (eGap g), .d (eRows (leapsM a g)), .d (eRows (leapsM b g)), .u, .u, .u, .u, .u, .u, .u, .u, .u, .u]) (by walk_at "run"),
    s_cons (ρ1 := [.d (eReel a), .d (eReel b), .d (eGap g), .d (eRows (leapsM a g)), .d (eRows (leapsM b g)), .d (eL (psO a b)), .u, .u, .u, .u, .u, .u, .u, .u, .u]) (by clear a1 a2 l1 l2; walk_at "run"),
    s_cons (ρ1 := [.d (eReel a), .d (eReel b), .d (eGap g), .d (eRows (leapsM a g)), .d (eRows (leapsM b g)), .d (eL (psO a b)), .n [], .u, .u, .u, .u, .u, .u, .u, .u]) (by rfl),
    s_cons (ρ1 := [.d (eReel a), .d (eReel b), .d (eGap g), .d (eRows (leapsM a g)), .d (eRows (leapsM b g)), .d (eL (psO a b)), .n [], .o [eW ([], st0 a b)], .u, .u, .u, .u, .u, .u, .u]) (by clear hadd hset l1 l2; walk_at "run"; exact ⟨rfl, rfl⟩),
    s_cons (ρ1 := qsl a b g q0) (by rfl), s_wh]
  show ∃ q, _ ∧ _ ∧ ((whGo _ _ 100000 (qsl a b g q0)).bind _).bind _ = _
  generalize hw : whGo _ _ 100000 (qsl a b g q0) = o
  have key : ∃ q, QOk a b g q ∧ q.at' = q.wt.length ∧ o = some (.nx (qsl a b g q)) := by
    subst hw
    clear hadd hset a1 a2 l1 l2
    refine wh_done (R := fun _ => False) (wh_ex (sl := qsl a b g) (P := QOk a b g) (R := fun _ => False) (done := fun q => !decide (q.at' < q.wt.length)) (μ := fun q => 50701 - q.at') (fun q hq => ?_) (fun q hq hd => ?_) 100000 q0 h0 (by show 50701 - 0 ≤ 100000; omega)) (fun q hq hd e => ⟨q, hq, ?_, e⟩) (fun _ _ _ r => r.elim)
    · show (evE _ _).bind _ = _
      by_cases hc : q.at' < q.wt.length
      · have hc2 : ((q.at' : Nat) : Int) < ((q.wt.length : Nat) : Int) := by omega
        simp only [qsl]
        walk_at "run"
      · have hc2 : ¬ ((q.at' : Nat) : Int) < ((q.wt.length : Nat) : Int) := by omega
        simp only [qsl]
        walk_at "run"
    · left
      have hc : q.at' < q.wt.length := by simpa using hd
      obtain ⟨x, hx⟩ : ∃ x, q.wt[q.at']? = some x := ⟨_, List.getElem?_eq_getElem hc⟩
      have hxm := List.mem_of_getElem? hx
      have hlen := q_len ha hb hq
      refine ⟨qstep a b g x q, qstep_ok hq hx, ?_, ?_⟩
      · have : (qstep a b g x q).at' = q.at' + 1 := by unfold qstep; split <;> rfl
        show 50701 - (qstep a b g x q).at' < 50701 - q.at'
        omega
      · have hix := gIxO_W q.wt q.at' hx
        obtain ⟨w, s1, s2⟩ := x
        have hin := gInN_F q.fd (s1, s2)
        have hcast : (((q.at' + 1 : Nat)) : Int) = ((q.at' : Nat) : Int) + 1 := by push_cast; rfl
        let sl1 : List Sl := [.d (eReel a), .d (eReel b), .d (eGap g), .d (eRows (leapsM a g)), .d (eRows (leapsM b g)), .d (eL (psO a b)), .n (q.fd.map eF), .o (q.wt.map eW), .d (.int ((q.at' + 1 : Nat) : Nat)), .d (eT w), .d (eT s1), .d (eT s2), .u, .u, .u]
        show (evSs _ (qsl a b g q)).map _ = _ ∨ (evSs _ (qsl a b g q)).map _ = _
        rw [s_cons (ρ1 := [.d (eReel a), .d (eReel b), .d (eGap g), .d (eRows (leapsM a g)), .d (eRows (leapsM b g)), .d (eL (psO a b)), .n (q.fd.map eF), .o (q.wt.map eW), .d (.int (q.at' : Nat)), .d (eT w), .d (eT s1), .d (eT s2), .u, .u, .u]) (by
            clear hin
            simp only [qsl]
            walk_at "run"),
          s_cons (ρ1 := sl1) (by
            clear hin hix
            simp only [sl1, hcast]
            walk_at "run")]
        clear hix
        by_cases hm : (s1, s2) ∈ q.fd.map (·.1)
        · right
          rw [decide_eq_true hm] at hin
          rw [s_stop (ρ1 := sl1) (by
            clear hm hx hxm
            simp only [sl1]
            walk_at "run")]
          unfold qstep
          rw [if_pos hm]
          rfl
        · left
          rw [decide_eq_false hm] at hin
          have hput := putN_F (fd := q.fd) (s := (s1, s2)) (w := w) hm
          have hkt := toNTk (s1, s2)
          have hfl : q.fd.length ≤ 1000000 := by omega
          let sl2 : List (List Int × SS) → List Sl := fun wt => [.d (eReel a), .d (eReel b), .d (eGap g), .d (eRows (leapsM a g)), .d (eRows (leapsM b g)), .d (eL (psO a b)), .n ((q.fd ++ [((s1, s2), w)]).map eF), .o (wt.map eW), .d (.int ((q.at' + 1 : Nat) : Nat)), .d (eT w), .d (eT s1), .d (eT s2), .u, .u, .u]
          rw [s_cons (ρ1 := sl1) (by
              clear hput hkt hm hx hxm
              simp only [sl1]
              walk_at "run"),
            s_cons (ρ1 := sl2 q.wt) (by
              clear hin hm hx hxm
              simp only [sl1, sl2]
              rw [← hput]
              walk_at "run")]
          clear hput hkt hin
          have hal := alv_eq (s1, s2)
          unfold qstep
          rw [if_neg hm]
          by_cases hav : alv (s1, s2) = true
          · rw [if_pos hav]
            rw [hav] at hal
            have hal2 := hal.symm
            rw [Bool.and_eq_true] at hal2
            have c1 : 0 < s1.length := of_decide_eq_true hal2.1
            have c2 : 0 < s2.length := of_decide_eq_true hal2.2
            have c1' : (0 : Int) < (s1.length : Int) := by omega
            have c2' : (0 : Int) < (s2.length : Int) := by omega
            obtain ⟨hs1, hs2⟩ := q_st ha hb hq hxm
            have hwl := hq.ln _ hxm
            have hfo : foGo (fun x ρ => (evG (.n 12) x ρ).bind fun ρ1 => (evSs ((.cons (.set 13 (.f gTuple (.cons (.f r_states_at_next (.cons (.v 0) (.cons (.v 3) (.cons (.v 10) (.cons (.v 12) .nil))))) .nil)))
        (.cons (.set 14 (.f gTuple (.cons (.f r_states_at_next (.cons (.v 1) (.cons (.v 4) (.cons (.v 11) (.cons (.v 12) .nil))))) .nil)))
        (.cons (.upd 7 gApp (.cons (.f gTup (.cons (.f gAdd (.cons (.v 9) (.cons (.f gTup (.cons (.v 12) .nil)) .nil))) (.cons (.v 13) (.cons (.v 14) .nil)))) .nil))
        .nil)))) ρ1).map (wipeO [12, 13, 14])) ((psO a b).map .int) (sl2 q.wt) = some (.nx (sl2 ((psO a b).foldl (fun wt p => wt ++ [(w ++ [p], dl a b g (s1, s2) p)]) q.wt))) := by
              refine fo_foldN (enc := PyData.int) (sl := sl2) (step := fun wt p => wt ++ [(w ++ [p], dl a b g (s1, s2) p)]) (P := fun k wt => wt.length = q.wt.length + k) (m := 12) (psO a b) 0 q.wt (by have := psO_len ha hb; omega) rfl fun p hp k wt hk hwt => ⟨by simp [hwt]; omega, ?_⟩
              have n1 := nextT_run (p := p) ha (leaps_ok ha g) hs1
              have n2 := nextT_run (p := p) hb (leaps_ok hb g) hs2
              have happ := gAppN (xs := wt.map eW) (x := eW (w ++ [p], dl a b g (s1, s2) p)) (by rw [List.length_map]; omega)
              have hcat := gAdd_TT (xs := w.map PyData.int) (ys := [PyData.int p]) (by rw [List.length_map, List.length_singleton]; have : w.length ≤ q.at' := hwl; omega)
              have hW : eW (w ++ [p], dl a b g (s1, s2) p) = .tuple [.tuple (w.map .int ++ [.int p]), eT (stepM a (leapsM a g) s1 p), eT (stepM b (leapsM b g) s2 p)] := by
                show PyData.tuple [.tuple ((w ++ [p]).map .int), _, _] = _
                rw [List.map_append]; rfl
              rw [hW] at happ
              have hmap : (wt ++ [(w ++ [p], dl a b g (s1, s2) p)]).map eW = wt.map eW ++ [eW (w ++ [p], dl a b g (s1, s2) p)] := List.map_append
              simp only [sl2]
              rw [hmap, hW]
              clear hmap
              generalize (q.fd ++ [((s1, s2), w)]).map eF = FD
              clear hW hal hav hx hxm hc hd hq
              walk_at "run"
            rw [s_cons (ρ1 := sl2 ((psO a b).foldl (fun wt p => wt ++ [(w ++ [p], dl a b g (s1, s2) p)]) q.wt)) (by
              unfold evS
              have ht : evT (.andT (.cmp gGt (.f gLen (.cons (.v 10) .nil)) (.c (.int 0))) (.cmp gGt (.f gLen (.cons (.v 11) .nil)) (.c (.int 0)))) (sl2 q.wt) = some (true, sl2 q.wt) := by
                clear hfo hal hav hx hxm hc hd hq
                simp only [sl2]
                walk_at "run"
              rw [ht]
              show evSs (.cons (.fo _ _ _ _) .nil) (sl2 q.wt) = _
              rw [s_fo (xs := (psO a b).map .int) (ρ1 := sl2 q.wt) (by rfl)]
              rw [show wipeS (sl2 q.wt) [12, 13, 14] = sl2 q.wt from rfl, hfo]
              rfl)]
            have hfold : ∀ (ps : List Int) (wt : List (List Int × SS)), ps.foldl (fun wt p => wt ++ [(w ++ [p], dl a b g (s1, s2) p)]) wt = wt ++ BF.kids ps (dl a b g) (w, (s1, s2)) := by
              intro ps
              induction ps with
              | nil => intro wt; simp [BF.kids]
              | cons p ps ih => intro wt; rw [List.foldl_cons, ih]; simp [BF.kids]
            rw [hfold]
            rfl
          · rw [if_neg hav]
            have hav' : alv (s1, s2) = false := by simpa using hav
            rw [hav'] at hal
            rw [s_cons (ρ1 := sl2 q.wt) (by
              unfold evS
              have ht : evT (.andT (.cmp gGt (.f gLen (.cons (.v 10) .nil)) (.c (.int 0))) (.cmp gGt (.f gLen (.cons (.v 11) .nil)) (.c (.int 0)))) (sl2 q.wt) = some (false, sl2 q.wt) := by
                have hal2 := hal.symm
                rw [Bool.and_eq_false_iff] at hal2
                by_cases c1 : 0 < s1.length
                · have c2 : ¬ 0 < s2.length := by
                    rcases hal2 with h | h
                    · exact absurd c1 (of_decide_eq_false h)
                    · exact of_decide_eq_false h
                  have c1' : (0 : Int) < (s1.length : Int) := by omega
                  have c2' : ¬ (0 : Int) < (s2.length : Int) := by omega
                  clear hal hal2 hav hav' hx hxm hc hd hq
                  simp only [sl2]
                  walk_at "run"
                  try omega
                · have c1' : ¬ (0 : Int) < (s1.length : Int) := by omega
                  clear hal hal2 hav hav' hx hxm hc hd hq
                  simp only [sl2]
                  walk_at "run"
                  try omega
              rw [ht]
              rfl)]
            rw [List.append_nil]
            rfl
    · have := hq.pi.at_le
      have : ¬ q.at' < q.wt.length := by simpa using hd
      omega
  obtain ⟨q, hq, hat, rfl⟩ := key
  refine ⟨q, hq, hat, ?_⟩
  rfl
end
end PG
set_option Elab.async false
set_option linter.all false
set_option maxRecDepth 100000
set_option maxHeartbeats 4000000
namespace PG
open PySem PySem.Spec PyProof.Rows L2 DL DI
local macro_rules | `(tactic| walk_at "run") => `(tactic| simp [evSs, evS, evT, evE, evA, evO, evI, evG_n, evG_t, evGs_n, evGs_c, startS, args, ownAt, dicAt, nAt, DI.putAt, Sl.own, Sl.put, atI0, atI1, gGt, gLt, gLe, gGe, gInt, gMod, gDiv, gAdd_ii, gSub_ii, gIadd, gMul, gPow, gLen, gLenO, gIx, ixN, isi_ii, isi_ib, isi_tt, gNot, gNeg, gSeq, DI.gTup, gLst, gTuple, gIs, gNis, isNo, wipeS, backS, Sl.kept, wipeO, -Option.map_bind, -Option.map_map, -Option.bind_fun_some, -Option.map_eq_map, -Option.bind_eq_bind, -Option.map_eq_some_iff, *])
theorem fo_find {α : Type} {enc gg : α → D} {p : α → Bool} {ρ : List Sl} {f : D → List Sl → Option Out} : ∀ (as : List α), (∀ a ∈ as, (p a = false → f (enc a) ρ = some (.nx ρ)) ∧ (p a = true → ∃ ρ', f (enc a) ρ = some (.rt (gg a) ρ'))) →
    (as.find? p = none → foGo f (as.map enc) ρ = some (.nx ρ)) ∧ ∀ a, as.find? p = some a → ∃ ρ', foGo f (as.map enc) ρ = some (.rt (gg a) ρ')
  | [], _ => ⟨fun _ => rfl, fun a h => by cases h⟩
  | x :: as, h => by
    have ih := fo_find as fun a ha => h a (List.mem_cons_of_mem _ ha)
    obtain ⟨h1, h2⟩ := h x List.mem_cons_self
    rw [List.find?_cons]
    unfold foGo
    rw [List.map_cons]
    cases hp : p x with
    | true =>
      obtain ⟨ρ', e⟩ := h2 hp
      refine ⟨fun z => (by cases z), fun a z => ?_⟩
      cases z
      exact ⟨ρ', by simp only [e, Option.bind_some]⟩
    | false =>
      have e := h1 hp
      refine ⟨fun z => ?_, fun a z => ?_⟩
      · simp only [e, Option.bind_some]; exact ih.1 z
      · obtain ⟨ρ', q⟩ := ih.2 a z
        exact ⟨ρ', by simp only [e, Option.bind_some]; exact q⟩
def tX (s : SS) : Bool := decide (s.1 = []) != decide (s.2 = [])
def tH (s : SS) : Bool := decide (s.1 = []) && !decide (s.2 = [])
def oD : Option (List Int) → D
  | none => .none
  | some w => eT w
section
variable (a b : Reel) (g : Option Nat) (T : SS → Bool)
abbrev VF (w : List Int) : Prop := BF.Valid (psO a b) (dl a b g) (st0 a b) alv w
abbrev RF (w : List Int) : SS := BF.run (dl a b g) (st0 a b) w
def IsO (o : Option (List Int)) : Prop := match o with
  | some w => BF.Least (psO a b) (dl a b g) (st0 a b) alv T w
  | none => ∀ v, VF a b g v → T (RF a b g v) = false
open Classical in
noncomputable def the : Option (List Int) := if h : ∃ w, BF.Least (psO a b) (dl a b g) (st0 a b) alv T w then some h.choose else none
end
section
variable {a b : Reel} {g : Option Nat} {T : SS → Bool}
theorem isO_eq {o : Option (List Int)} (h : IsO a b g T o) : the a b g T = o := by
  unfold the
  cases o with
  | none =>
    rw [dif_neg]
    rintro ⟨w, hw⟩
    have := h w hw.1
    rw [show T (RF a b g w) = true from hw.2.1] at this
    cases this
  | some w =>
    have hex : ∃ w, BF.Least (psO a b) (dl a b g) (st0 a b) alv T w := ⟨w, h⟩
    rw [dif_pos hex]
    exact congrArg some (BF.Least.one _ _ _ _ hex.choose_spec h)
theorem find_self {f : SS × List Int} : ∀ {fd : List (SS × List Int)}, (fd.map (·.1)).Nodup → f ∈ fd → fd.find? (fun x => decide (x.1 = f.1)) = some f
  | [], _, h => by cases h
  | x :: fd, hn, h => by
    rw [List.find?_cons]
    rw [List.map_cons, List.nodup_cons] at hn
    rcases List.mem_cons.mp h with e | h
    · subst e; simp
    · have : ¬ x.1 = f.1 := fun z => hn.1 (by rw [z]; exact List.mem_map.mpr ⟨f, h, rfl⟩)
      rw [decide_eq_false this]
      exact find_self hn.2 h
theorem len0 (xs : List Int) : gEq [.int ((xs.length : Nat) : Int), .int 0] = some (decide (xs = [])) := by
  show some (decide ((xs.length : Int) = 0)) = _
  congr 1
  exact decide_eq_decide.mpr ⟨fun h => List.eq_nil_of_length_eq_zero (by omega), fun h => by rw [h]; rfl⟩
theorem gNe_bb (x y : Bool) : gNe [.bool x, .bool y] = some (x != y) := by cases x <;> cases y <;> rfl
theorem parting_run (ha : a.Ok) (hb : b.Ok) (hg : GapOk g) : r_parting_film [eReel a, eReel b, eGap g] = some (oD (the a b g tX)) := by
  obtain ⟨q, hq, hat, hf⟩ := first_run ha hb hg
  have hc := cktwo_run ha hb hg
  have hpi := hq.pi
  rw [hat] at hpi
  have hl := hpi.least tX
  let ρ0 : List Sl := [.d (eReel a), .d (eReel b), .d (eGap g), .d (ndD (q.fd.map eF)), .u, .u]
  unfold r_parting_film runD i_parting_film
  rw [s_cons (ρ1 := [.d (eReel a), .d (eReel b), .d (eGap g), .u, .u, .u]) (by clear hl hpi hq hf; walk_at "run"), s_cons (ρ1 := ρ0) (by clear hl hpi hq hc; walk_at "run"; rfl),
    s_fo (xs := q.fd.map fun f => eS f.1) (ρ1 := ρ0) (by
      have hk : gKeysDN [ndD (q.fd.map eF)] = some (q.fd.map fun f => eS f.1) := by
        show some ((q.fd.map eF).map (·.1)) = _
        rw [List.map_map]; rfl
      clear hl hpi hq hc hf
      simp only [ρ0]
      walk_at "run")]
  rw [show wipeS ρ0 [4, 5] = ρ0 from rfl]
  have hfo := fun (ff : D → List Sl → Option Out) h => fo_find (enc := fun f : SS × List Int => eS f.1) (gg := fun f => eT f.2) (p := fun f => tX f.1) (ρ := ρ0) (f := ff) q.fd h
  generalize hw : foGo _ _ ρ0 = o
  have key : (q.fd.find? (fun f => tX f.1) = none → o = some (.nx ρ0)) ∧ ∀ f, q.fd.find? (fun f => tX f.1) = some f → ∃ ρ', o = some (.rt (eT f.2) ρ') := by
    subst hw
    refine hfo _ fun f hm => ?_
    have hself := find_self hq.pi.nd hm
    obtain ⟨⟨s1, s2⟩, w⟩ := f
    have e1 := len0 s1
    have e2 := len0 s2
    have hne := gNe_bb (decide (s1 = [])) (decide (s2 = []))
    have hix : gIxDN [ndD (q.fd.map eF), .tuple [eT s1, eT s2]] = some (eT w) := by
      show (toNT (eS (s1, s2))).bind (fun ks => getN (q.fd.map eF) ks) = _
      rw [toNT_eS, Option.bind_some, getN_F, hself]
      rfl
    clear hl hpi hq hc hf hself hfo hm
    refine ⟨fun hp => ?_, fun hp => ?_⟩
    · have hne2 : gNe [.bool (decide (s1 = [])), .bool (decide (s2 = []))] = some false := by rw [hne]; exact congrArg some hp
      clear hne hix hp
      simp only [ρ0]
      walk_at "run"
    · have hne2 : gNe [.bool (decide (s1 = [])), .bool (decide (s2 = []))] = some true := by rw [hne]; exact congrArg some hp
      clear hne hp
      refine ⟨[.d (eReel a), .d (eReel b), .d (eGap g), .d (ndD (q.fd.map eF)), .d (eT s1), .d (eT s2)], ?_⟩
      simp only [ρ0]
      walk_at "run"
  cases hfd : q.fd.find? (fun f => tX f.1) with
  | none =>
    rw [key.1 hfd]
    rw [isO_eq (o := none) (hl.2 hfd)]
    rfl
  | some f =>
    obtain ⟨ρ', e⟩ := key.2 f hfd
    rw [e]
    rw [isO_eq (o := some f.2) (hl.1 f hfd)]
    rfl
theorem bls_map {α : Type} (p : α → Bool) : ∀ as : List α, bls (as.map fun x => PyData.bool (p x)) = some (as.map p)
  | [] => rfl
  | x :: as => by
    show ((bls (as.map fun x => PyData.bool (p x))).map _) = _
    rw [bls_map p as]; rfl
theorem gAll_map {α : Type} (p : α → Bool) (as : List α) : gAll [.list (as.map fun x => PyData.bool (p x))] = some (.bool (as.all p)) := by
  show (bls _).map _ = _
  rw [bls_map, Option.map_some, List.all_map]; rfl
theorem covers_run (ha : a.Ok) (hb : b.Ok) (hg : GapOk g) : r_covers [eReel a, eReel b, eGap g] = some (.bool (the a b g tH).isNone) := by
  obtain ⟨q, hq, hat, hf⟩ := first_run ha hb hg
  have hc := cktwo_run ha hb hg
  have hpi := hq.pi
  rw [hat] at hpi
  have hl := hpi.least tH
  have hlen := (q_len ha hb hq).2
  have hk : gKeysDN [ndD (q.fd.map eF)] = some (q.fd.map fun f => eS f.1) := by
    show some ((q.fd.map eF).map (·.1)) = _
    rw [List.map_map]; rfl
  have hall : q.fd.all (fun f => !tH f.1) = (the a b g tH).isNone := by
    cases hfd : q.fd.find? (fun f => tH f.1) with
    | none =>
      rw [isO_eq (o := none) (hl.2 hfd)]
      show _ = true
      rw [List.all_eq_true]
      intro f hm
      have := List.find?_eq_none.mp hfd f hm
      simpa using this
    | some f =>
      rw [isO_eq (o := some f.2) (hl.1 f hfd)]
      have hm := List.mem_of_find?_eq_some hfd
      have hT := List.find?_some hfd
      cases hx : q.fd.all (fun f => !tH f.1) with
      | false => rfl
      | true =>
        have := List.all_eq_true.mp hx f hm
        rw [show tH f.1 = true from hT] at this
        cases this
  have hga := gAll_map (fun f : SS × List Int => !tH f.1) q.fd
  rw [hall] at hga
  have hfew := few_len (ys := q.fd.map fun f => PyData.bool (!tH f.1)) (n := 4225) (by rw [List.length_map]; exact hlen) (by decide)
  refine run_rt (ρ := [.d (eReel a), .d (eReel b), .d (eGap g), .u, .u]) ?_
  unfold i_covers
  rw [s_cons (ρ1 := [.d (eReel a), .d (eReel b), .d (eGap g), .u, .u]) (by clear hl hpi hq hf hall hga hfew hk; walk_at "run")]
  refine s_ret ?_
  have hI : evI (.f gKeysDN (.cons (.f r_first_films (.cons (.v 0) (.cons (.v 1) (.cons (.v 2) .nil)))) .nil)) [.d (eReel a), .d (eReel b), .d (eGap g), .u, .u] = some (q.fd.map fun f => eS f.1, [.d (eReel a), .d (eReel b), .d (eGap g), .u, .u]) := by
    clear hl hpi hq hall hga hfew hc
    walk_at "run"
  have hO : evO (.lc (.t (.cons (.n 3) (.cons (.n 4) .nil))) (.f gKeysDN (.cons (.f r_first_films (.cons (.v 0) (.cons (.v 1) (.cons (.v 2) .nil)))) .nil)) .tt (.orE (.f (fun ds => (gGt ds).map .bool) (.cons (.f gLen (.cons (.v 3) .nil)) (.cons (.c (.int 0)) .nil))) (.f (fun ds => (gEq ds).map .bool) (.cons (.f gLen (.cons (.v 4) .nil)) (.cons (.c (.int 0)) .nil)))) [3, 4]) [.d (eReel a), .d (eReel b), .d (eGap g), .u, .u] = some (q.fd.map fun f => PyData.bool (!tH f.1), [.d (eReel a), .d (eReel b), .d (eGap g), .u, .u]) := by
    unfold evO
    rw [hI]
    simp only [Option.bind_some]
    rw [show wipeS [.d (eReel a), .d (eReel b), .d (eGap g), .u, .u] [3, 4] = [.d (eReel a), .d (eReel b), .d (eGap g), .u, .u] from rfl]
    rw [lc_map (enc := fun f : SS × List Int => eS f.1) (g := fun f => PyData.bool (!tH f.1)) q.fd fun f hm => ?_]
    · simp only [Option.bind_some, hfew, if_true]
      rfl
    · obtain ⟨⟨s1, s2⟩, w⟩ := f
      have e2 := len0 s2
      clear hl hpi hq hall hga hfew hc hI hk hf hm hlen hat
      by_cases c1 : 0 < s1.length
      · have c1' : (0 : Int) < (s1.length : Int) := by omega
        have hb0 : (!tH (s1, s2)) = true := by
          unfold tH
          rw [decide_eq_false (fun z : s1 = [] => by rw [z] at c1; simp at c1)]
          rfl
        rw [hb0]
        clear hb0
        walk_at "run"
      · have c1' : ¬ (0 : Int) < (s1.length : Int) := by omega
        have hb0 : (!tH (s1, s2)) = decide (s2 = []) := by
          unfold tH
          rw [decide_eq_true (List.eq_nil_of_length_eq_zero (by omega) : s1 = [])]
          simp
        rw [hb0]
        have hs1 : s1 = [] := List.eq_nil_of_length_eq_zero (by omega)
        subst hs1
        clear hb0 c1 c1'
        walk_at "run"
  unfold evE evA
  unfold evE
  rw [hO]
  simp only [Option.map_some, Option.bind_some, evA, hga]
theorem isNo_oD (o : Option (List Int)) : isNo (oD o) = o.isNone := by cases o <;> rfl
theorem same_run (ha : a.Ok) (hb : b.Ok) (hg : GapOk g) : r_are_same [eReel a, eReel b, eGap g] = some (.bool (the a b g tX).isNone) := by
  have hp := parting_run ha hb hg
  rw [← isNo_oD]
  refine run_rt (ρ := [.d (eReel a), .d (eReel b), .d (eGap g)]) ?_
  unfold i_are_same
  refine s_ret ?_
  generalize oD (the a b g tX) = d at hp
  walk_at "run"
def PN (a b : Reel) (n : Nat) : Prop := (the a b (some n) tX).isNone = true
theorem least_run (ha : a.Ok) (hb : b.Ok) (h20 : (the a b none tX).isNone = true → PN a b 20) :
    ((the a b none tX).isNone = false → r_least_gap_alike [eReel a, eReel b] = some .none) ∧ ((the a b none tX).isNone = true → ∃ n, n ≤ 20 ∧ PN a b n ∧ (∀ m, m < n → ¬ PN a b m) ∧ r_least_gap_alike [eReel a, eReel b] = some (.int (n : Nat))) := by
  have c1 := ckreel_run ha
  have c2 := ckreel_run hb
  have hs := same_run (a := a) (b := b) (g := none) ha hb trivial
  have hs' : r_are_same [eReel a, eReel b, .none] = some (.bool (the a b none tX).isNone) := hs
  clear hs
  unfold r_least_gap_alike runD i_least_gap_alike
  show (_ → (evSs _ [.d (eReel a), .d (eReel b), .u]).bind _ = _) ∧ (_ → ∃ n, _ ∧ _ ∧ _ ∧ (evSs _ [.d (eReel a), .d (eReel b), .u]).bind _ = _)
  rw [s_cons (ρ1 := [.d (eReel a), .d (eReel b), .u]) (by clear hs' h20; walk_at "run"), s_cons (ρ1 := [.d (eReel a), .d (eReel b), .u]) (by clear hs' h20; walk_at "run")]
  refine ⟨fun hn => ?_, fun hn => ?_⟩
  · rw [hn] at hs'
    rw [s_rt (ρ1 := [.d (eReel a), .d (eReel b), .u]) (d := .none) (by clear c1 c2 h20 hn; walk_at "run")]
    rfl
  · rw [hn] at hs'
    have h20 := h20 hn
    let sl : Nat → List Sl := fun n => [.d (eReel a), .d (eReel b), .d (.int (n : Nat))]
    rw [s_cons (ρ1 := [.d (eReel a), .d (eReel b), .u]) (by clear c1 c2 h20 hn; walk_at "run"), s_cons (ρ1 := sl 0) (by rfl), s_wh]
    rw [show wipeS (sl 0) [] = sl 0 from rfl]
    generalize hw : whGo _ _ 100000 (sl 0) = o
    have key : ∃ n, (n ≤ 20 ∧ ∀ m, m < n → ¬ PN a b m) ∧ PN a b n ∧ o = some (.nx (sl n)) := by
      subst hw
      clear c1 c2 hs' hn
      refine wh_done (R := fun _ => False) (wh_ex (sl := sl) (P := fun n => n ≤ 20 ∧ ∀ m, m < n → ¬ PN a b m) (R := fun _ => False) (done := fun n => (the a b (some n) tX).isNone) (μ := fun n => 20 - n) (fun n hq => ?_) (fun n hq hd => ?_) 100000 0 ⟨by omega, fun m hm => by omega⟩ (by show 20 - 0 ≤ 100000; omega)) (fun n hq hd e => ⟨n, hq, hd, e⟩) (fun _ _ _ r => r.elim)
      · have hsn := same_run (a := a) (b := b) (g := some n) ha hb hq.1
        have hsn' : r_are_same [eReel a, eReel b, .int (n : Nat)] = some (.bool (the a b (some n) tX).isNone) := hsn
        clear hsn h20 hq
        simp only [sl]
        generalize (the a b (some n) tX).isNone = bb at hsn'
        walk_at "run"
      · left
        have hne : n ≠ 20 := fun z => by
          have : (the a b (some n) tX).isNone = true := by rw [z]; exact h20
          rw [hd] at this; cases this
        refine ⟨n + 1, ⟨by omega, fun m hm => ?_⟩, by show 20 - (n + 1) < 20 - n; omega, .inl ?_⟩
        · by_cases e : m = n
          · rw [e]; unfold PN; rw [hd]; exact Bool.false_ne_true
          · exact hq.2 m (by omega)
        · have hcast : (((n + 1 : Nat)) : Int) = ((n : Nat) : Int) + 1 := by push_cast; rfl
          clear h20 hq hd hne
          simp only [sl, hcast]
          walk_at "run"
    obtain ⟨n, ⟨h1, h2⟩, h3, rfl⟩ := key
    exact ⟨n, h1, h3, h2, rfl⟩
end
end PG
set_option Elab.async false
set_option linter.all false
set_option maxRecDepth 100000
set_option maxHeartbeats 4000000
namespace PG
open PySem PySem.Spec PyProof.Rows L2 DL DI
local macro_rules | `(tactic| walk_at "run") => `(tactic| simp [evSs, evS, evT, evE, evA, evO, evI, evG_n, evG_t, evGs_n, evGs_c, startS, args, ownAt, dicAt, nAt, DI.putAt, Sl.own, Sl.put, atI0, atI1, gGt, gLt, gLe, gGe, gInt, gMod, gDiv, gAdd_ii, gSub_ii, gIadd, gMul, gPow, gLen, gLenO, gIx, ixN, isi_ii, isi_ib, isi_tt, gNot, gNeg, gSeq, DI.gTup, gLst, gTuple, gIs, gNis, isNo, wipeS, backS, Sl.kept, wipeO, -Option.map_bind, -Option.map_map, -Option.bind_fun_some, -Option.map_eq_map, -Option.bind_eq_bind, -Option.map_eq_some_iff, *])
/-- the states behind a film, as the law has them -/
def eH (r : Reel) (st : List Int) : D := if st = ahead r then .none else eT st
abbrev eY (a b : Reel) (x : List Int × SS) : D := .tuple [eT x.1, eH a x.2.1, eH b x.2.2]
section
variable {a b : Reel} {g : Option Nat}
theorem eH_here (r : Reel) {st : List Int} : eH r st = eHere (if st = ahead r then none else some st) := by
  unfold eH
  split <;> rfl
theorem seeH_run {r : Reel} {st : List Int} {p : Int} (hr : r.Ok) (hst : st = ahead r ∨ In r.nexts.length st) : r_law_see [eReel r, eGap g, eH r st, .int p] = some (eT (stepM r (leapsM r g) st p)) := by
  rw [eH_here]
  by_cases e : st = ahead r
  · rw [if_pos e, e]
    have := see_run (r := r) (g := g) (here := none) (p := p) hr trivial
    rw [see_first hr] at this
    exact this
  · rw [if_neg e]
    have hin : In r.nexts.length st := hst.resolve_left e
    have := see_run (r := r) (g := g) (here := some st) (p := p) hr hin
    rw [see_next hr hin] at this
    exact this
theorem gNeH {r : Reel} {st : List Int} (h : st ≠ []) : gNe [eH r st, .tuple []] = some true := by
  unfold eH
  split
  · exact gNe_none
  · rw [gNe_T, decide_eq_false h]; rfl
theorem gEq_T (h : List Int) : gEq [eT h, .tuple []] = some (decide (h = [])) := by
  show (if SeqAt.shaped (eT h) = true ∧ SeqAt.shaped (eT []) = true then some (PyData.eqv (eT h) (eT [])) else none) = _
  rw [if_pos ⟨shaped_intsT h, shaped_intsT []⟩, eqv_intsT]
theorem canLay_ints : ∀ ns : List Int, PyData.canLayAll0 (ns.map .int) = true
  | [] => rfl
  | n :: ns => by
    simp only [List.map_cons, PyData.canLayAll0]
    rw [canLay_ints ns]
    rfl
theorem canLay_T (ns : List Int) : PyData.canLay0 (eT ns) = true := by
  show PyData.canLay0 (.tuple (ns.map .int)) = true
  simp only [PyData.canLay0]
  exact canLay_ints ns
theorem canLay_S (s : SS) : PyData.canLay0 (eS s) = true := by
  show PyData.canLay0 (.tuple [eT s.1, eT s.2]) = true
  simp only [PyData.canLay0, PyData.canLayAll0, canLay_ints]
  rfl
theorem canLay_Ss : ∀ seen : List SS, PyData.canLayAll0 (seen.map eS) = true
  | [] => rfl
  | s :: seen => by
    simp only [List.map_cons, PyData.canLayAll0]
    rw [canLay_Ss seen, canLay_S s]
    rfl
theorem depth_T (ns : List Int) : PyData.depth (eT ns) ≤ 1 := by
  have : ∀ ns : List Int, PyData.depthAll (ns.map .int) = 0 := fun ns => by
    induction ns with
    | nil => simp [PyData.depthAll]
    | cons n ns ih => simp [PyData.depthAll, PyData.depth, ih]
  show PyData.depth (.tuple (ns.map .int)) ≤ 1
  simp [PyData.depth, this]
theorem depth_S (s : SS) : PyData.depth (eS s) ≤ 60 := by
  have h1 := depth_T s.1
  have h2 := depth_T s.2
  show PyData.depth (.tuple [eT s.1, eT s.2]) ≤ 60
  simp only [PyData.depth, PyData.depthAll] at h1 h2 ⊢
  omega
theorem eqv_S (s t : SS) : PyData.eqv (eS s) (eS t) = decide (s = t) := by
  have h1 := eqv_intsT s.1 t.1
  have h2 := eqv_intsT s.2 t.2
  show PyData.eqv (.tuple [eT s.1, eT s.2]) (.tuple [eT t.1, eT t.2]) = _
  have : PyData.eqv (.tuple [eT s.1, eT s.2]) (.tuple [eT t.1, eT t.2]) = (PyData.eqv (eT s.1) (eT t.1) && (PyData.eqv (eT s.2) (eT t.2) && true)) := by
    simp only [PyData.eqv, PyData.eqvAll]
  rw [this, h1, h2, Bool.and_true]
  obtain ⟨s1, s2⟩ := s
  obtain ⟨t1, t2⟩ := t
  by_cases e1 : s1 = t1 <;> by_cases e2 : s2 = t2 <;> simp [e1, e2]
theorem inL_S (s : SS) (seen : List SS) : inL (eS s) (seen.map eS) = some (decide (s ∈ seen)) := by
  unfold inL
  rw [if_neg (fun z => by have := z.1; cases this), if_pos]
  · rw [List.any_map]
    congr 1
    induction seen with
    | nil => rfl
    | cons t seen ih =>
      rw [List.any_cons, ih]
      show (PyData.eqv (eS t) (eS s) || _) = _
      rw [eqv_S]
      by_cases e : s = t
      · subst e; simp
      · have e' : ¬ t = s := fun z => e z.symm
        simp [e, e']
  · unfold wideD
    rw [canLay_S, decide_eq_true (depth_S s), canLay_Ss]
    rfl
theorem gNinO_S (s : SS) (seen : List SS) : gNinO (seen.map eS) [.tuple [eT s.1, eT s.2]] = some (.bool (!decide (s ∈ seen))) := by
  show (inL (eS s) (seen.map eS)).map (fun z => PyData.bool (!z)) = _
  rw [inL_S]; rfl
theorem fo_inv {α β : Type} {enc : α → D} {sl : β → List Sl} {P : List α → β → Prop} {R : D → Prop} {f : D → List Sl → Option Out} : ∀ (as pre : List α) (b : β), P pre b → (∀ pre' x post b, pre' ++ x :: post = pre ++ as → P pre' b → (∃ b', P (pre' ++ [x]) b' ∧ f (enc x) (sl b) = some (.nx (sl b'))) ∨ ∃ d ρ', f (enc x) (sl b) = some (.rt d ρ') ∧ R d) →
    (∃ b', P (pre ++ as) b' ∧ foGo f (as.map enc) (sl b) = some (.nx (sl b'))) ∨ ∃ d ρ', foGo f (as.map enc) (sl b) = some (.rt d ρ') ∧ R d
  | [], pre, b, hb, _ => .inl ⟨b, by rw [List.append_nil]; exact hb, rfl⟩
  | x :: as, pre, b, hb, h => by
    rcases h pre x as b rfl hb with ⟨b1, p1, e1⟩ | ⟨d, ρ', e1, r⟩
    · have ih := fo_inv as (pre ++ [x]) b1 p1 fun pre' y post c e hc => h pre' y post c (by rw [e, List.append_assoc]; rfl) hc
      rw [List.append_assoc] at ih
      have hgo : foGo f ((x :: as).map enc) (sl b) = foGo f (as.map enc) (sl b1) := by
        rw [List.map_cons]
        conv => lhs; unfold foGo
        rw [e1]; rfl
      rw [hgo]
      exact ih
    · refine .inr ⟨d, ρ', ?_, r⟩
      rw [List.map_cons]
      unfold foGo
      rw [e1]; rfl
theorem depth_H (r : Reel) (st : List Int) : PyData.depth (eH r st) ≤ 1 := by
  unfold eH
  split
  · simp [PyData.depth]
  · exact depth_T st
theorem canLay_H (r : Reel) (st : List Int) : PyData.canLay0 (eH r st) = true := by
  unfold eH
  split
  · rfl
  · exact canLay_T st
theorem gNe_ly (ly : List (List Int × SS)) : gNe [.list (ly.map (eY a b)), .list []] = some (!decide (ly = [])) := by
  have h1 : PyData.canLayAll0 (ly.map (eY a b)) = true := by
    induction ly with
    | nil => rfl
    | cons x ly ih =>
      simp only [List.map_cons, PyData.canLayAll0]
      rw [ih]
      have : PyData.canLay0 (eY a b x) = true := by
        show PyData.canLay0 (.tuple [eT x.1, eH a x.2.1, eH b x.2.2]) = true
        simp only [PyData.canLay0, PyData.canLayAll0, canLay_ints, canLay_H]
        rfl
      rw [this]; rfl
  have h2 : PyData.depthAll (ly.map (eY a b)) ≤ 2 := by
    clear h1
    induction ly with
    | nil => simp [PyData.depthAll]
    | cons x ly ih =>
      have : PyData.depth (eY a b x) ≤ 2 := by
        have d1 := depth_T x.1
        have d2 := depth_H a x.2.1
        have d3 := depth_H b x.2.2
        show PyData.depth (.tuple [eT x.1, eH a x.2.1, eH b x.2.2]) ≤ 2
        simp only [PyData.depth, PyData.depthAll] at d1 d2 d3 ⊢
        omega
      simp only [List.map_cons, PyData.depthAll]
      omega
  have hs : SeqAt.shaped (.list (ly.map (eY a b))) = true := by
    have d : PyData.depth (.list (ly.map (eY a b))) ≤ 64 := by simp only [PyData.depth]; omega
    have c : PyData.canLay0 (.list (ly.map (eY a b))) = true := by simp only [PyData.canLay0]; exact h1
    unfold SeqAt.shaped
    rw [c, decide_eq_true d]
    rfl
  show (if SeqAt.shaped (.list (ly.map (eY a b))) = true ∧ SeqAt.shaped (.list []) = true then some (PyData.eqv (.list (ly.map (eY a b))) (.list [])) else none).map (!·) = _
  rw [if_pos ⟨hs, by decide +kernel⟩]
  cases ly with
  | nil => rfl
  | cons x ly => simp [PyData.eqv, PyData.eqvAll]
end
end PG
set_option Elab.async false
set_option linter.all false
set_option maxRecDepth 100000
set_option maxHeartbeats 4000000
namespace PG
open PySem PySem.Spec PyProof.Rows L2 DL DI
local macro_rules | `(tactic| walk_at "run") => `(tactic| simp [evSs, evS, evT, evE, evA, evO, evI, evG_n, evG_t, evGs_n, evGs_c, startS, args, ownAt, dicAt, nAt, DI.putAt, Sl.own, Sl.put, atI0, atI1, gGt, gLt, gLe, gGe, gInt, gMod, gDiv, gAdd_ii, gSub_ii, gIadd, gMul, gPow, gLen, gLenO, gIx, ixN, isi_ii, isi_ib, isi_tt, gNot, gNeg, gSeq, DI.gTup, gLst, gTuple, gIs, gNis, isNo, wipeS, backS, Sl.kept, wipeO, -Option.map_bind, -Option.map_map, -Option.bind_fun_some, -Option.map_eq_map, -Option.bind_eq_bind, -Option.map_eq_some_iff, *])
section
variable {a b : Reel} {g : Option Nat}
def tY (h : Bool) : SS → Bool := if h then tH else tX
theorem tY_eq (h : Bool) (l r : List Int) : tY h (l, r) = ((decide (l = []) && !decide (r = [])) || (decide (r = []) && (!decide (l = []) && !h))) := by
  unfold tY tH tX
  cases h <;> by_cases e1 : l = [] <;> by_cases e2 : r = [] <;> simp [e1, e2]
structure L2S where
  lt : List (List Int × SS)
  seen : List SS
abbrev LIa (a b : Reel) (g : Option Nat) (h : Bool) (k : Nat) (ly : List (List Int × SS)) (seen : List SS) : Prop := BF.LI (ps := psO a b) (δ := dl a b g) (s0 := st0 a b) (al := alv) (tY h) k ly seen
abbrev LMa (a b : Reel) (g : Option Nat) (h : Bool) (k : Nat) (dn lt : List (List Int × SS)) (seen : List SS) : Prop := BF.LM (ps := psO a b) (δ := dl a b g) (s0 := st0 a b) (al := alv) (tY h) k dn lt seen
abbrev kA (a b : Reel) (g : Option Nat) (ly : List (List Int × SS)) : List (List Int × SS) := BF.kidsAll (psO a b) (dl a b g) ly
abbrev kid1 (a b : Reel) (g : Option Nat) (x : List Int × SS) (p : Int) : List Int × SS := (x.1 ++ [p], dl a b g x.2 p)
structure MOk (a b : Reel) (g : Option Nat) (h : Bool) (k n0 : Nat) (dn : List (List Int × SS)) (c : L2S) : Prop where
  lm : LMa a b g h k dn c.lt c.seen
  ln : n0 + c.lt.length = c.seen.length
  sp : ∀ t ∈ c.seen, t ∈ pairsO a b
theorem m_len (ha : a.Ok) (hb : b.Ok) {h : Bool} {k n0 : Nat} {dn : List (List Int × SS)} {c : L2S} (m : MOk a b g h k n0 dn c) : c.seen.length ≤ 4225 := Nat.le_trans (nodup_sub m.lm.nd m.sp) (pairsO_len ha hb)
def lsl (a b : Reel) (g : Option Nat) (h : Bool) (ly : List (List Int × SS)) (c : L2S) (t : List Sl) : List Sl := [.d (eReel a), .d (eReel b), .d (eGap g), .d (.bool h), .d (.list (ly.map (eY a b))), .o (c.seen.map eS), .d (eL (psO a b)), .o (c.lt.map (eY a b))] ++ t
theorem in_or {r : Reel} (hr : r.Ok) (g : Option Nat) (w : List Int) : w.foldl (stepM r (leapsM r g)) (ahead r) = ahead r ∨ In r.nexts.length (w.foldl (stepM r (leapsM r g)) (ahead r)) := by
  by_cases e : w = []
  · subst e; exact .inl rfl
  · exact .inr ((behind_lots hr g w).2.2 e)
theorem eH_step {r : Reel} (hr : r.Ok) (g : Option Nat) (st : List Int) (p : Int) : eH r (stepM r (leapsM r g) st p) = eT (stepM r (leapsM r g) st p) := by
  unfold eH
  rw [if_neg fun e => ?_]
  have hin : In r.nexts.length (stepM r (leapsM r g) st p) := step_in (leaps_ok hr g)
  rw [e] at hin
  have := (hin (r.nexts.length : Int) (List.mem_singleton.mpr rfl)).2
  omega
/-- one picture more -/
theorem pic_turn (ha : a.Ok) (hb : b.Ok) {h : Bool} {k n0 : Nat} {ly : List (List Int × SS)} {seen0 : List SS} (hl : LIa a b g h k ly seen0) (hk : k ≤ 4225) {preL postL : List (List Int × SS)} {x : List Int × SS} (hly : preL ++ x :: postL = ly) {pre post : List Int} {p : Int} (hps : pre ++ p :: post = psO a b) {c : L2S} (m : MOk a b g h k n0 (kA a b g preL ++ pre.map (kid1 a b g x)) c) :
    (∃ c', MOk a b g h k n0 (kA a b g preL ++ (pre ++ [p]).map (kid1 a b g x)) c' ∧ ((evG (.n 11) (.int p) (lsl a b g h ly c [.d (eT x.1), .d (eH a x.2.1), .d (eH b x.2.2), .u, .u, .u])).bind fun ρ1 => (evSs ((.cons (.set 12 (.ife (.cmp gNe (.v 9) (.f DI.gTup .nil)) (.f r_law_see (.cons (.v 0) (.cons (.v 2) (.cons (.v 9) (.cons (.v 11) .nil))))) (.f DI.gTup .nil)))
        (.cons (.set 13 (.ife (.cmp gNe (.v 10) (.f DI.gTup .nil)) (.f r_law_see (.cons (.v 1) (.cons (.v 2) (.cons (.v 10) (.cons (.v 11) .nil))))) (.f DI.gTup .nil)))
        (.cons (.ife (.orT (.andT (.cmp gEq (.v 12) (.f DI.gTup .nil)) (.cmp gNe (.v 13) (.f DI.gTup .nil))) (.andT (.cmp gEq (.v 13) (.f DI.gTup .nil)) (.andT (.cmp gNe (.v 12) (.f DI.gTup .nil)) (.notT (.val (.v 3)))))) (.cons (.ret (.f gAdd (.cons (.v 8) (.cons (.f DI.gTup (.cons (.v 11) .nil)) .nil))))
          .nil) .nil)
        (.cons (.ife (.andT (.val (.rd 5 gNinO (.cons (.f DI.gTup (.cons (.v 12) (.cons (.v 13) .nil))) .nil))) (.cmp gNe (.v 13) (.f DI.gTup .nil))) (.cons (.upd 5 gApp (.cons (.f DI.gTup (.cons (.v 12) (.cons (.v 13) .nil))) .nil))
          (.cons (.upd 7 gApp (.cons (.f DI.gTup (.cons (.f gAdd (.cons (.v 8) (.cons (.f DI.gTup (.cons (.v 11) .nil)) .nil))) (.cons (.v 12) (.cons (.v 13) .nil)))) .nil))
          .nil)) .nil)
        .nil))))) ρ1).map (wipeO [11, 12, 13])) = some (.nx (lsl a b g h ly c' [.d (eT x.1), .d (eH a x.2.1), .d (eH b x.2.2), .u, .u, .u]))) ∨
    ∃ d ρ', ((evG (.n 11) (.int p) (lsl a b g h ly c [.d (eT x.1), .d (eH a x.2.1), .d (eH b x.2.2), .u, .u, .u])).bind fun ρ1 => (evSs ((.cons (.set 12 (.ife (.cmp gNe (.v 9) (.f DI.gTup .nil)) (.f r_law_see (.cons (.v 0) (.cons (.v 2) (.cons (.v 9) (.cons (.v 11) .nil))))) (.f DI.gTup .nil)))
        (.cons (.set 13 (.ife (.cmp gNe (.v 10) (.f DI.gTup .nil)) (.f r_law_see (.cons (.v 1) (.cons (.v 2) (.cons (.v 10) (.cons (.v 11) .nil))))) (.f DI.gTup .nil)))
        (.cons (.ife (.orT (.andT (.cmp gEq (.v 12) (.f DI.gTup .nil)) (.cmp gNe (.v 13) (.f DI.gTup .nil))) (.andT (.cmp gEq (.v 13) (.f DI.gTup .nil)) (.andT (.cmp gNe (.v 12) (.f DI.gTup .nil)) (.notT (.val (.v 3)))))) (.cons (.ret (.f gAdd (.cons (.v 8) (.cons (.f DI.gTup (.cons (.v 11) .nil)) .nil))))
          .nil) .nil)
        (.cons (.ife (.andT (.val (.rd 5 gNinO (.cons (.f DI.gTup (.cons (.v 12) (.cons (.v 13) .nil))) .nil))) (.cmp gNe (.v 13) (.f DI.gTup .nil))) (.cons (.upd 5 gApp (.cons (.f DI.gTup (.cons (.v 12) (.cons (.v 13) .nil))) .nil))
          (.cons (.upd 7 gApp (.cons (.f DI.gTup (.cons (.f gAdd (.cons (.v 8) (.cons (.f DI.gTup (.cons (.v 11) .nil)) .nil))) (.cons (.v 12) (.cons (.v 13) .nil)))) .nil))
          .nil)) .nil)
        .nil))))) ρ1).map (wipeO [11, 12, 13])) = some (.rt d ρ') ∧ ∃ w, d = eT w ∧ BF.Least (psO a b) (dl a b g) (st0 a b) alv (tY h) w := by
  have hxm : x ∈ ly := by rw [← hly]; simp
  obtain ⟨hv, hr, hlen, hal⟩ := hl.ok x hxm
  have hkall : kA a b g ly = (kA a b g preL ++ pre.map (kid1 a b g x)) ++ kid1 a b g x p :: (post.map (kid1 a b g x) ++ kA a b g postL) := by
    rw [← hly]
    show List.flatMap _ _ = _
    rw [List.flatMap_append, List.flatMap_cons]
    have hmm : (psO a b).map (kid1 a b g x) = pre.map (kid1 a b g x) ++ kid1 a b g x p :: post.map (kid1 a b g x) := by rw [← hps, List.map_append, List.map_cons]
    show _ ++ ((psO a b).map (kid1 a b g x) ++ _) = _
    rw [hmm]
    simp [kA, BF.kidsAll]
  have hbef : ∀ y ∈ kA a b g preL ++ pre.map (kid1 a b g x), BF.sllt y.1 (kid1 a b g x p).1 := by
    have hs : ((kA a b g ly).map (·.1)).Pairwise BF.sllt := BF.kidsAll_sorted psO_lt hl.sorted
    rw [hkall, List.map_append, List.pairwise_append] at hs
    intro y hy
    exact hs.2.2 _ (List.mem_map.mpr ⟨y, hy, rfl⟩) _ (List.mem_map.mpr ⟨kid1 a b g x p, List.mem_cons_self, rfl⟩)
  have hdn : kA a b g preL ++ (pre ++ [p]).map (kid1 a b g x) = (kA a b g preL ++ pre.map (kid1 a b g x)) ++ [kid1 a b g x p] := by
    rw [List.map_append, List.append_assoc]; rfl
  rw [hdn]
  obtain ⟨w, s1, s2⟩ := x
  have hr1 := hr
  rw [run_two] at hr1
  have q1 : s1 = ahead a ∨ In a.nexts.length s1 := by
    have := in_or ha g w
    rw [← (Prod.mk.inj hr1).1] at this
    exact this
  have q2 : s2 = ahead b ∨ In b.nexts.length s2 := by
    have := in_or hb g w
    rw [← (Prod.mk.inj hr1).2] at this
    exact this
  have hal2 : alv (s1, s2) = true := hal
  unfold alv at hal2
  rw [Bool.and_eq_true] at hal2
  have n1 : s1 ≠ [] := fun z => by rw [z] at hal2; simp at hal2
  have n2 : s2 ≠ [] := fun z => by rw [z] at hal2; simp at hal2
  have hne1 := gNeH (r := a) n1
  have hne2 := gNeH (r := b) n2
  have see1 := seeH_run (g := g) (p := p) ha q1
  have see2 := seeH_run (g := g) (p := p) hb q2
  have hcat := gAdd_TT (xs := w.map PyData.int) (ys := [PyData.int p]) (by rw [List.length_map, List.length_singleton]; have : w.length = k := hlen; omega)
  have hL := gEq_T (stepM a (leapsM a g) s1 p)
  have hL2 := gNe_T (stepM a (leapsM a g) s1 p)
  have hR := gEq_T (stepM b (leapsM b g) s2 p)
  have hR2 := gNe_T (stepM b (leapsM b g) s2 p)
  have hnin := gNinO_S (stepM a (leapsM a g) s1 p, stepM b (leapsM b g) s2 p) c.seen
  have hTy := tY_eq h (stepM a (leapsM a g) s1 p) (stepM b (leapsM b g) s2 p)
  have hY : eY a b (kid1 a b g (w, s1, s2) p) = .tuple [.tuple (w.map .int ++ [.int p]), eT (stepM a (leapsM a g) s1 p), eT (stepM b (leapsM b g) s2 p)] := by
    show PyData.tuple [.tuple ((w ++ [p]).map .int), eH a (stepM a (leapsM a g) s1 p), eH b (stepM b (leapsM b g) s2 p)] = _
    rw [List.map_append, eH_step ha, eH_step hb]; rfl
  have hm := m_len ha hb m
  have hltl : c.lt.length ≤ 4225 := by have := m.ln; omega
  have happ1 := gAppN (xs := c.seen.map eS) (x := eS (stepM a (leapsM a g) s1 p, stepM b (leapsM b g) s2 p)) (by rw [List.length_map]; omega)
  have happ2 := gAppN (xs := c.lt.map (eY a b)) (x := eY a b (kid1 a b g (w, s1, s2) p)) (by rw [List.length_map]; omega)
  rw [hY] at happ2
  have hpair : dl a b g (s1, s2) p ∈ pairsO a b := by
    have : dl a b g (s1, s2) p = BF.run (dl a b g) (st0 a b) (w ++ [p]) := by rw [BF.run_snoc, ← hr]
    rw [this]; exact run_pairs ha hb _
  cases hT : tY h (dl a b g (s1, s2) p) with
  | true =>
    right
    refine ⟨eT (w ++ [p]), [.d (eReel a), .d (eReel b), .d (eGap g), .d (.bool h), .d (.list (ly.map (eY a b))), .o (c.seen.map eS), .d (eL (psO a b)), .o (c.lt.map (eY a b)), .d (eT w), .d (eH a s1), .d (eH b s2), .d (.int p), .d (eT (stepM a (leapsM a g) s1 p)), .d (eT (stepM b (leapsM b g) s2 p))], ?_, _, rfl, BF.LI.hit (lt := []) (seen' := []) hl psO_lt hkall m.lm.noT hT⟩
    have hT2 : tY h (stepM a (leapsM a g) s1 p, stepM b (leapsM b g) s2 p) = true := hT
    rw [hT2] at hTy
    have eT_app : eT (w ++ [p]) = .tuple (w.map .int ++ [.int p]) := by show PyData.tuple ((w ++ [p]).map .int) = _; rw [List.map_append]; rfl
    rw [eT_app]
    clear eT_app hT hT2 hpair happ1 happ2 hltl hm hY hnin hal2 n1 n2 q1 q2 hr1 hr hv hal hbef hkall hdn hxm hlen m hl hly hps hk
    generalize stepM a (leapsM a g) s1 p = l at *
    generalize stepM b (leapsM b g) s2 p = r at *
    unfold lsl
    generalize ly.map (eY a b) = LY
    generalize c.seen.map eS = SE
    generalize c.lt.map (eY a b) = LT
    by_cases e1 : l = [] <;> by_cases e2 : r = [] <;> cases h <;> simp [e1, e2] at hTy
    all_goals
      simp only [List.cons_append, List.nil_append]
      first
        | (rw [decide_eq_true e1] at hL hL2; rw [decide_eq_false e2] at hR hR2; clear hTy e1 e2; walk_at "run"; done)
        | (rw [decide_eq_false e1] at hL hL2; rw [decide_eq_true e2] at hR hR2; clear hTy e1 e2; walk_at "run"; done)
  | false =>
    left
    have hT2 : tY h (stepM a (leapsM a g) s1 p, stepM b (leapsM b g) s2 p) = false := hT
    rw [hT2] at hTy
    have hav : alv (dl a b g (s1, s2) p) = (!decide (stepM b (leapsM b g) s2 p = [])) := by
      show (!decide (stepM a (leapsM a g) s1 p = []) && !decide (stepM b (leapsM b g) s2 p = [])) = _
      by_cases e1 : stepM a (leapsM a g) s1 p = [] <;> by_cases e2 : stepM b (leapsM b g) s2 p = [] <;> simp [e1, e2] at hTy ⊢
    by_cases hpush : dl a b g (s1, s2) p ∉ c.seen ∧ stepM b (leapsM b g) s2 p ≠ []
    · have ha2 : alv (dl a b g (s1, s2) p) = true := by rw [hav, decide_eq_false hpush.2]; rfl
      refine ⟨⟨c.lt ++ [kid1 a b g (w, s1, s2) p], c.seen ++ [dl a b g (s1, s2) p]⟩, ⟨m.lm.push hT hpush.1 ha2 hbef, by simp; have := m.ln; omega, fun t ht => ?_⟩, ?_⟩
      · rcases List.mem_append.mp ht with ht | ht
        · exact m.sp t ht
        · rw [List.mem_singleton.mp ht]; exact hpair
      · have e2 := hpush.2
        have hns : (stepM a (leapsM a g) s1 p, stepM b (leapsM b g) s2 p) ∉ c.seen := hpush.1
        rw [decide_eq_false hns] at hnin
        have hm1 : (c.lt ++ [kid1 a b g (w, s1, s2) p]).map (eY a b) = c.lt.map (eY a b) ++ [.tuple [.tuple (w.map .int ++ [.int p]), eT (stepM a (leapsM a g) s1 p), eT (stepM b (leapsM b g) s2 p)]] := by
          rw [List.map_append, ← hY]; rfl
        have hm2 : (c.seen ++ [dl a b g (s1, s2) p]).map eS = c.seen.map eS ++ [eS (stepM a (leapsM a g) s1 p, stepM b (leapsM b g) s2 p)] := by
          rw [List.map_append]; rfl
        show _ = some (Out.nx (lsl a b g h ly ⟨c.lt ++ [kid1 a b g (w, s1, s2) p], c.seen ++ [dl a b g (s1, s2) p]⟩ _))
        unfold lsl
        simp only [hm1, hm2]
        clear hm1 hm2 hns ha2 hpush hT hT2 hpair hltl hm hY hal2 n1 n2 q1 q2 hr1 hr hv hal hbef hkall hdn hxm hlen m hl hly hps hk hav
        generalize stepM a (leapsM a g) s1 p = l at *
        generalize stepM b (leapsM b g) s2 p = r at *
        generalize ly.map (eY a b) = LY
        generalize c.seen.map eS = SE at *
        generalize c.lt.map (eY a b) = LT at *
        have e1 : l ≠ [] := fun z => by subst z; simp [e2] at hTy
        rw [decide_eq_false e1] at hL hL2
        rw [decide_eq_false e2] at hR hR2
        clear hTy e1 e2
        simp only [List.cons_append, List.nil_append]
        walk_at "run"
    · refine ⟨c, ⟨m.lm.skip hT ?_ hbef, m.ln, m.sp⟩, ?_⟩
      · by_cases e2 : stepM b (leapsM b g) s2 p = []
        · right; rw [hav, decide_eq_true e2]; rfl
        · left
          by_cases hs : dl a b g (s1, s2) p ∈ c.seen
          · exact hs
          · exact (hpush ⟨hs, e2⟩).elim
      · have hpush' : (stepM a (leapsM a g) s1 p, stepM b (leapsM b g) s2 p) ∈ c.seen ∨ stepM b (leapsM b g) s2 p = [] := by
          by_cases e2 : stepM b (leapsM b g) s2 p = []
          · exact .inr e2
          · left
            by_cases hs : dl a b g (s1, s2) p ∈ c.seen
            · exact hs
            · exact (hpush ⟨hs, e2⟩).elim
        clear hpush hT hT2 hpair hltl hm hY hal2 n1 n2 q1 q2 hr1 hr hv hal hbef hkall hdn hxm hlen m hl hly hps hk hav happ1 happ2 hcat
        generalize stepM a (leapsM a g) s1 p = l at *
        generalize stepM b (leapsM b g) s2 p = r at *
        generalize hb1 : decide ((l, r) ∈ c.seen) = bs at hnin
        unfold lsl
        generalize ly.map (eY a b) = LY
        generalize c.seen.map eS = SE at *
        generalize c.lt.map (eY a b) = LT at *
        by_cases e2 : r = []
        · have e1 : l = [] ∨ h = true := by
            by_cases e1 : l = []
            · exact .inl e1
            · right; cases h
              · simp [e1, e2] at hTy
              · rfl
          rw [decide_eq_true e2] at hR hR2
          clear hpush' hb1 hTy
          rcases e1 with e1 | e1
          · rw [decide_eq_true e1] at hL hL2
            clear e1 e2
            simp only [List.cons_append, List.nil_append]
            cases bs <;> (walk_at "run")
          · subst e1
            by_cases e1 : l = []
            · rw [decide_eq_true e1] at hL hL2
              clear e1 e2
              simp only [List.cons_append, List.nil_append]
              cases bs <;> (walk_at "run")
            · rw [decide_eq_false e1] at hL hL2
              clear e1 e2
              simp only [List.cons_append, List.nil_append]
              cases bs <;> (walk_at "run")
        · have hs := hpush'.resolve_right e2
          rw [decide_eq_true hs] at hb1
          subst hb1
          have e1 : l ≠ [] := fun z => by subst z; simp [e2] at hTy
          rw [decide_eq_false e1] at hL hL2
          rw [decide_eq_false e2] at hR hR2
          clear hTy e1 e2 hpush' hs
          simp only [List.cons_append, List.nil_append]
          walk_at "run"
end
end PG
set_option Elab.async false
set_option linter.all false
set_option maxRecDepth 100000
set_option maxHeartbeats 4000000
namespace PG
open PySem PySem.Spec PyProof.Rows L2 DL DI
local macro_rules | `(tactic| walk_at "run") => `(tactic| simp [evSs, evS, evT, evE, evA, evO, evI, evG_n, evG_t, evGs_n, evGs_c, startS, args, ownAt, dicAt, nAt, DI.putAt, Sl.own, Sl.put, atI0, atI1, gGt, gLt, gLe, gGe, gInt, gMod, gDiv, gAdd_ii, gSub_ii, gIadd, gMul, gPow, gLen, gLenO, gIx, ixN, isi_ii, isi_ib, isi_tt, gNot, gNeg, gSeq, DI.gTup, gLst, gTuple, gIs, gNis, isNo, wipeS, backS, Sl.kept, wipeO, -Option.map_bind, -Option.map_map, -Option.bind_fun_some, -Option.map_eq_map, -Option.bind_eq_bind, -Option.map_eq_some_iff, *])
section
variable {a b : Reel} {g : Option Nat}
abbrev picB : ISs := (.cons (.set 12 (.ife (.cmp gNe (.v 9) (.f DI.gTup .nil)) (.f r_law_see (.cons (.v 0) (.cons (.v 2) (.cons (.v 9) (.cons (.v 11) .nil))))) (.f DI.gTup .nil)))
        (.cons (.set 13 (.ife (.cmp gNe (.v 10) (.f DI.gTup .nil)) (.f r_law_see (.cons (.v 1) (.cons (.v 2) (.cons (.v 10) (.cons (.v 11) .nil))))) (.f DI.gTup .nil)))
        (.cons (.ife (.orT (.andT (.cmp gEq (.v 12) (.f DI.gTup .nil)) (.cmp gNe (.v 13) (.f DI.gTup .nil))) (.andT (.cmp gEq (.v 13) (.f DI.gTup .nil)) (.andT (.cmp gNe (.v 12) (.f DI.gTup .nil)) (.notT (.val (.v 3)))))) (.cons (.ret (.f gAdd (.cons (.v 8) (.cons (.f DI.gTup (.cons (.v 11) .nil)) .nil))))
          .nil) .nil)
        (.cons (.ife (.andT (.val (.rd 5 gNinO (.cons (.f DI.gTup (.cons (.v 12) (.cons (.v 13) .nil))) .nil))) (.cmp gNe (.v 13) (.f DI.gTup .nil))) (.cons (.upd 5 gApp (.cons (.f DI.gTup (.cons (.v 12) (.cons (.v 13) .nil))) .nil))
          (.cons (.upd 7 gApp (.cons (.f DI.gTup (.cons (.f gAdd (.cons (.v 8) (.cons (.f DI.gTup (.cons (.v 11) .nil)) .nil))) (.cons (.v 12) (.cons (.v 13) .nil)))) .nil))
          .nil)) .nil)
        .nil))))
/-- one node of a layer -/
theorem node_turn (ha : a.Ok) (hb : b.Ok) {h : Bool} {k n0 : Nat} {ly : List (List Int × SS)} {seen0 : List SS} (hl : LIa a b g h k ly seen0) (hk : k ≤ 4225) {preL postL : List (List Int × SS)} {x : List Int × SS} (hly : preL ++ x :: postL = ly) {c : L2S} (m : MOk a b g h k n0 (kA a b g preL) c) :
    (∃ c', MOk a b g h k n0 (kA a b g (preL ++ [x])) c' ∧ ((evG (.t (.cons (.n 8) (.cons (.n 9) (.cons (.n 10) .nil)))) (eY a b x) (lsl a b g h ly c [.u, .u, .u, .u, .u, .u])).bind fun ρ1 => (evSs (.cons (.fo (.n 11) (.f gSeq (.cons (.v 6) .nil)) picB [11, 12, 13]) .nil) ρ1).map (wipeO [8, 9, 10, 11, 12, 13])) = some (.nx (lsl a b g h ly c' [.u, .u, .u, .u, .u, .u]))) ∨
    ∃ d ρ', ((evG (.t (.cons (.n 8) (.cons (.n 9) (.cons (.n 10) .nil)))) (eY a b x) (lsl a b g h ly c [.u, .u, .u, .u, .u, .u])).bind fun ρ1 => (evSs (.cons (.fo (.n 11) (.f gSeq (.cons (.v 6) .nil)) picB [11, 12, 13]) .nil) ρ1).map (wipeO [8, 9, 10, 11, 12, 13])) = some (.rt d ρ') ∧ ∃ w, d = eT w ∧ BF.Least (psO a b) (dl a b g) (st0 a b) alv (tY h) w := by
  have hkl : kA a b g (preL ++ [x]) = kA a b g preL ++ (psO a b).map (kid1 a b g x) := by
    show List.flatMap _ _ = _
    rw [List.flatMap_append]
    simp [kA, BF.kidsAll, BF.kids]
  have hG : evG (.t (.cons (.n 8) (.cons (.n 9) (.cons (.n 10) .nil)))) (eY a b x) (lsl a b g h ly c [.u, .u, .u, .u, .u, .u]) = some (lsl a b g h ly c [.d (eT x.1), .d (eH a x.2.1), .d (eH b x.2.2), .u, .u, .u]) := rfl
  rw [hG, Option.bind_some, s_fo (xs := (psO a b).map .int) (ρ1 := lsl a b g h ly c [.d (eT x.1), .d (eH a x.2.1), .d (eH b x.2.2), .u, .u, .u]) (by rfl)]
  rw [show wipeS (lsl a b g h ly c [.d (eT x.1), .d (eH a x.2.1), .d (eH b x.2.2), .u, .u, .u]) [11, 12, 13] = lsl a b g h ly c [.d (eT x.1), .d (eH a x.2.1), .d (eH b x.2.2), .u, .u, .u] from rfl]
  rcases fo_inv (enc := PyData.int) (sl := fun c => lsl a b g h ly c [.d (eT x.1), .d (eH a x.2.1), .d (eH b x.2.2), .u, .u, .u]) (P := fun pre c => MOk a b g h k n0 (kA a b g preL ++ pre.map (kid1 a b g x)) c) (R := fun d => ∃ w, d = eT w ∧ BF.Least (psO a b) (dl a b g) (st0 a b) alv (tY h) w) (f := fun x ρ => (evG (.n 11) x ρ).bind fun ρ1 => (evSs picB ρ1).map (wipeO [11, 12, 13])) (psO a b) [] c (by simpa using m) (fun pre p post c' he mc => pic_turn ha hb hl hk hly (by simpa using he) mc) with ⟨c', mc, e⟩ | ⟨d, ρ', e, r⟩
  · left
    refine ⟨c', by rw [hkl]; exact mc, ?_⟩
    rw [e]
    rfl
  · right
    refine ⟨d, ρ', ?_, r⟩
    rw [e]
    rfl
/-- the law's search -/
structure W2 where
  ly : List (List Int × SS)
  seen : List SS
structure WOk (a b : Reel) (g : Option Nat) (h : Bool) (c : W2) : Prop where
  li : (∃ k, LIa a b g h k c.ly c.seen) ∨ (c.ly = [] ∧ ∀ v, VF a b g v → tY h (RF a b g v) = false)
  nd : c.seen.Nodup
  sp : ∀ t ∈ c.seen, t ∈ pairsO a b
def wsl (a b : Reel) (g : Option Nat) (h : Bool) (c : W2) : List Sl := [.d (eReel a), .d (eReel b), .d (eGap g), .d (.bool h), .d (.list (c.ly.map (eY a b))), .o (c.seen.map eS), .d (eL (psO a b)), .u, .u, .u, .u, .u, .u, .u]
theorem st0_al (a b : Reel) : alv (st0 a b) = true := rfl
theorem st0_T (h : Bool) (a b : Reel) : tY h (st0 a b) = false := by cases h <;> rfl
theorem lawp_run (ha : a.Ok) (hb : b.Ok) (hg : GapOk g) (h : Bool) : r_law_parting [eReel a, eReel b, eGap g, .bool h] = some (oD (the a b g (tY h))) := by
  have hp := pics_run ha hb
  have hst : eY a b ([], st0 a b) = .tuple [.tuple [], .none, .none] := by
    show PyData.tuple [.tuple [], eH a (ahead a), eH b (ahead b)] = _
    unfold eH
    rw [if_pos rfl, if_pos rfl]
  let w0 : W2 := ⟨[([], st0 a b)], []⟩
  have h0 : WOk a b g h w0 := ⟨.inl ⟨0, BF.li_start (st0_al a b) (st0_T h a b)⟩, .nil, fun t ht => by cases ht⟩
  unfold r_law_parting runD i_law_parting
  rw [s_cons (ρ1 := wsl a b g h w0) (by
    simp only [wsl, w0, List.map_cons, List.map_nil]
    rw [hst]
    clear hst h0
    walk_at "run"), s_wh]
  rw [show wipeS (wsl a b g h w0) [7, 8, 9, 10, 11, 12, 13] = wsl a b g h w0 from rfl]
  generalize hw : whGo _ _ 100000 (wsl a b g h w0) = o
  have hR : ∀ d ρ', o = some (.rt d ρ') → (∃ w, d = eT w ∧ BF.Least (psO a b) (dl a b g) (st0 a b) alv (tY h) w) → d = oD (the a b g (tY h)) := fun d ρ' _ ⟨w, e, hl⟩ => by
    rw [isO_eq (o := some w) hl, e]; rfl
  have key : (o = some (.nx (wsl a b g h ⟨[], []⟩)) ∧ False) ∨ (∃ c, WOk a b g h c ∧ c.ly = [] ∧ o = some (.nx (wsl a b g h c))) ∨ ∃ d ρ', o = some (.rt d ρ') ∧ ∃ w, d = eT w ∧ BF.Least (psO a b) (dl a b g) (st0 a b) alv (tY h) w := by
    subst hw
    clear hp hst
    right
    refine wh_done (wh_ex (sl := wsl a b g h) (P := WOk a b g h) (R := fun d => ∃ w, d = eT w ∧ BF.Least (psO a b) (dl a b g) (st0 a b) alv (tY h) w) (done := fun c => decide (c.ly = [])) (μ := fun c => if c.ly = [] then 0 else 4227 - c.seen.length) (fun c hc => ?_) (fun c hc hd => ?_) 100000 w0 h0 (by show (if w0.ly = [] then 0 else 4227 - 0) ≤ 100000; split <;> decide)) (fun c hc hd e => .inl ⟨c, hc, of_decide_eq_true hd, e⟩) (fun d ρ' e r => .inr ⟨d, ρ', e, r⟩)
    · have hne := gNe_ly (a := a) (b := b) c.ly
      clear hR h0
      simp only [wsl]
      generalize c.ly.map (eY a b) = LY at *
      walk_at "run"
    · have hne : c.ly ≠ [] := of_decide_eq_false hd
      rcases hc.li with ⟨k, hli⟩ | hno
      · have hsl : c.seen.length ≤ 4225 := Nat.le_trans (nodup_sub hc.nd hc.sp) (pairsO_len ha hb)
        have hk : k ≤ 4225 := Nat.le_trans hli.few hsl
        have m0 : MOk a b g h k c.seen.length (kA a b g []) ⟨[], c.seen⟩ := ⟨hli.mid, by simp, hc.sp⟩
        show (∃ b', _ ∧ _ ∧ ((evSs _ (wsl a b g h c)).map _ = _ ∨ (evSs _ (wsl a b g h c)).map _ = _)) ∨ (_ ∧ ∃ d ρ', (evSs _ (wsl a b g h c)).map _ = _ ∧ _)
        rw [s_cons (ρ1 := lsl a b g h c.ly ⟨[], c.seen⟩ [.u, .u, .u, .u, .u, .u]) (by rfl), s_fo (xs := c.ly.map (eY a b)) (ρ1 := lsl a b g h c.ly ⟨[], c.seen⟩ [.u, .u, .u, .u, .u, .u]) (by rfl)]
        rw [show wipeS (lsl a b g h c.ly ⟨[], c.seen⟩ [.u, .u, .u, .u, .u, .u]) [8, 9, 10, 11, 12, 13] = lsl a b g h c.ly ⟨[], c.seen⟩ [.u, .u, .u, .u, .u, .u] from rfl]
        rcases fo_inv (enc := eY a b) (sl := fun c' => lsl a b g h c.ly c' [.u, .u, .u, .u, .u, .u]) (P := fun pre c' => MOk a b g h k c.seen.length (kA a b g pre) c') (R := fun d => ∃ w, d = eT w ∧ BF.Least (psO a b) (dl a b g) (st0 a b) alv (tY h) w) (f := fun x ρ => (evG (.t (.cons (.n 8) (.cons (.n 9) (.cons (.n 10) .nil)))) x ρ).bind fun ρ1 => (evSs (.cons (.fo (.n 11) (.f gSeq (.cons (.v 6) .nil)) picB [11, 12, 13]) .nil) ρ1).map (wipeO [8, 9, 10, 11, 12, 13])) c.ly [] ⟨[], c.seen⟩ m0 (fun pre x post c' he mc => node_turn ha hb hli hk (by simpa using he) mc) with ⟨c', mc, e⟩ | ⟨d, ρ', e, r⟩
        · left
          rw [e]
          have mc : MOk a b g h k c.seen.length (kA a b g c.ly) c' := mc
          refine ⟨⟨c'.lt, c'.seen⟩, ⟨?_, mc.lm.nd, mc.sp⟩, ?_, .inl rfl⟩
          · by_cases hlt : c'.lt = []
            · right
              refine ⟨hlt, ?_⟩
              have lm := mc.lm
              rw [hlt] at lm
              exact hli.none lm
            · exact .inl ⟨k + 1, hli.next mc.lm hlt⟩
          · show (if c'.lt = [] then 0 else 4227 - c'.seen.length) < (if c.ly = [] then 0 else 4227 - c.seen.length)
            rw [if_neg hne]
            split
            · omega
            · rename_i hlt
              have hml := m_len ha hb mc
              have := mc.ln
              have : 0 < c'.lt.length := List.length_pos_iff.mpr hlt
              omega
        · right
          rw [e]
          refine ⟨?_, d, ρ', rfl, r⟩
          show 0 < (if c.ly = [] then 0 else 4227 - c.seen.length)
          rw [if_neg hne]
          omega
      · exact (hne hno.1).elim
  rcases key with ⟨_, z⟩ | ⟨c, hc, hly, e⟩ | ⟨d, ρ', e, r⟩
  · exact z.elim
  · rw [e]
    have hno : ∀ v, VF a b g v → tY h (RF a b g v) = false := by
      rcases hc.li with ⟨k, hli⟩ | hno
      · rw [hly] at hli
        exact hli.none hli.mid
      · exact hno.2
    rw [isO_eq (o := none) hno]
    rfl
  · have := hR d ρ' e r
    rw [e, this]
    rfl
end
end PG
set_option Elab.async false
set_option linter.all false
set_option maxRecDepth 100000
set_option maxHeartbeats 4000000
namespace PG
open PySem PySem.Spec PyProof.Rows L2 DL DI
/-! by greater gaps: films that can be shown, frames left out -/
section
variable {r : Reel} {g : Option Nat}
abbrev bh (r : Reel) (g : Option Nat) (w : List Int) : List Int := w.foldl (stepM r (leapsM r g)) (ahead r)
theorem bh_snoc (w : List Int) (p : Int) : bh r g (w ++ [p]) = stepM r (leapsM r g) (bh r g w) p := by simp [bh]
theorem bh_in (h : r.Ok) {w : List Int} (hw : w ≠ []) : In r.nexts.length (bh r g w) := (behind_lots h g w).2.2 hw
theorem within_20 {ns : List (List Int)} (hn : ∀ r ∈ ns, In ns.length r) (h6 : ns.length ≤ 6) {st : List Int} (hst : In ns.length st) (hs : st.Pairwise (· < ·)) : withinM ns st (some 20) = withinM ns st none := by
  refine lt_one (within_lt hs _) (within_lt hs _) fun t => ?_
  rw [mem_within, mem_within]
  exact reach_eq hn hst (.inr ⟨by simp only [Option.getD_some]; omega, Nat.le_refl _⟩)
theorem leaps_20 (h : r.Ok) : leapsM r (some 20) = leapsM r none := by
  unfold leapsM
  rw [within_20 (rows_in h) h.few (zero_in h) (List.pairwise_singleton _ _)]
  congr 1
  refine List.map_congr_left fun row hr => ?_
  exact within_20 (rows_in h) h.few (rows_in h row hr) (h.row row hr).2.1
/-- a frame at s, then one at t, somehow -/
def Lk (r : Reel) (s t : Int) : Prop := if s = r.nexts.length then ∃ i, Pt r.nexts i 0 t else ∃ i, Pt r.nexts (i + 1) s t
theorem lk_g (h : r.Ok) {s t : Int} (hs : s = r.nexts.length ∨ St r s) (ht : t ∈ nx (leapsM r g) s) : Lk r s t := by
  unfold Lk
  by_cases e : s = r.nexts.length
  · rw [if_pos e]
    rw [e, rows_last, mem_within] at ht
    obtain ⟨i, _, u, hu, p⟩ := ht
    rw [List.mem_singleton.mp hu] at p
    exact ⟨i, p⟩
  · rw [if_neg e]
    rw [rows_at (hs.resolve_left e), mem_within] at ht
    obtain ⟨i, _, u, hu, p⟩ := ht
    exact ⟨i, pt_head.mpr ⟨u, hu, p⟩⟩
theorem lk_none (h : r.Ok) {s t : Int} (hs : s = r.nexts.length ∨ St r s) (hl : Lk r s t) : t ∈ nx (leapsM r none) s := by
  unfold Lk at hl
  by_cases e : s = r.nexts.length
  · rw [if_pos e] at hl
    obtain ⟨i, p⟩ := hl
    rw [e, rows_last, mem_within]
    exact pt_short (rows_in h) (zero_in h) ⟨0, List.mem_singleton.mpr rfl, p⟩
  · rw [if_neg e] at hl
    obtain ⟨i, p⟩ := hl
    rw [rows_at (hs.resolve_left e), mem_within]
    exact pt_short (rows_in h) (nx_in h s) (pt_head.mp p)
theorem lk_trans {s u t : Int} (h1 : Lk r s u) (hu : u ≠ r.nexts.length) (h2 : Lk r u t) : Lk r s t := by
  unfold Lk at h2
  rw [if_neg hu] at h2
  obtain ⟨j, q⟩ := h2
  unfold Lk at h1 ⊢
  by_cases e : s = r.nexts.length
  · rw [if_pos e] at h1 ⊢
    obtain ⟨i, p⟩ := h1
    exact ⟨_, pt_add p q⟩
  · rw [if_neg e] at h1 ⊢
    obtain ⟨i, p⟩ := h1
    exact ⟨_, (pt_add p q : Pt r.nexts (i + 1 + j + 1) s t)⟩
theorem bh_or (h : r.Ok) {w : List Int} {s : Int} (hs : s ∈ bh r g w) : s = r.nexts.length ∨ St r s := by
  by_cases e : w = []
  · subst e; exact .inl (List.mem_singleton.mp hs)
  · exact .inr (bh_in h e s hs)
/-- along a way each state is shown -/
theorem way (h : r.Ok) : ∀ (i : Nat) (s t : Int) (w : List Int), St r s → s ∈ bh r g w → Pt r.nexts i s t → (i = 0 ∧ s = t) ∨ ∃ x, t ∈ bh r g (w ++ (x ++ [picAt r.pics t]))
  | 0, s, t, w, _, hs, p => .inl ⟨rfl, p⟩
  | i + 1, s, t, w, hst, hs, p => by
    obtain ⟨u, hu, p⟩ := pt_head.mp p
    have hsu : St r u := nx_in h s u hu
    have hu2 : u ∈ bh r g (w ++ [picAt r.pics u]) := by
      rw [bh_snoc, mem_step]
      refine ⟨⟨s, hs, ?_⟩, rfl⟩
      rw [rows_at hst, mem_within]
      exact ⟨0, Nat.zero_le _, u, hu, rfl⟩
    right
    rcases way h i u t _ hsu hu2 p with ⟨_, e⟩ | ⟨x, hx⟩
    · subst e
      exact ⟨[], hu2⟩
    · exact ⟨[picAt r.pics u] ++ x, by simpa using hx⟩
theorem zero_st (h : r.Ok) : St r 0 := ⟨by omega, by have := h.some; omega⟩
theorem first0 (h : r.Ok) : (0 : Int) ∈ bh r g [picAt r.pics 0] := by
  show (0 : Int) ∈ stepM r (leapsM r g) (ahead r) (picAt r.pics 0)
  rw [mem_step]
  refine ⟨⟨_, List.mem_singleton.mpr rfl, ?_⟩, rfl⟩
  rw [rows_last, mem_within]
  exact ⟨0, Nat.zero_le _, 0, List.mem_singleton.mpr rfl, rfl⟩
theorem ne_n {t : Int} (h : St r t) : t ≠ r.nexts.length := fun z => by have := h.2; omega
theorem snoc_ind {P : List Int → Prop} (h0 : P []) (h1 : ∀ w p, P w → P (w ++ [p])) : ∀ w, P w := by
  intro w
  have : ∀ n (w : List Int), w.length = n → P w := by
    intro n
    induction n with
    | zero => intro w hw; rw [List.eq_nil_of_length_eq_zero hw]; exact h0
    | succ n ih =>
      intro w hw
      rcases List.eq_nil_or_concat w with e | ⟨u, p, e⟩
      · rw [e] at hw; simp at hw
      · rw [e, List.concat_eq_append] at hw ⊢
        exact h1 u p (ih u (by simpa using hw))
  exact this _ w rfl
/-- what is shown by the gap None is what is left of a film by any gap -/
theorem from_none (h : r.Ok) : ∀ w : List Int, ∀ t ∈ bh r none w, w ≠ [] → ∃ w', t ∈ bh r g w' ∧ w.Sublist w' ∧ w' ≠ [] := by
  refine snoc_ind (fun t _ hn => (hn rfl).elim) fun v p ih t ht _ => ?_
  rw [bh_snoc, mem_step] at ht
  obtain ⟨⟨s, hs, ht⟩, hp⟩ := ht
  have hl := lk_g h (bh_or h hs) ht
  by_cases e : v = []
  · subst e
    have hs : s = r.nexts.length := List.mem_singleton.mp hs
    unfold Lk at hl
    rw [if_pos hs] at hl
    obtain ⟨i, q⟩ := hl
    rcases way (g := g) h i 0 t _ (zero_st h) (first0 h) q with ⟨_, e⟩ | ⟨x, hx⟩
    · subst e
      refine ⟨[picAt r.pics 0], first0 h, ?_, by simp⟩
      rw [← hp]
      exact List.Sublist.refl _
    · refine ⟨_, hx, ?_, by simp⟩
      rw [hp]
      exact (List.sublist_append_right x [p]).trans (List.sublist_append_right _ _)
  · obtain ⟨w1, h1, h2, _⟩ := ih s hs e
    have hst := bh_in h e s hs
    unfold Lk at hl
    rw [if_neg (ne_n hst)] at hl
    obtain ⟨i, q⟩ := hl
    rcases way (g := g) h (i + 1) s t w1 hst h1 q with ⟨z, _⟩ | ⟨x, hx⟩
    · omega
    · refine ⟨_, hx, ?_, by simp⟩
      rw [hp]
      exact h2.append (List.sublist_append_right x [p])
theorem sub_snoc {w u : List Int} {p : Int} (h : w.Sublist (u ++ [p])) : w.Sublist u ∨ ∃ v, w = v ++ [p] ∧ v.Sublist u := by
  obtain ⟨a, b, rfl, h1, h2⟩ := List.sublist_append_iff.mp h
  cases h2 with
  | cons _ h2 => cases h2; left; simpa using h1
  | cons_cons _ h2 => cases h2; exact .inr ⟨a, rfl, h1⟩
/-- frames left out -/
theorem to_none (h : r.Ok) : ∀ w' : List Int, ∀ t ∈ bh r g w', ∀ w, w.Sublist w' → ∃ s ∈ bh r none w, s = t ∨ (Lk r s t ∧ t ≠ r.nexts.length) := by
  refine snoc_ind (fun t ht w hw => ?_) fun u p ih t ht w hw => ?_
  · cases hw
    exact ⟨t, ht, .inl rfl⟩
  · rw [bh_snoc, mem_step] at ht
    obtain ⟨⟨s', hs', ht⟩, hp⟩ := ht
    have hl := lk_g h (bh_or h hs') ht
    have htn : t ≠ r.nexts.length := by
      have : t ∈ bh r g (u ++ [p]) := by rw [bh_snoc, mem_step]; exact ⟨⟨s', hs', ht⟩, hp⟩
      exact ne_n (bh_in h (by simp) t this)
    have step : ∀ v, v.Sublist u → ∃ s ∈ bh r none v, Lk r s t := fun v hv => by
      obtain ⟨s, hs, e⟩ := ih s' hs' v hv
      rcases e with e | ⟨e, hn⟩
      · subst e; exact ⟨s, hs, hl⟩
      · exact ⟨s, hs, lk_trans e hn hl⟩
    rcases sub_snoc hw with hw | ⟨v, rfl, hv⟩
    · obtain ⟨s, hs, e⟩ := step w hw
      exact ⟨s, hs, .inr ⟨e, htn⟩⟩
    · obtain ⟨s, hs, e⟩ := step v hv
      refine ⟨t, ?_, .inl rfl⟩
      rw [bh_snoc, mem_step]
      exact ⟨⟨s, hs, lk_none h (bh_or h hs) e⟩, hp⟩
end
section
variable {a b : Reel} {g : Option Nat}
theorem imp_none (ha : a.Ok) (hb : b.Ok) (h : ∀ w, bh a g w ≠ [] → bh b g w ≠ []) (w : List Int) (hw : bh a none w ≠ []) : bh b none w ≠ [] := by
  by_cases e : w = []
  · subst e; exact fun z => by cases z
  · obtain ⟨t, ht⟩ := List.exists_mem_of_ne_nil _ hw
    obtain ⟨w', h1, h2, _⟩ := from_none (g := g) ha w t ht e
    have h3 := h w' (List.ne_nil_of_mem h1)
    obtain ⟨t', ht'⟩ := List.exists_mem_of_ne_nil _ h3
    obtain ⟨s, hs, _⟩ := to_none hb w' t' ht' w h2
    exact List.ne_nil_of_mem hs
/-! what parting is -/
theorem the_spec (ha : a.Ok) (hb : b.Ok) (hg : GapOk g) (T : SS → Bool) : IsO a b g T (the a b g T) := by
  obtain ⟨q, hq, hat, _⟩ := first_run ha hb hg
  have hpi := hq.pi
  rw [hat] at hpi
  have hl := hpi.least T
  cases hfd : q.fd.find? (fun f => T f.1) with
  | none =>
    have : IsO a b g T none := hl.2 hfd
    rw [isO_eq this]; exact this
  | some f =>
    have : IsO a b g T (some f.2) := hl.1 f hfd
    rw [isO_eq this]; exact this
theorem step_pic {r : Reel} (h : r.Ok) {st : List Int} {p t : Int} (ht : t ∈ stepM r (leapsM r g) st p) : p ∈ r.pics := by
  have hin : In r.nexts.length (stepM r (leapsM r g) st p) := step_in (leaps_ok h g)
  obtain ⟨_, hp⟩ := mem_step.mp ht
  rw [← hp]
  exact List.mem_of_getElem? (pic_at h (hin t ht))
theorem step_off {r : Reel} (h : r.Ok) {st : List Int} {p : Int} (hp : p ∉ r.pics) : stepM r (leapsM r g) st p = [] := by
  cases e : stepM r (leapsM r g) st p with
  | nil => rfl
  | cons t l => exact (hp (step_pic (g := g) (st := st) h (t := t) (by rw [e]; simp))).elim
theorem RF_eq (w : List Int) : RF a b g w = (bh a g w, bh b g w) := run_two a b g w
/-- a film: valid; or one ahead of it tells; or none shows it -/
theorem film_way (ha : a.Ok) (hb : b.Ok) : ∀ w : List Int, VF a b g w ∨ (∃ v, VF a b g v ∧ tX (RF a b g v) = true ∧ v.length < w.length) ∨ (bh a g w = [] ∧ bh b g w = []) := by
  refine snoc_ind (.inl .nil) fun u p ih => ?_
  rcases ih with hv | ⟨v, h1, h2, h3⟩ | ⟨h1, h2⟩
  · by_cases hal : alv (RF a b g u) = true
    · by_cases hp : p ∈ psO a b
      · exact .inl (.snoc hv hal hp)
      · right; right
        have hp' : p ∉ a.pics ∧ p ∉ b.pics := ⟨fun z => hp (mem_setI.mpr (List.mem_append_left _ z)), fun z => hp (mem_setI.mpr (List.mem_append_right _ z))⟩
        rw [bh_snoc, bh_snoc]
        exact ⟨step_off ha hp'.1, step_off hb hp'.2⟩
    · rw [RF_eq] at hal
      by_cases e1 : bh a g u = [] <;> by_cases e2 : bh b g u = []
      · right; right
        rw [bh_snoc, bh_snoc, e1, e2]
        exact ⟨step_nil _ _, step_nil _ _⟩
      · right; left
        refine ⟨u, hv, ?_, by simp⟩
        rw [RF_eq]
        show (decide _ != decide _) = true
        rw [decide_eq_true e1, decide_eq_false e2]; rfl
      · right; left
        refine ⟨u, hv, ?_, by simp⟩
        rw [RF_eq]
        show (decide _ != decide _) = true
        rw [decide_eq_false e1, decide_eq_true e2]; rfl
      · refine (hal ?_).elim
        show (!decide _ && !decide _) = true
        rw [decide_eq_false e1, decide_eq_false e2]; rfl
  · exact .inr (.inl ⟨v, h1, h2, by simp; omega⟩)
  · right; right
    rw [bh_snoc, bh_snoc, h1, h2]
    exact ⟨step_nil _ _, step_nil _ _⟩
theorem tX_iff (s : SS) : tX s = false ↔ (s.1 = [] ↔ s.2 = []) := by
  unfold tX
  by_cases e1 : s.1 = [] <;> by_cases e2 : s.2 = [] <;> simp [e1, e2]
theorem none_iff (ha : a.Ok) (hb : b.Ok) (hg : GapOk g) : (the a b g tX).isNone = true ↔ ∀ w, bh a g w = [] ↔ bh b g w = [] := by
  have hs := the_spec ha hb hg tX
  constructor
  · intro hn w
    cases ho : the a b g tX with
    | some d => rw [ho] at hn; cases hn
    | none =>
      rw [ho] at hs
      rcases film_way (g := g) ha hb w with hv | ⟨v, h1, h2, _⟩ | ⟨h1, h2⟩
      · have := hs w hv
        rw [RF_eq, tX_iff] at this
        exact this
      · rw [hs v h1] at h2; cases h2
      · rw [h1, h2]
  · intro hw
    cases ho : the a b g tX with
    | none => rfl
    | some d =>
      rw [ho] at hs
      have h2 := hs.2.1
      have : tX (RF a b g d) = false := by rw [RF_eq, tX_iff]; exact hw d
      rw [show tX (BF.run (dl a b g) (st0 a b) d) = false from this] at h2
      cases h2
theorem none_up (ha : a.Ok) (hb : b.Ok) (hg : GapOk g) (h : (the a b g tX).isNone = true) : (the a b none tX).isNone = true := by
  have h1 := (none_iff ha hb hg).mp h
  refine (none_iff (g := none) ha hb trivial).mpr fun w => ?_
  have i1 := imp_none ha hb (g := g) (fun w hw z => hw ((h1 w).mpr z)) w
  have i2 := imp_none hb ha (g := g) (fun w hw z => hw ((h1 w).mp z)) w
  constructor
  · intro e
    by_cases z : bh b none w = []
    · exact z
    · exact (i2 z e).elim
  · intro e
    by_cases z : bh a none w = []
    · exact z
    · exact (i1 z e).elim
theorem none_20 (ha : a.Ok) (hb : b.Ok) (h : (the a b none tX).isNone = true) : PN a b 20 := by
  have h1 := (none_iff (g := none) ha hb trivial).mp h
  refine (none_iff (g := some 20) ha hb (Nat.le_refl _)).mpr fun w => ?_
  have e1 : bh a (some 20) w = bh a none w := by unfold bh; rw [leaps_20 ha]
  have e2 : bh b (some 20) w = bh b none w := by unfold bh; rw [leaps_20 hb]
  rw [e1, e2]
  exact h1 w
end
end PG
set_option Elab.async false
set_option linter.all false
set_option maxRecDepth 100000
set_option maxHeartbeats 4000000
namespace PG
open PySem PySem.Spec PyProof.Rows L2 DL DI
local macro_rules | `(tactic| walk_at "run") => `(tactic| simp [evSs, evS, evT, evE, evA, evO, evI, evG_n, evG_t, evGs_n, evGs_c, startS, args, ownAt, dicAt, nAt, DI.putAt, Sl.own, Sl.put, atI0, atI1, gGt, gLt, gLe, gGe, gInt, gMod, gDiv, gAdd_ii, gSub_ii, gIadd, gMul, gPow, gLen, gLenO, gIx, ixN, isi_ii, isi_ib, isi_tt, gNot, gNeg, gSeq, DI.gTup, gLst, gTuple, gIs, gNis, isNo, wipeS, backS, Sl.kept, wipeO, -Option.map_bind, -Option.map_map, -Option.bind_fun_some, -Option.map_eq_map, -Option.bind_eq_bind, -Option.map_eq_some_iff, *])
/-! a value is like itself -/
theorem k_it : kitB "int" "tuple" = some false := by decide +kernel
theorem k_il : kitB "int" "list" = some false := by decide +kernel
theorem k_id : kitB "int" "dict" = some false := by decide +kernel
theorem k_is : kitB "int" "str" = some false := by decide +kernel
theorem k_nt : kitB "NoneType" "tuple" = some false := by decide +kernel
theorem k_nl : kitB "NoneType" "list" = some false := by decide +kernel
theorem k_nd : kitB "NoneType" "dict" = some false := by decide +kernel
theorem k_ns : kitB "NoneType" "str" = some false := by decide +kernel
theorem k_tl : kitB "tuple" "list" = some false := by decide +kernel
theorem k_bb : kitB "bool" "bool" = some true := by decide +kernel
theorem alike_int (k : Nat) (x : Int) : q_law_alike_2 (k + 1) [.int x, .int x] = some (.bool true) := by
  have h1 : gIsi2 "tuple" "list" [.int x] = some (.bool false) := by
    show (if dctB (.int x) = true then none else (kitB "int" "tuple").bind fun a => (kitB "int" "list").map fun b => PyData.bool (a || b)) = _
    rw [k_it, k_il]; rfl
  have h2 : gIsi "dict" [.int x] = some (.bool false) := by show (kitB "int" "dict").map _ = _; rw [k_id]; rfl
  have h3 : gIsi "str" [.int x] = some (.bool false) := by show (kitB "int" "str").map _ = _; rw [k_is]; rfl
  have h4 : gEq [.int x, .int x] = some true := by rw [gEq_ii]; simp
  have h5 : gEq [.bool false, .bool false] = some true := rfl
  unfold q_law_alike_2 runD i_law_alike_2
  walk_at "run"
theorem alike_none (k : Nat) : q_law_alike_2 (k + 1) [.none, .none] = some (.bool true) := by
  have h1 : gIsi2 "tuple" "list" [.none] = some (.bool false) := by
    show (if dctB .none = true then none else (kitB "NoneType" "tuple").bind fun a => (kitB "NoneType" "list").map fun b => PyData.bool (a || b)) = _
    rw [k_nt, k_nl]; rfl
  have h2 : gIsi "dict" [.none] = some (.bool false) := by show (kitB "NoneType" "dict").map _ = _; rw [k_nd]; rfl
  have h3 : gIsi "str" [.none] = some (.bool false) := by show (kitB "NoneType" "str").map _ = _; rw [k_ns]; rfl
  have h4 : gEq [.none, .none] = some true := by decide +kernel
  have h5 : gEq [.bool false, .bool false] = some true := rfl
  unfold q_law_alike_2 runD i_law_alike_2
  walk_at "run"
theorem filter_false {α : Type} : ∀ l : List α, (l.filter fun _ => false) = []
  | [] => rfl
  | _ :: l => filter_false l
theorem alike_T (k : Nat) {w : List Int} (hw : w.length < 1000000) : q_law_alike_2 (k + 2) [eT w, eT w] = some (.bool true) := by
  have h1 : gIsi2 "tuple" "list" [eT w] = some (.bool true) := by
    show (if dctB (eT w) = true then none else (kitB "tuple" "tuple").bind fun a => (kitB "tuple" "list").map fun b => PyData.bool (a || b)) = _
    rw [kb_tt, k_tl]; rfl
  have h2 : gIsi "list" [eT w] = some (.bool false) := by show (kitB "tuple" "list").map _ = _; rw [k_tl]; rfl
  have h3 : gNe [.bool false, .bool false] = some false := rfl
  have h4 : gNe [.int (w.length : Nat), .int (w.length : Nat)] = some false := by rw [gNe_ii]; simp
  have hr := gRng1_nat hw
  rw [rangeD_up] at hr
  have h5 := gEq_ints [] []
  have h5' : gEq [.list [], .list []] = some true := h5
  clear h5
  have hO : evO (.lc (.n 2) (.f gRng1 (.cons (.f gLen (.cons (.v 1) .nil)) .nil)) (.notT (.val (.f (q_law_alike_2 (k + 1)) (.cons (.f gIx (.cons (.v 0) (.cons (.v 2) .nil))) (.cons (.f gIx (.cons (.v 1) (.cons (.v 2) .nil))) .nil))))) (.v 2) [2]) [.d (eT w), .d (eT w), .u, .u] = some ([], [.d (eT w), .d (eT w), .u, .u]) := by
    unfold evO
    have hI : evI (.f gRng1 (.cons (.f gLen (.cons (.v 1) .nil)) .nil)) [.d (eT w), .d (eT w), .u, .u] = some ((upTo0 w.length).map .int, [.d (eT w), .d (eT w), .u, .u]) := by
      clear h1 h2 h3 h4 h5'
      walk_at "run"
    rw [hI]
    simp only [Option.bind_some]
    rw [show wipeS [.d (eT w), .d (eT w), .u, .u] [2] = [.d (eT w), .d (eT w), .u, .u] from rfl]
    rw [lc_filter (enc := .int) (g := .int) (p := fun _ => false) (upTo0 w.length) fun t ht => ?_, filter_false]
    · rfl
    · have hin := upTo_mem ht
      obtain ⟨x, hx⟩ : ∃ x, w[t.toNat]? = some x := ⟨_, List.getElem?_eq_getElem (by omega)⟩
      have hix : atI (w.map PyData.int) t = some (.int x) := atI_map (f := PyData.int) hin.1 hx
      have ha := alike_int k x
      clear h1 h2 h3 h4 h5' hI hr
      walk_at "run"
  unfold q_law_alike_2 runD i_law_alike_2
  show (evSs _ [.d (eT w), .d (eT w), .u, .u]).bind _ = _
  rw [s_rt (d := .bool true) (ρ1 := [.d (eT w), .d (eT w), .u, .u]) (by
    unfold evS
    have ht : evT (.val (.f (gIsi2 "tuple" "list") (.cons (.v 1) .nil))) [.d (eT w), .d (eT w), .u, .u] = some (true, [.d (eT w), .d (eT w), .u, .u]) := by
      clear h2 h3 h4 h5' hr hO
      walk_at "run"
    rw [ht]
    simp only [Option.bind_some, if_true]
    rw [s_cons (ρ1 := [.d (eT w), .d (eT w), .u, .u]) (by clear h5' hr hO h4; walk_at "run"), s_cons (ρ1 := [.d (eT w), .d (eT w), .u, .u]) (by clear h5' hr hO h1 h2 h3; walk_at "run")]
    refine s_ret ?_
    unfold evE evA
    unfold evE
    rw [hO]
    simp only [Option.map_some, Option.bind_some, evA, evE, evO, gLst, List.length_nil, h5']
    rfl)]
  rfl
theorem alike_O {o : Option (List Int)} (h : ∀ d, o = some d → d.length < 1000000) : r_law_alike_2 [oD o, oD o] = some (.bool true) := by
  cases o with
  | none => exact alike_none 7
  | some d => exact alike_T 6 (h d rfl)
theorem is_run (x : Bool) : r_law_is [.bool x, .bool x] = some (.bool true) := by
  have h1 : gIsi "bool" [.bool x] = some (.bool true) := by show (kitB "bool" "bool").map _ = _; rw [k_bb]; rfl
  have h2 : gEq [.bool x, .bool x] = some true := by cases x <;> rfl
  unfold r_law_is runD i_law_is
  walk_at "run"
/-! all films -/
theorem fo_exS {β : Type} {sl : β → List Sl} {P : Nat → β → Prop} {f : D → List Sl → Option Out} {m : Nat} : ∀ (n k : Nat) (b : β), k + n ≤ m → P k b → (∀ k b, k < m → P k b → ∃ b', P (k + 1) b' ∧ f (.int (k : Nat)) (sl b) = some (.nx (sl b'))) →
    ∃ b', P (k + n) b' ∧ foGo f ((List.range' k n).map fun i => PyData.int (i : Nat)) (sl b) = some (.nx (sl b'))
  | 0, k, b, _, hb, _ => ⟨b, hb, rfl⟩
  | n + 1, k, b, hm, hb, h => by
    obtain ⟨b1, p1, e1⟩ := h k b (by omega) hb
    obtain ⟨b2, p2, e2⟩ := fo_exS n (k + 1) b1 (by omega) p1 h
    refine ⟨b2, by rw [show k + (n + 1) = k + 1 + n by omega]; exact p2, ?_⟩
    rw [List.range'_succ, List.map_cons]
    unfold foGo
    rw [e1]
    exact e2
theorem rangeD_s (n : Nat) : rangeD 0 n = (List.range' 0 n).map fun i => PyData.int (i : Nat) := by
  unfold rangeD
  rw [List.range_eq_range']
  refine List.map_congr_left fun i _ => ?_
  rw [Int.zero_add]
def allF (ps : List Int) : Nat → List (List Int)
  | 0 => [[]]
  | n + 1 => (allF ps n).flatMap fun f => ps.map fun p => f ++ [p]
theorem allF_mem {ps : List Int} : ∀ {n : Nat} {w : List Int}, w ∈ allF ps n ↔ w.length = n ∧ ∀ p ∈ w, p ∈ ps
  | 0, w => by
    show w ∈ [[]] ↔ _
    rw [List.mem_singleton]
    exact ⟨fun h => by subst h; exact ⟨rfl, fun p hp => by cases hp⟩, fun h => List.eq_nil_of_length_eq_zero h.1⟩
  | n + 1, w => by
    show w ∈ (allF ps n).flatMap _ ↔ _
    rw [List.mem_flatMap]
    constructor
    · rintro ⟨f, hf, hw⟩
      obtain ⟨p, hp, rfl⟩ := List.mem_map.mp hw
      obtain ⟨h1, h2⟩ := allF_mem.mp hf
      refine ⟨by simp [h1], fun q hq => ?_⟩
      rcases List.mem_append.mp hq with hq | hq
      · exact h2 q hq
      · rw [List.mem_singleton.mp hq]; exact hp
    · rintro ⟨h1, h2⟩
      rcases List.eq_nil_or_concat w with e | ⟨u, p, e⟩
      · rw [e] at h1; simp at h1
      · rw [List.concat_eq_append] at e
        subst e
        exact ⟨u, allF_mem.mpr ⟨by simpa using h1, fun q hq => h2 q (List.mem_append_left _ hq)⟩, List.mem_map.mpr ⟨p, h2 p (by simp), rfl⟩⟩
theorem allF_sorted {ps : List Int} (hp : ps.Pairwise (· < ·)) : ∀ n, (allF ps n).Pairwise BF.sllt
  | 0 => List.pairwise_singleton _ _
  | n + 1 => by
    have ih := allF_sorted hp n
    show ((allF ps n).flatMap _).Pairwise _
    generalize allF ps n = F at ih
    induction F with
    | nil => exact .nil
    | cons x F ihF =>
      rw [List.pairwise_cons] at ih
      rw [List.flatMap_cons, List.pairwise_append]
      refine ⟨?_, ihF ih.2, fun u hu v hv => ?_⟩
      · rw [List.pairwise_map]
        exact hp.imp fun h => BF.sllt_end _ h
      · obtain ⟨p, _, rfl⟩ := List.mem_map.mp hu
        obtain ⟨y, hy, hv⟩ := List.mem_flatMap.mp hv
        obtain ⟨q, _, rfl⟩ := List.mem_map.mp hv
        exact BF.sllt_snoc _ _ (ih.1 y hy)
theorem allF_len (ps : List Int) : ∀ n, (allF ps n).length = ps.length ^ n
  | 0 => rfl
  | n + 1 => by
    show ((allF ps n).flatMap _).length = _
    rw [Nat.pow_succ, ← allF_len ps n]
    generalize allF ps n = F
    induction F with
    | nil => simp
    | cons x F ih => rw [List.flatMap_cons, List.length_append, ih, List.length_map, List.length_cons, Nat.succ_mul]; omega
theorem films_run {ps : List Int} (h12 : ps.length ≤ 12) {n : Nat} (hn : n ≤ 4) : r_law_all_films [eL ps, .int (n : Nat)] = some (.list ((allF ps n).map eT)) := by
  let sl : List (List Int) → List Sl := fun F => [.d (eL ps), .d (.int (n : Nat)), .d (.list (F.map eT)), .u, .u, .u, .u]
  have hr := gRng1_nat (n := n) (by omega)
  rw [rangeD_s] at hr
  have hpow : ∀ k, k ≤ 4 → ps.length ^ k ≤ 20736 := fun k hk => calc
    ps.length ^ k ≤ 12 ^ k := Nat.pow_le_pow_left h12 k
    _ ≤ 12 ^ 4 := Nat.pow_le_pow_right (by decide) hk
    _ = 20736 := rfl
  refine run_rt (ρ := sl (allF ps n)) ?_
  unfold i_law_all_films
  rw [s_cons (ρ1 := sl [[]]) (by rfl), s_fo (xs := (List.range' 0 n).map fun i => PyData.int (i : Nat)) (ρ1 := sl [[]]) (by simp only [sl]; clear hpow; walk_at "run")]
  rw [show wipeS (sl [[]]) [3, 4, 5] = sl [[]] from rfl]
  obtain ⟨F, hF, e⟩ := fo_exS (sl := sl) (P := fun k F => F = allF ps k) (m := 4) (f := fun x ρ => (evG (.n 3) x ρ).bind fun ρ1 => (evSs (.cons (.set 4 (.o (.f gLst .nil)))
    (.cons (.fo (.n 5) (.f gSeq (.cons (.v 2) .nil)) (.cons (.set 4 (.f gAdd (.cons (.v 4) (.cons (.o (.lc (.n 6) (.f gSeq (.cons (.v 0) .nil)) .tt (.f gAdd (.cons (.v 5) (.cons (.f DI.gTup (.cons (.v 6) .nil)) .nil))) [6])) .nil))))
      .nil) [5])
    (.cons (.set 2 (.v 4))
    .nil))) ρ1).map (wipeO [3, 4, 5])) n 0 [[]] (by omega) rfl (fun k F hk hF => by
      refine ⟨allF ps (k + 1), rfl, ?_⟩
      subst hF
      let s2 : List (List Int) → List Sl := fun L => [.d (eL ps), .d (.int (n : Nat)), .d (.list ((allF ps k).map eT)), .d (.int (k : Nat)), .d (.list (L.map eT)), .u, .u]
      show (evSs _ [.d (eL ps), .d (.int (n : Nat)), .d (.list ((allF ps k).map eT)), .d (.int (k : Nat)), .u, .u, .u]).map _ = _
      rw [s_cons (ρ1 := s2 []) (by rfl), s_fo (xs := (allF ps k).map eT) (ρ1 := s2 []) (by rfl)]
      rw [show wipeS (s2 []) [5] = s2 [] from rfl]
      have hlenk : (allF ps k).length ≤ 20736 := by rw [allF_len]; exact hpow k (by omega)
      have hfo := fun (ff : D → List Sl → Option Out) h => fo_foldN (enc := eT) (sl := s2) (f := ff) (step := fun L f => L ++ ps.map fun p => f ++ [p]) (P := fun j L => L.length = j * ps.length) (m := 20736) (allF ps k) 0 [] (by omega) (by simp) h
      rw [hfo _ fun f hf j L hj hL => ⟨?_, ?_⟩]
      · have hfold : ∀ (G L : List (List Int)), G.foldl (fun L f => L ++ ps.map fun p => f ++ [p]) L = L ++ G.flatMap fun f => ps.map fun p => f ++ [p] := by
          intro G
          induction G with
          | nil => intro L; simp
          | cons x G ih => intro L; rw [List.foldl_cons, ih]; simp
        rw [hfold]
        rfl
      · rw [List.length_append, List.length_map, hL, Nat.succ_mul]
      · have hfl : f.length = k := (allF_mem.mp hf).1
        have heq : (ps.map fun p => PyData.tuple (f.map PyData.int ++ [PyData.int p])) = ps.map fun p => eT (f ++ [p]) := List.map_congr_left fun p _ => by
          show _ = PyData.tuple ((f ++ [p]).map .int)
          rw [List.map_append]; rfl
        have hpl : (ps.map fun p => PyData.tuple (f.map PyData.int ++ [PyData.int p])).length ≤ 12 := by rw [List.length_map]; exact h12
        have hfew := few_len hpl (by decide)
        have hcat : ∀ p : Int, gAdd [.tuple (f.map PyData.int), .tuple [PyData.int p]] = some (.tuple (f.map PyData.int ++ [PyData.int p])) := fun p => gAdd_TT (by rw [List.length_map, List.length_singleton]; omega)
        have hbound : L.length + ps.length ≤ 1000000 := by
          rw [hL]
          have : j * ps.length ≤ 20736 * 12 := Nat.mul_le_mul (by omega) h12
          omega
        have hadd : gAdd [.list (L.map eT), .list (ps.map fun p => PyData.tuple (f.map PyData.int ++ [PyData.int p]))] = some (.list ((L ++ ps.map fun p => f ++ [p]).map eT)) := by
          rw [heq, gAdd_LL (by rw [List.length_map, List.length_map]; exact hbound), List.map_append, List.map_map]
          rfl
        have hO : evO (.lc (.n 6) (.f gSeq (.cons (.v 0) .nil)) .tt (.f gAdd (.cons (.v 5) (.cons (.f DI.gTup (.cons (.v 6) .nil)) .nil))) [6]) [.d (eL ps), .d (.int (n : Nat)), .d (.list ((allF ps k).map eT)), .d (.int (k : Nat)), .d (.list (L.map eT)), .d (eT f), .u] = some (ps.map fun p => PyData.tuple (f.map PyData.int ++ [PyData.int p]), [.d (eL ps), .d (.int (n : Nat)), .d (.list ((allF ps k).map eT)), .d (.int (k : Nat)), .d (.list (L.map eT)), .d (eT f), .u]) := by
          unfold evO
          show ((lcGo _ (ps.map .int) _).bind _) = _
          rw [lc_map (enc := .int) (g := fun p => PyData.tuple (f.map PyData.int ++ [PyData.int p])) ps fun p hp => ?_]
          · simp only [Option.bind_some, hfew, if_true]
            rfl
          · have := hcat p
            clear hadd hfew hfo hlenk hr hpow heq
            walk_at "run"
        show ((evSs (.cons (.set 4 _) .nil) [.d (eL ps), .d (.int (n : Nat)), .d (.list ((allF ps k).map eT)), .d (.int (k : Nat)), .d (.list (L.map eT)), .d (eT f), .u])).map _ = _
        rw [s_cons (ρ1 := [.d (eL ps), .d (.int (n : Nat)), .d (.list ((allF ps k).map eT)), .d (.int (k : Nat)), .d (.list ((L ++ ps.map fun p => f ++ [p]).map eT)), .d (eT f), .u]) (by
          unfold evS
          rw [evAddO (x := .list (L.map eT)) rfl hO hadd]
          rfl)]
        rfl)
  rw [e]
  simp only [Nat.zero_add] at hF
  subst hF
  rfl
end PG
set_option Elab.async false
set_option linter.all false
set_option maxRecDepth 100000
set_option maxHeartbeats 4000000
namespace PG
open PySem PySem.Spec PyProof.Rows L2 DL DI
local macro_rules | `(tactic| walk_at "run") => `(tactic| simp [evSs, evS, evT, evE, evA, evO, evI, evG_n, evG_t, evGs_n, evGs_c, startS, args, ownAt, dicAt, nAt, DI.putAt, Sl.own, Sl.put, atI0, atI1, gGt, gLt, gLe, gGe, gInt, gMod, gDiv, gAdd_ii, gSub_ii, gIadd, gMul, gPow, gLen, gLenO, gIx, ixN, isi_ii, isi_ib, isi_tt, gNot, gNeg, gSeq, DI.gTup, gLst, gTuple, gIs, gNis, isNo, wipeS, backS, Sl.kept, wipeO, -Option.map_bind, -Option.map_map, -Option.bind_fun_some, -Option.map_eq_map, -Option.bind_eq_bind, -Option.map_eq_some_iff, *])
local macro_rules | `(tactic| walk_at "ruq") => `(tactic| simp [evSs, evS, evT, evE, evA, evO, evI, evG_n, evG_t, evGs_n, evGs_c, startS, args, ownAt, dicAt, nAt, DI.putAt, Sl.own, Sl.put, atI0, atI1, gGt, gLt, gLe, gGe, gInt, gMod, gDiv, gAdd_ii, gSub_ii, gIadd, gMul, gPow, gLen, gLenO, gIx, ixN, isi_ii, isi_ib, isi_tt, gNot, gNeg, gSeq, DI.gTup, gLst, gTuple, wipeS, backS, Sl.kept, wipeO, -Option.map_bind, -Option.map_map, -Option.bind_fun_some, -Option.map_eq_map, -Option.bind_eq_bind, -Option.map_eq_some_iff, *])
section
variable {a b : Reel} {g : Option Nat}
theorem the_len (ha : a.Ok) (hb : b.Ok) (hg : GapOk g) {T : SS → Bool} {d : List Int} (h : the a b g T = some d) : d.length < 1000000 := by
  obtain ⟨q, hq, hat, _⟩ := first_run ha hb hg
  have hpi := hq.pi
  rw [hat] at hpi
  have hl := hpi.least T
  have hlen := (q_len ha hb hq).1
  cases hfd : q.fd.find? (fun f => T f.1) with
  | none => rw [isO_eq (o := none) (hl.2 hfd)] at h; cases h
  | some f =>
    rw [isO_eq (o := some f.2) (hl.1 f hfd)] at h
    cases h
    have hm := hq.pi.fnd f (List.mem_of_find?_eq_some hfd)
    have := hq.ln _ (List.mem_of_mem_take hm)
    have : f.2.length ≤ q.at' := this
    omega
theorem gNe_Ts (A : List (List Int)) : gNe [.list (A.map eT), .list []] = some (!decide (A = [])) := by
  have h1 : PyData.canLayAll0 (A.map eT) = true := by
    induction A with
    | nil => rfl
    | cons x A ih =>
      simp only [List.map_cons, PyData.canLayAll0]
      rw [ih, canLay_T]; rfl
  have h2 : PyData.depthAll (A.map eT) ≤ 1 := by
    clear h1
    induction A with
    | nil => simp [PyData.depthAll]
    | cons x A ih =>
      have := depth_T x
      simp only [List.map_cons, PyData.depthAll]
      omega
  have d : PyData.depth (.list (A.map eT)) ≤ 64 := by simp only [PyData.depth]; omega
  have c : PyData.canLay0 (.list (A.map eT)) = true := by simp only [PyData.canLay0]; exact h1
  have hs : SeqAt.shaped (.list (A.map eT)) = true := by
    unfold SeqAt.shaped
    rw [c, decide_eq_true d]; rfl
  show (if SeqAt.shaped (.list (A.map eT)) = true ∧ SeqAt.shaped (.list []) = true then some (PyData.eqv (.list (A.map eT)) (.list [])) else none).map (!·) = _
  rw [if_pos ⟨hs, by decide +kernel⟩]
  cases A with
  | nil => rfl
  | cons x A => simp [PyData.eqv, PyData.eqvAll]
theorem gNe_TT (x y : List Int) : gNe [eT x, eT y] = some (!decide (x = y)) := by
  show (if SeqAt.shaped (eT x) = true ∧ SeqAt.shaped (eT y) = true then some (PyData.eqv (eT x) (eT y)) else none).map (!·) = _
  rw [if_pos ⟨shaped_intsT x, shaped_intsT y⟩, eqv_intsT]
  rfl
theorem canB_bh {r : Reel} (hr : r.Ok) (w : List Int) : canB r g w = !decide (bh r g w = []) := by
  unfold canB
  rw [stands_eq hr]
  by_cases e : w = []
  · subst e
    rw [if_pos rfl]
    rfl
  · rw [if_neg e]
    rfl
abbrev apF (a b : Reel) (g : Option Nat) (k : Nat) : List (List Int) := (allF (psO a b) k).filter fun w => canB a g w != canB b g w
theorem apart_tX (ha : a.Ok) (hb : b.Ok) (w : List Int) : (canB a g w != canB b g w) = tX (RF a b g w) := by
  rw [RF_eq, canB_bh ha, canB_bh hb]
  unfold tX
  by_cases e1 : bh a g w = [] <;> by_cases e2 : bh b g w = [] <;> simp [e1, e2]
theorem valid_ps {w : List Int} (h : VF a b g w) : ∀ p ∈ w, p ∈ psO a b := by
  induction h with
  | nil => intro p hp; cases hp
  | @snoc u q _ _ hq ih =>
    intro p hp
    rcases List.mem_append.mp hp with hp | hp
    · exact ih p hp
    · rw [List.mem_singleton.mp hp]; exact hq
/-- what a film that just one can show says of the first of them -/
theorem due_apart (ha : a.Ok) (hb : b.Ok) (hg : GapOk g) {k : Nat} {x : List Int} {rest : List (List Int)} (h : apF a b g k = x :: rest) : ∃ d, the a b g tX = some d ∧ d.length ≤ k ∧ (d.length = k → d = x) := by
  have hs := the_spec ha hb hg tX
  have hsort : (apF a b g k).Pairwise BF.sllt := (allF_sorted psO_lt k).filter _
  have hx : x ∈ apF a b g k := by rw [h]; simp
  have key : ∀ w ∈ apF a b g k, ∃ v, VF a b g v ∧ tX (RF a b g v) = true ∧ (v = w ∨ v.length < w.length) := by
    intro w hw
    obtain ⟨h1, h2⟩ := List.mem_filter.mp hw
    have hT : tX (RF a b g w) = true := by rw [← apart_tX ha hb]; exact h2
    rcases film_way (g := g) ha hb w with hv | ⟨v, v1, v2, v3⟩ | ⟨e1, e2⟩
    · exact ⟨w, hv, hT, .inl rfl⟩
    · exact ⟨v, v1, v2, .inr v3⟩
    · rw [RF_eq, show tX (bh a g w, bh b g w) = false from (tX_iff _).mpr ⟨fun _ => e2, fun _ => e1⟩] at hT
      cases hT
  obtain ⟨v, hv, hvT, hvx⟩ := key x hx
  have hxl : x.length = k := (allF_mem.mp (List.mem_filter.mp hx).1).1
  cases ho : the a b g tX with
  | none =>
    rw [ho] at hs
    rw [hs v hv] at hvT
    cases hvT
  | some d =>
    rw [ho] at hs
    have hdv := hs.2.2 v hv hvT
    have hdl := BF.sle_len hdv
    have hvl : v.length ≤ k := by
      rcases hvx with e | e
      · rw [e]; omega
      · omega
    refine ⟨d, rfl, by omega, fun hk => ?_⟩
    have hvx' : v = x := by
      rcases hvx with e | e
      · exact e
      · omega
    rw [hvx'] at hdv
    have hdm : d ∈ apF a b g k := by
      refine List.mem_filter.mpr ⟨allF_mem.mpr ⟨hk, ?_⟩, ?_⟩
      · exact valid_ps hs.1
      · rw [apart_tX ha hb]; exact hs.2.1
    rw [h] at hdm hsort
    rcases List.mem_cons.mp hdm with e | hdm
    · exact e
    · exact BF.sle_anti hdv (.inr ((List.pairwise_cons.mp hsort).1 d hdm))
/-- one length of films -/
theorem many_turn (ha : a.Ok) (hb : b.Ok) (hg : GapOk g) {k : Nat} (hk : k ≤ 4) {s0 s1 s5 : Sl} {body : ISs} (hbody : body = (.cons (.set 8 (.f r_law_all_films (.cons (.f r_law_pictures (.cons (.v 2) (.cons (.v 4) .nil))) (.cons (.v 7) .nil))))
    (.cons (.setF 9 (.lc (.n 12) (.f gSeq (.cons (.v 8) .nil)) (.cmp gNe (.f r_law_can (.cons (.v 2) (.cons (.v 3) (.cons (.v 12) .nil)))) (.f r_law_can (.cons (.v 4) (.cons (.v 3) (.cons (.v 12) .nil))))) (.v 12) [12]))
    (.cons (.ife (.andT (.cmp gNe (.v 9) (.o (.f gLst .nil))) (.orT (.cmp gIs (.v 6) (.c .none)) (.cmp gGt (.f gLen (.cons (.v 6) .nil)) (.v 7)))) (.cons (.ret (.c (.bool false)))
      .nil) .nil)
    (.cons (.ife (.andT (.cmp gNe (.v 9) (.o (.f gLst .nil))) (.andT (.cmp gEq (.f gLen (.cons (.v 6) .nil)) (.v 7)) (.cmp gNe (.v 6) (.f gIx (.cons (.v 9) (.cons (.c (.int 0)) .nil)))))) (.cons (.ret (.c (.bool false)))
      .nil) .nil)
    .nil))))) :
    (evSs body [s0, s1, .d (eReel a), .d (eGap g), .d (eReel b), s5, .d (oD (the a b g tX)), .d (.int (k : Nat)), .u, .u, .u, .u, .u]).map (wipeO [7, 8, 9]) = some (.nx [s0, s1, .d (eReel a), .d (eGap g), .d (eReel b), s5, .d (oD (the a b g tX)), .u, .u, .u, .u, .u, .u]) := by
  subst hbody
  have hp := pics_run ha hb
  have hf := films_run (psO_len ha hb) hk
  have hpow : (allF (psO a b) k).length ≤ 20736 := by
    rw [allF_len]
    calc (psO a b).length ^ k ≤ 12 ^ k := Nat.pow_le_pow_left (psO_len ha hb) k
      _ ≤ 12 ^ 4 := Nat.pow_le_pow_right (by decide) hk
      _ = 20736 := rfl
  have hfew := few_len (ys := (apF a b g k).map eT) (n := 20736) (by rw [List.length_map]; exact Nat.le_trans (List.length_filter_le _ _) hpow) (by decide)
  have hne := gNe_Ts (apF a b g k)
  let ρ2 : List Sl := [s0, s1, .d (eReel a), .d (eGap g), .d (eReel b), s5, .d (oD (the a b g tX)), .d (.int (k : Nat)), .d (.list ((allF (psO a b) k).map eT)), .u, .u, .u, .u]
  let ρ3 : List Sl := [s0, s1, .d (eReel a), .d (eGap g), .d (eReel b), s5, .d (oD (the a b g tX)), .d (.int (k : Nat)), .d (.list ((allF (psO a b) k).map eT)), .d (.list ((apF a b g k).map eT)), .u, .u, .u]
  have hO : evO (.lc (.n 12) (.f gSeq (.cons (.v 8) .nil)) (.cmp gNe (.f r_law_can (.cons (.v 2) (.cons (.v 3) (.cons (.v 12) .nil)))) (.f r_law_can (.cons (.v 4) (.cons (.v 3) (.cons (.v 12) .nil))))) (.v 12) [12]) ρ2 = some ((apF a b g k).map eT, ρ2) := by
    unfold evO
    show ((lcGo _ ((allF (psO a b) k).map eT) ρ2).bind _) = _
    rw [lc_filter (enc := eT) (g := eT) (p := fun w => canB a g w != canB b g w) (allF (psO a b) k) fun w hw => ?_]
    · simp only [Option.bind_some, hfew, if_true]
      rfl
    · have c1 := can2_run (g := g) (film := w) ha
      have c2 := can2_run (g := g) (film := w) hb
      have hn := gNe_bb (canB a g w) (canB b g w)
      generalize (canB a g w != canB b g w) = z at hn
      clear hfew hne hpow hf hp
      generalize oD (the a b g tX) = D0
      cases z with
      | true => simp only [ρ2]; walk_at "run"
      | false => simp only [ρ2]; walk_at "run"
  rw [s_cons (ρ1 := ρ2) (by
      clear hO hfew hne hpow
      simp only [ρ2]
      clear ρ2 ρ3
      generalize oD (the a b g tX) = D0
      walk_at "run"), s_cons (ρ1 := ρ3) (by
      unfold evS
      rw [hO]
      rfl)]
  clear hO hfew hf hp hpow
  cases hap : apF a b g k with
  | nil =>
    rw [hap] at hne
    have hne : gNe [.list [], .list []] = some false := hne
    have hap' : ρ3 = [s0, s1, .d (eReel a), .d (eGap g), .d (eReel b), s5, .d (oD (the a b g tX)), .d (.int (k : Nat)), .d (.list ((allF (psO a b) k).map eT)), .d (.list []), .u, .u, .u] := by
      simp only [ρ3]
      rw [hap]; rfl
    rw [hap']
    clear hap' hap
    generalize oD (the a b g tX) = D0
    generalize (allF (psO a b) k).map eT = AF
    clear ρ2 ρ3
    walk_at "run"
  | cons x rest =>
    obtain ⟨d, ho, hdl, hdx⟩ := due_apart ha hb hg hap
    rw [hap] at hne
    have hap' : ρ3 = [s0, s1, .d (eReel a), .d (eGap g), .d (eReel b), s5, .d (eT d), .d (.int (k : Nat)), .d (.list ((allF (psO a b) k).map eT)), .d (.list (eT x :: rest.map eT)), .u, .u, .u] := by
      simp only [ρ3]
      rw [hap, ho]; rfl
    have hne : gNe [.list (eT x :: rest.map eT), .list []] = some true := hne
    rw [hap', ho]
    show _ = some (Out.nx [s0, s1, .d (eReel a), .d (eGap g), .d (eReel b), s5, .d (eT d), .u, .u, .u, .u, .u, .u])
    clear hap' hap
    generalize (allF (psO a b) k).map eT = AF
    generalize rest.map eT = RS at *
    clear ρ2 ρ3 ho
    have hgt : ¬ ((k : Nat) : Int) < (d.length : Int) := by omega
    by_cases hk2 : d.length = k
    · have hx := hdx hk2
      have heq : gEq [.int (d.length : Nat), .int (k : Nat)] = some true := by rw [gEq_ii, hk2]; simp
      have hdd := gNe_TT d x
      rw [decide_eq_true hx] at hdd
      have hat : atI (eT x :: RS) 0 = some (eT x) := atI0 _ _
      clear hdx hk2 hdl
      subst hx
      walk_at "run"
      try omega
    · have heq : gEq [.int (d.length : Nat), .int (k : Nat)] = some false := by
        rw [gEq_ii]
        congr 1
        exact decide_eq_false fun z => hk2 (by omega)
      clear hdx hk2 hdl
      walk_at "run"
      try omega
theorem gRngL_21 : gRngL [.int 21] = some ((upTo0 21).map .int) := by
  show (if Nat.ble 21 999999 = true then some (rangeD 0 21) else none) = _
  rw [if_pos (by decide), rangeD_up]
noncomputable def GL (a b : Reel) : List Int := (upTo0 21).filter fun k => (the a b (some k.toNat) tX).isNone
theorem up_nat {k : Int} (h : k ∈ upTo0 21) : k = ((k.toNat : Nat) : Int) ∧ k.toNat ≤ 20 := by
  have := upTo_mem h
  omega
theorem gl_none (ha : a.Ok) (hb : b.Ok) : (!decide (GL a b = [])) = (the a b none tX).isNone := by
  cases hn : (the a b none tX).isNone with
  | true =>
    have h20 := none_20 ha hb hn
    have hm : (20 : Int) ∈ GL a b := List.mem_filter.mpr ⟨by
      unfold upTo0
      exact List.mem_map.mpr ⟨20, List.mem_range.mpr (by decide), rfl⟩, h20⟩
    rw [decide_eq_false (fun z => by rw [z] at hm; cases hm)]
    rfl
  | false =>
    have : GL a b = [] := by
      refine List.filter_eq_nil_iff.mpr fun k hk z => ?_
      have := none_up ha hb (g := some k.toNat) (up_nat hk).2 z
      rw [hn] at this; cases this
    rw [decide_eq_true this]
    rfl
theorem gl_head (ha : a.Ok) (hb : b.Ok) {n : Nat} (hn : n ≤ 20) (hp : PN a b n) (hm : ∀ m, m < n → ¬ PN a b m) : ∃ rest, GL a b = (n : Int) :: rest := by
  have hmem : (n : Int) ∈ GL a b := List.mem_filter.mpr ⟨by
    unfold upTo0
    exact List.mem_map.mpr ⟨n, List.mem_range.mpr (by omega), by omega⟩, hp⟩
  have hs : (GL a b).Pairwise (· < ·) := (upTo_lt 21).filter _
  cases e : GL a b with
  | nil => rw [e] at hmem; cases hmem
  | cons x rest =>
    refine ⟨rest, ?_⟩
    have hx : x ∈ GL a b := by rw [e]; simp
    obtain ⟨h1, h2⟩ := List.mem_filter.mp hx
    obtain ⟨e1, e2⟩ := up_nat h1
    rw [e] at hmem hs
    rcases List.mem_cons.mp hmem with z | z
    · rw [z]
    · have := (List.pairwise_cons.mp hs).1 _ z
      exact (hm x.toNat (by omega) h2).elim
theorem ret_run {s0 s1 s5 : Sl} (ha : a.Ok) (hb : b.Ok) {D6 : D} {rest : ISs} (hrest : rest = (.cons (.setF 10 (.lc (.n 11) (.f gSeq (.cons (.o (.f gRngL (.cons (.c (.int 21)) .nil))) .nil)) (.cmp gIs (.f r_law_parting (.cons (.v 2) (.cons (.v 4) (.cons (.v 11) (.cons (.c (.bool false)) .nil))))) (.c .none)) (.v 11) [11]))
  (.cons (.ife (.cmp gNe (.f (fun ds => (gNe ds).map .bool) (.cons (.v 10) (.cons (.o (.f gLst .nil)) .nil))) (.f (fun ds => (gIs ds).map .bool) (.cons (.f r_law_parting (.cons (.v 2) (.cons (.v 4) (.cons (.c .none) (.cons (.c (.bool false)) .nil))))) (.cons (.c .none) .nil)))) (.cons (.ret (.c (.bool false)))
    .nil) .nil)
  (.cons (.ret (.f r_law_alike_2 (.cons (.f r_least_gap_alike (.cons (.v 2) (.cons (.v 4) .nil))) (.cons (.ife (.cmp gNe (.v 10) (.o (.f gLst .nil))) (.f gIx (.cons (.v 10) (.cons (.c (.int 0)) .nil))) (.c .none)) .nil))))
  .nil)))) : ∃ ρ', evSs rest [s0, s1, .d (eReel a), .d (eGap g), .d (eReel b), s5, .d D6, .u, .u, .u, .u, .u, .u] = some (.rt (.bool true) ρ') := by
  subst hrest
  let ρ0 : List Sl := [s0, s1, .d (eReel a), .d (eGap g), .d (eReel b), s5, .d D6, .u, .u, .u, .u, .u, .u]
  let ρ1 : List Sl := [s0, s1, .d (eReel a), .d (eGap g), .d (eReel b), s5, .d D6, .u, .u, .u, .d (.list ((GL a b).map .int)), .u, .u]
  have hfew := few_len (ys := (GL a b).map PyData.int) (n := 21) (by rw [List.length_map]; refine Nat.le_trans (List.length_filter_le _ _) ?_; rw [upTo_len]; exact Nat.le_refl _) (by decide)
  have hO : evO (.lc (.n 11) (.f gSeq (.cons (.o (.f gRngL (.cons (.c (.int 21)) .nil))) .nil)) (.cmp gIs (.f r_law_parting (.cons (.v 2) (.cons (.v 4) (.cons (.v 11) (.cons (.c (.bool false)) .nil))))) (.c .none)) (.v 11) [11]) ρ0 = some ((GL a b).map .int, ρ0) := by
    have hI : evI (.f gSeq (.cons (.o (.f gRngL (.cons (.c (.int 21)) .nil))) .nil)) ρ0 = some ((upTo0 21).map .int, ρ0) := by
      have := gRngL_21
      clear hfew
      generalize (upTo0 21).map PyData.int = U at *
      simp only [ρ0]
      walk_at "run"
    unfold evO
    rw [hI]
    simp only [Option.bind_some]
    rw [show wipeS ρ0 [11] = ρ0 from rfl]
    rw [lc_filter (enc := .int) (g := .int) (p := fun k => (the a b (some k.toNat) tX).isNone) (upTo0 21) fun k hk => ?_]
    · show (if few ((GL a b).map PyData.int) = true then _ else _) = _
      rw [hfew]
      rfl
    · obtain ⟨e1, e2⟩ := up_nat hk
      have hl : r_law_parting [eReel a, eReel b, .int k, .bool false] = some (oD (the a b (some k.toNat) tX)) := by
        have := lawp_run (a := a) (b := b) (g := some k.toNat) ha hb e2 false
        rw [show eGap (some k.toNat) = .int k from by show PyData.int _ = _; rw [← e1]] at this
        exact this
      rw [← isNo_oD]
      have hgis : gIs [oD (the a b (some k.toNat) tX), .none] = some (isNo (oD (the a b (some k.toNat) tX))) := rfl
      generalize isNo (oD (the a b (some k.toNat) tX)) = zz at *
      generalize oD (the a b (some k.toNat) tX) = D0 at *
      clear hI hfew e1 e2 hk
      cases zz with
      | true => simp only [ρ0]; walk_at "ruq"
      | false => simp only [ρ0]; walk_at "ruq"
  rw [s_cons (ρ1 := ρ1) (by
    unfold evS
    rw [hO]
    rfl)]
  clear hO hfew
  have hgl := gl_none ha hb
  have hne := gNe_ints (GL a b) []
  rw [hgl] at hne
  have hne : gNe [.list ((GL a b).map .int), .list []] = some (!decide (GL a b = [])) := by rw [hgl]; exact hne
  have hp0 : r_law_parting [eReel a, eReel b, .none, .bool false] = some (oD (the a b none tX)) := lawp_run (g := none) ha hb trivial false
  have hisn : isNo (oD (the a b none tX)) = (!decide (GL a b = [])) := by rw [isNo_oD, hgl]
  have hgis : gIs [oD (the a b none tX), .none] = some (!decide (GL a b = [])) := congrArg some hisn
  have hbb := gNe_bb (!decide (GL a b = [])) (!decide (GL a b = []))
  rw [bne_self_eq_false] at hbb
  obtain ⟨L1, L2⟩ := least_run ha hb (none_20 ha hb)
  rw [s_cons (ρ1 := ρ1) (by
    clear L1 L2 hgl hisn
    simp only [ρ1]
    clear ρ0 ρ1
    generalize oD (the a b none tX) = D0 at *
    generalize (!decide (GL a b = [])) = z at *
    generalize (GL a b).map PyData.int = G at *
    walk_at "ruq")]
  refine ⟨ρ1, s_ret ?_⟩
  clear hbb hp0 hisn hgis
  cases hn : (the a b none tX).isNone with
  | true =>
    rw [hn] at hgl
    obtain ⟨n, n1, n2, n3, n4⟩ := L2 hn
    obtain ⟨rest, hh⟩ := gl_head ha hb n1 n2 n3
    have hal := alike_int 7 ((n : Nat) : Int)
    have hal : r_law_alike_2 [.int (n : Nat), .int (n : Nat)] = some (.bool true) := hal
    rw [hgl] at hne
    simp only [ρ1]
    clear ρ0 ρ1 L1 L2 n1 n2 n3 hn hgl
    rw [hh] at hne ⊢
    have hne : gNe [.list (.int (n : Nat) :: rest.map .int), .list []] = some true := hne
    show evE _ [s0, s1, .d (eReel a), .d (eGap g), .d (eReel b), s5, .d D6, .u, .u, .u, .d (.list (.int (n : Nat) :: rest.map .int)), .u, .u] = some (_, [s0, s1, .d (eReel a), .d (eGap g), .d (eReel b), s5, .d D6, .u, .u, .u, .d (.list (.int (n : Nat) :: rest.map .int)), .u, .u])
    have hat : atI (PyData.int (n : Nat) :: rest.map .int) 0 = some (.int (n : Nat)) := atI0 _ _
    clear hh
    generalize rest.map PyData.int = RS at *
    walk_at "run"
  | false =>
    rw [hn] at hgl
    have h0 := L1 hn
    have hal : r_law_alike_2 [.none, .none] = some (.bool true) := alike_none 7
    rw [hgl] at hne
    simp only [ρ1]
    clear ρ0 ρ1 L1 L2 hn hgl
    generalize (GL a b).map PyData.int = G at *
    walk_at "run"
end
end PG
set_option Elab.async false
set_option linter.all false
set_option maxRecDepth 100000
set_option maxHeartbeats 4000000
namespace PG
open PySem PySem.Spec PyProof.Rows L2 DL DI
local macro_rules | `(tactic| walk_at "run") => `(tactic| simp [evSs, evS, evT, evE, evA, evO, evI, evG_n, evG_t, evGs_n, evGs_c, startS, args, ownAt, dicAt, nAt, DI.putAt, Sl.own, Sl.put, atI0, atI1, gGt, gLt, gLe, gGe, gInt, gMod, gDiv, gAdd_ii, gSub_ii, gIadd, gMul, gPow, gLen, gLenO, gIx, ixN, isi_ii, isi_ib, isi_tt, gNot, gNeg, gSeq, DI.gTup, gLst, gTuple, wipeS, backS, Sl.kept, wipeO, -Option.map_bind, -Option.map_map, -Option.bind_fun_some, -Option.map_eq_map, -Option.bind_eq_bind, -Option.map_eq_some_iff, *])
section
variable {a b : Reel} {g : Option Nat}
theorem gRng2_15 : gRng2 [.int 1, .int 5] = some ([1, 2, 3, 4].map fun n : Nat => PyData.int (n : Nat)) := by
  have h : (small 1 && small 5) = true := by decide
  show (if (small 1 && small 5) = true then some (rangeD 1 4) else none) = _
  rw [if_pos h]
  rfl
theorem bls_self (x : Bool) : (x != x) = false := by cases x <;> rfl
theorem rest_run (ha : a.Ok) (hb : b.Ok) (hg : GapOk g) {s0 s1 s5 : Sl} {rest : ISs} (hrest : rest = (.cons (.set 6 (.f r_law_parting (.cons (.v 2) (.cons (.v 4) (.cons (.v 3) (.cons (.c (.bool false)) .nil))))))
  (.cons (.ife (.orT (.notT (.val (.f r_law_alike_2 (.cons (.f r_parting_film (.cons (.v 2) (.cons (.v 4) (.cons (.v 3) .nil)))) (.cons (.v 6) .nil))))) (.notT (.val (.f r_law_is (.cons (.f r_are_same (.cons (.v 2) (.cons (.v 4) (.cons (.v 3) .nil)))) (.cons (.f (fun ds => (gIs ds).map .bool) (.cons (.v 6) (.cons (.c .none) .nil))) .nil)))))) (.cons (.ret (.c (.bool false)))
    .nil) .nil)
  (.cons (.ife (.notT (.val (.f r_law_is (.cons (.f r_covers (.cons (.v 2) (.cons (.v 4) (.cons (.v 3) .nil)))) (.cons (.f (fun ds => (gIs ds).map .bool) (.cons (.f r_law_parting (.cons (.v 2) (.cons (.v 4) (.cons (.v 3) (.cons (.c (.bool true)) .nil))))) (.cons (.c .none) .nil))) .nil))))) (.cons (.ret (.c (.bool false)))
    .nil) .nil)
  (.cons (.ife (.notT (.val (.f r_law_is (.cons (.f r_covers (.cons (.v 4) (.cons (.v 2) (.cons (.v 3) .nil)))) (.cons (.f (fun ds => (gIs ds).map .bool) (.cons (.f r_law_parting (.cons (.v 4) (.cons (.v 2) (.cons (.v 3) (.cons (.c (.bool true)) .nil))))) (.cons (.c .none) .nil))) .nil))))) (.cons (.ret (.c (.bool false)))
    .nil) .nil)
  (.cons (.fo (.n 7) (.f gRng2 (.cons (.c (.int 1)) (.cons (.c (.int 5)) .nil))) (.cons (.set 8 (.f r_law_all_films (.cons (.f r_law_pictures (.cons (.v 2) (.cons (.v 4) .nil))) (.cons (.v 7) .nil))))
    (.cons (.setF 9 (.lc (.n 12) (.f gSeq (.cons (.v 8) .nil)) (.cmp gNe (.f r_law_can (.cons (.v 2) (.cons (.v 3) (.cons (.v 12) .nil)))) (.f r_law_can (.cons (.v 4) (.cons (.v 3) (.cons (.v 12) .nil))))) (.v 12) [12]))
    (.cons (.ife (.andT (.cmp gNe (.v 9) (.o (.f gLst .nil))) (.orT (.cmp gIs (.v 6) (.c .none)) (.cmp gGt (.f gLen (.cons (.v 6) .nil)) (.v 7)))) (.cons (.ret (.c (.bool false)))
      .nil) .nil)
    (.cons (.ife (.andT (.cmp gNe (.v 9) (.o (.f gLst .nil))) (.andT (.cmp gEq (.f gLen (.cons (.v 6) .nil)) (.v 7)) (.cmp gNe (.v 6) (.f gIx (.cons (.v 9) (.cons (.c (.int 0)) .nil)))))) (.cons (.ret (.c (.bool false)))
      .nil) .nil)
    .nil)))) [7, 8, 9])
  (.cons (.setF 10 (.lc (.n 11) (.f gSeq (.cons (.o (.f gRngL (.cons (.c (.int 21)) .nil))) .nil)) (.cmp gIs (.f r_law_parting (.cons (.v 2) (.cons (.v 4) (.cons (.v 11) (.cons (.c (.bool false)) .nil))))) (.c .none)) (.v 11) [11]))
  (.cons (.ife (.cmp gNe (.f (fun ds => (gNe ds).map .bool) (.cons (.v 10) (.cons (.o (.f gLst .nil)) .nil))) (.f (fun ds => (gIs ds).map .bool) (.cons (.f r_law_parting (.cons (.v 2) (.cons (.v 4) (.cons (.c .none) (.cons (.c (.bool false)) .nil))))) (.cons (.c .none) .nil)))) (.cons (.ret (.c (.bool false)))
    .nil) .nil)
  (.cons (.ret (.f r_law_alike_2 (.cons (.f r_least_gap_alike (.cons (.v 2) (.cons (.v 4) .nil))) (.cons (.ife (.cmp gNe (.v 10) (.o (.f gLst .nil))) (.f gIx (.cons (.v 10) (.cons (.c (.int 0)) .nil))) (.c .none)) .nil))))
  .nil))))))))) : ∃ ρ', evSs rest [s0, s1, .d (eReel a), .d (eGap g), .d (eReel b), s5, .u, .u, .u, .u, .u, .u, .u] = some (.rt (.bool true) ρ') := by
  subst hrest
  let ρ1 : List Sl := [s0, s1, .d (eReel a), .d (eGap g), .d (eReel b), s5, .d (oD (the a b g tX)), .u, .u, .u, .u, .u, .u]
  have p1 : r_law_parting [eReel a, eReel b, eGap g, .bool false] = some (oD (the a b g tX)) := lawp_run ha hb hg false
  have p2 : r_law_parting [eReel a, eReel b, eGap g, .bool true] = some (oD (the a b g tH)) := lawp_run ha hb hg true
  have p3 : r_law_parting [eReel b, eReel a, eGap g, .bool true] = some (oD (the b a g tH)) := lawp_run hb ha hg true
  have q1 := parting_run ha hb hg
  have q2 := same_run ha hb hg
  have q3 := covers_run ha hb hg
  have q4 := covers_run hb ha hg
  have hal := alike_O (o := the a b g tX) fun d hd => the_len ha hb hg hd
  have i1 := is_run (the a b g tX).isNone
  have i2 := is_run (the a b g tH).isNone
  have i3 := is_run (the b a g tH).isNone
  have n1 : gIs [oD (the a b g tX), .none] = some (the a b g tX).isNone := congrArg some (isNo_oD _)
  have n2 : gIs [oD (the a b g tH), .none] = some (the a b g tH).isNone := congrArg some (isNo_oD _)
  have n3 : gIs [oD (the b a g tH), .none] = some (the b a g tH).isNone := congrArg some (isNo_oD _)
  rw [s_cons (ρ1 := ρ1) (by
      clear p2 p3 q1 q2 q3 q4 hal i1 i2 i3 n1 n2 n3
      simp only [ρ1]
      clear ρ1
      generalize oD (the a b g tX) = D0 at *
      walk_at "run"), s_cons (ρ1 := ρ1) (by
      clear p1 p2 p3 q3 q4 i2 i3 n2 n3
      simp only [ρ1]
      clear ρ1
      generalize oD (the a b g tX) = D0 at *
      generalize (the a b g tX).isNone = z at *
      walk_at "run"), s_cons (ρ1 := ρ1) (by
      clear p1 p3 q1 q2 q4 hal i1 i3 n1 n3
      simp only [ρ1]
      clear ρ1
      generalize oD (the a b g tX) = D0 at *
      generalize oD (the a b g tH) = D1 at *
      generalize (the a b g tH).isNone = z at *
      walk_at "run"), s_cons (ρ1 := ρ1) (by
      clear p1 p2 q1 q2 q3 hal i1 i2 n1 n2
      simp only [ρ1]
      clear ρ1
      generalize oD (the a b g tX) = D0 at *
      generalize oD (the b a g tH) = D1 at *
      generalize (the b a g tH).isNone = z at *
      walk_at "run")]
  clear p1 p2 p3 q1 q2 q3 q4 hal i1 i2 i3 n1 n2 n3
  rw [s_fo (xs := [1, 2, 3, 4].map fun n : Nat => PyData.int (n : Nat)) (ρ1 := ρ1) (by
      have := gRng2_15
      generalize ([1, 2, 3, 4].map fun n : Nat => PyData.int (n : Nat)) = U at *
      simp only [ρ1]
      clear ρ1
      generalize oD (the a b g tX) = D0 at *
      walk_at "run")]
  rw [show wipeS ρ1 [7, 8, 9] = ρ1 from rfl]
  rw [fo_same (enc := fun n : Nat => PyData.int (n : Nat)) [1, 2, 3, 4] fun k hk => ?_]
  · exact ret_run ha hb rfl
  · have hk4 : k ≤ 4 := by
      simp only [List.mem_cons, List.not_mem_nil, or_false] at hk
      omega
    exact many_turn ha hb hg hk4 rfl
/-- a row with one more state -/
def bent (a : Reel) (n : Nat) (row : List Int) (v : Int) : Reel := ⟨a.nexts.take n ++ [setI (row ++ [v])] ++ a.nexts.drop (n + 1), a.pics⟩
theorem bent_ok (h : a.Ok) {n : Nat} {row : List Int} (hr : a.nexts[n]? = some row) {v : Int} (hv : 0 ≤ v ∧ v < a.nexts.length) : (bent a n row v).Ok := by
  have hn : n < a.nexts.length := (List.getElem?_eq_some_iff.mp hr).1
  have hlen : (bent a n row v).nexts.length = a.nexts.length := by
    show (a.nexts.take n ++ [setI (row ++ [v])] ++ a.nexts.drop (n + 1)).length = _
    simp
    omega
  have hrow := h.row row (List.mem_of_getElem? hr)
  refine ⟨by rw [hlen]; exact h.some, by rw [hlen]; exact h.few, by rw [hlen]; exact h.pl, fun ns hns => ?_, h.pic⟩
  rw [hlen]
  have hns : ns ∈ a.nexts.take n ++ [setI (row ++ [v])] ++ a.nexts.drop (n + 1) := hns
  rcases List.mem_append.mp hns with hns | hns
  · rcases List.mem_append.mp hns with hns | hns
    · exact h.row ns (List.mem_of_mem_take hns)
    · rw [List.mem_singleton.mp hns]
      refine ⟨fun z => ?_, setI_lt _, fun s hs => ?_⟩
      · have : v ∈ setI (row ++ [v]) := mem_setI.mpr (by simp)
        rw [z] at this; cases this
      · rcases List.mem_append.mp (mem_setI.mp hs) with hs | hs
        · exact hrow.2.2 s hs
        · rw [List.mem_singleton.mp hs]; exact hv
  · exact h.row ns (List.mem_of_mem_drop hns)
theorem law62 (ns : List Int) : r_law_k62 [scrD (ns.map .int)] = some (.bool true) := by
  generalize hscr : scrD (ns.map .int) = scr
  let r0 : Row := ⟨ns, 0, 9162, 0⟩
  have hp0 : 0 ≤ r0.p := Int.le_refl 0
  obtain ⟨a, r1, e1, ha, hal, hp1⟩ := reel2_run (r := r0) (most := 4) (pics := 2) hp0 (by decide) (by decide) (by decide) (by decide)
  obtain ⟨g, r2, hg, hp2, e2⟩ := gap2_run (r := r1) hp1
  obtain ⟨b0, r3, e3, hb0, _, hp3⟩ := reel2_run (r := r2) (most := 4) (pics := 2) hp2 (by decide) (by decide) (by decide) (by decide)
  have t4 := taken_run (r := r3) (m := 3) (by decide) (by decide) hp3
  have hp4 := takenR_p (m := 3) hp3
  generalize takenR r3 3 = r4 at t4 hp4
  generalize takenV r3 3 = v4 at t4
  let s3 : List Sl := [.d scr, .o (eRow r3), .d (eReel a), .d (eGap g), .d (eReel b0), .u, .u, .u, .u, .u, .u, .u, .u]
  unfold r_law_k62 runD i_law_k62
  show (evSs _ [.d scr, .u, .u, .u, .u, .u, .u, .u, .u, .u, .u, .u, .u]).bind _ = _
  rw [s_cons (ρ1 := [.d scr, .o (eRow r0), .u, .u, .u, .u, .u, .u, .u, .u, .u, .u, .u]) (by subst hscr; rfl),
    s_cons (ρ1 := [.d scr, .o (eRow r2), .d (eReel a), .d (eGap g), .u, .u, .u, .u, .u, .u, .u, .u, .u]) (by
      clear hscr e3 t4 s3
      walk_at "run"),
    s_cons (ρ1 := s3) (by
      clear hscr e1 e2 t4
      simp only [s3]
      clear s3
      walk_at "run")]
  have key : ∃ (b : Reel) (s1 s5 : Sl), b.Ok ∧ evS (.ife (.cmp gEq (.up 1 r_law_taken (.cons (.c (.int 3)) .nil)) (.c (.int 0))) (.cons (.set 5 (.up 1 r_law_taken (.cons (.f gLen (.cons (.f gIx (.cons (.v 2) (.cons (.c (.int 0)) .nil))) .nil)) .nil)))
    (.cons (.set 4 (.f DI.gTup (.cons (.f gAdd (.cons (.f gAdd (.cons (.f gCutTo (.cons (.f gIx (.cons (.v 2) (.cons (.c (.int 0)) .nil))) (.cons (.v 5) .nil))) (.cons (.f DI.gTup (.cons (.f gTuple (.cons (.o (.f gSet (.cons (.f gAdd (.cons (.f gIx (.cons (.f gIx (.cons (.v 2) (.cons (.c (.int 0)) .nil))) (.cons (.v 5) .nil))) (.cons (.f DI.gTup (.cons (.up 1 r_law_taken (.cons (.f gLen (.cons (.f gIx (.cons (.v 2) (.cons (.c (.int 0)) .nil))) .nil)) .nil)) .nil)) .nil))) .nil))) .nil)) .nil)) .nil))) (.cons (.f gCutFrom (.cons (.f gIx (.cons (.v 2) (.cons (.c (.int 0)) .nil))) (.cons (.f gAdd (.cons (.v 5) (.cons (.c (.int 1)) .nil))) .nil))) .nil))) (.cons (.f gIx (.cons (.v 2) (.cons (.c (.int 1)) .nil))) .nil))))
    .nil)) .nil) s3 = some (.nx [.d scr, s1, .d (eReel a), .d (eGap g), .d (eReel b), s5, .u, .u, .u, .u, .u, .u, .u]) := by
    by_cases h0 : v4 = 0
    · have hn1 : (1 : Int) ≤ (a.nexts.length : Int) := by have := ha.some; omega
      have t5 := taken_run (r := r4) (m := a.nexts.length) (by omega) (by have := ha.few; omega) hp4
      have l5 := taken_lt (r := r4) (m := (a.nexts.length : Int)) (by omega)
      have hp5 := takenR_p (m := (a.nexts.length : Int)) hp4
      generalize takenR r4 a.nexts.length = r5 at t5 hp5
      generalize takenV r4 a.nexts.length = v5 at t5 l5
      have t6 := taken_run (r := r5) (m := a.nexts.length) (by omega) (by have := ha.few; omega) hp5
      have l6 := taken_lt (r := r5) (m := (a.nexts.length : Int)) (by omega)
      generalize takenR r5 a.nexts.length = r6 at t6
      generalize takenV r5 a.nexts.length = v6 at t6 l6
      obtain ⟨n, rfl⟩ : ∃ n : Nat, v5 = n := ⟨v5.toNat, by omega⟩
      obtain ⟨row, hrow⟩ : ∃ row, a.nexts[n]? = some row := ⟨_, List.getElem?_eq_getElem (by omega)⟩
      have hok := bent_ok ha hrow l6
      have hrow6 : row.length ≤ 6 := by
        have := ha.row row (List.mem_of_getElem? hrow)
        have := lt_len this.2.1 this.2.2
        have := ha.few
        omega
      refine ⟨bent a n row v6, .o (eRow r6), .d (.int (n : Nat)), hok, ?_⟩
      have h6 := ha.few
      have hat : atI (a.nexts.map eT) ((n : Nat) : Int) = some (eT row) := atI_nat (j := n) (by rw [List.getElem?_map, hrow]; rfl)
      have hct : gCutTo [eN a.nexts, .int (n : Nat)] = some (.tuple ((a.nexts.take n).map eT)) := by
        show some (PyData.tuple (if (0 : Int) ≤ (n : Int) then (a.nexts.map eT).take (n : Int).toNat else _)) = _
        rw [if_pos (by omega), Int.toNat_natCast, List.map_take]
      have hcf : gCutFrom [eN a.nexts, .int ((n : Nat) + 1)] = some (.tuple ((a.nexts.drop (n + 1)).map eT)) := by
        show some (PyData.tuple (if (0 : Int) ≤ (n : Int) + 1 then (a.nexts.map eT).drop ((n : Int) + 1).toNat else _)) = _
        rw [if_pos (by omega), show ((n : Int) + 1).toNat = n + 1 by omega, List.map_drop]
      have hadd1 : gAdd [eT row, .tuple [PyData.int v6]] = some (eT (row ++ [v6])) := by
        rw [gAdd_TT (by rw [List.length_map, List.length_singleton]; omega)]
        show some (PyData.tuple _) = some (PyData.tuple ((row ++ [v6]).map .int))
        rw [List.map_append]; rfl
      have hset := gSet_intsT (a := row ++ [v6]) (by rw [List.length_append, List.length_singleton]; omega)
      have hadd2 : gAdd [.tuple ((a.nexts.take n).map eT), .tuple [eT (setI (row ++ [v6]))]] = some (.tuple ((a.nexts.take n ++ [setI (row ++ [v6])]).map eT)) := by
        rw [gAdd_TT (by rw [List.length_map, List.length_singleton, List.length_take]; omega), List.map_append]; rfl
      have hadd3 : gAdd [.tuple ((a.nexts.take n ++ [setI (row ++ [v6])]).map eT), .tuple ((a.nexts.drop (n + 1)).map eT)] = some (eN (bent a n row v6).nexts) := by
        rw [gAdd_TT (by rw [List.length_map, List.length_map, List.length_append, List.length_singleton, List.length_take, List.length_drop]; omega)]
        show some (PyData.tuple _) = some (PyData.tuple ((a.nexts.take n ++ [setI (row ++ [v6])] ++ a.nexts.drop (n + 1)).map eT))
        rw [List.map_append (l₁ := a.nexts.take n ++ [setI (row ++ [v6])])]
      have he0 : gEq [.int v4, .int 0] = some true := by rw [gEq_ii, decide_eq_true h0]
      have hpics : (bent a n row v6).pics = a.pics := rfl
      have heR : eReel (bent a n row v6) = .tuple [eN (bent a n row v6).nexts, eT a.pics] := rfl
      rw [heR]
      clear heR hpics hok hrow hrow6 h6 l5 l6 hp4 hp5 hn1 h0 hscr e1 e2 e3 hal hg hp0 hp1 hp2 hp3
      simp only [s3]
      clear s3
      have hset' : gSet [eT (row ++ [v6])] = some ((setI (row ++ [v6])).map .int) := hset
      clear hset
      have hadd2' : gAdd [.tuple ((a.nexts.take n).map eT), .tuple [.tuple ((setI (row ++ [v6])).map .int)]] = some (.tuple ((a.nexts.take n ++ [setI (row ++ [v6])]).map eT)) := hadd2
      clear hadd2
      generalize (setI (row ++ [v6])).map PyData.int = S1 at *
      generalize eT (row ++ [v6]) = R1 at *
      generalize PyData.tuple ((a.nexts.take n ++ [setI (row ++ [v6])]).map eT) = C2 at *
      generalize PyData.tuple ((a.nexts.take n).map eT) = C1 at *
      generalize PyData.tuple ((a.nexts.drop (n + 1)).map eT) = C3 at *
      generalize eN (bent a n row v6).nexts = NN at *
      walk_at "run"
    · refine ⟨b0, .o (eRow r4), .u, hb0, ?_⟩
      have he0 : gEq [.int v4, .int 0] = some false := by rw [gEq_ii, decide_eq_false h0]
      clear hscr e1 e2 e3 h0
      simp only [s3]
      clear s3
      walk_at "run"
  obtain ⟨b, s1, s5, hb, he⟩ := key
  rw [s_cons he]
  obtain ⟨ρ', hr⟩ := rest_run (s0 := .d scr) (s1 := s1) (s5 := s5) ha hb hg rfl
  rw [hr]
  rfl
end
end PG
namespace K62
open PySem PySem.Spec PyProof.Rows L2 DL DI PG
theorem law_true (ns : List Int) (_ : ns.length ≤ 63) : r_law_k62 [scrD (ns.map .int)] = some (.bool true) := law62 ns
end K62
set_option Elab.async false
set_option linter.all false
set_option maxRecDepth 100000
set_option maxHeartbeats 4000000
namespace K62
open PySem PySem.Spec PyProof.Rows L2 DL DI PG
def topS (i : Nat) : Stmt := PySem.Challenge.pw_dropframes_k62_whole_sames.main.body.getD i (.Pass ⟨0, 0, 0, 0⟩)
abbrev s_is_integer : Stmt := topS 9
abbrev n_is_integer : List Str := ["value", "low", "high"]
theorem c_is_integer : FnScope n_is_integer ["value", "low", "high"] (defScope s_is_integer) := ⟨rfl, rfl, rfl, by decide +kernel, rfl, by decide +kernel, by decide +kernel⟩
abbrev s_is_picture : Stmt := topS 10
abbrev n_is_picture : List Str := ["value"]
theorem c_is_picture : FnScope n_is_picture ["value"] (defScope s_is_picture) := ⟨rfl, rfl, rfl, by decide +kernel, rfl, by decide +kernel, by decide +kernel⟩
abbrev s_is_film : Stmt := topS 11
abbrev n_is_film : List Str := ["value", "picture"]
theorem c_is_film : FnScope n_is_film ["value"] (defScope s_is_film) := ⟨rfl, rfl, rfl, by decide +kernel, rfl, by decide +kernel, by decide +kernel⟩
abbrev s_is_ascending : Stmt := topS 12
abbrev n_is_ascending : List Str := ["value"]
theorem c_is_ascending : FnScope n_is_ascending ["value"] (defScope s_is_ascending) := ⟨rfl, rfl, rfl, by decide +kernel, rfl, by decide +kernel, by decide +kernel⟩
abbrev s_is_next_row : Stmt := topS 13
abbrev n_is_next_row : List Str := ["value", "many", "state"]
theorem c_is_next_row : FnScope n_is_next_row ["value", "many"] (defScope s_is_next_row) := ⟨rfl, rfl, rfl, by decide +kernel, rfl, by decide +kernel, by decide +kernel⟩
abbrev s_are_nexts : Stmt := topS 14
abbrev n_are_nexts : List Str := ["value", "row"]
theorem c_are_nexts : FnScope n_are_nexts ["value"] (defScope s_are_nexts) := ⟨rfl, rfl, rfl, by decide +kernel, rfl, by decide +kernel, by decide +kernel⟩
abbrev s_wrong_part : Stmt := topS 15
abbrev n_wrong_part : List Str := ["value", "nexts", "pictures"]
theorem c_wrong_part : FnScope n_wrong_part ["value"] (defScope s_wrong_part) := ⟨rfl, rfl, rfl, by decide +kernel, rfl, by decide +kernel, by decide +kernel⟩
abbrev s_check_reel : Stmt := topS 16
abbrev n_check_reel : List Str := ["reel", "part"]
theorem c_check_reel : FnScope n_check_reel ["reel"] (defScope s_check_reel) := ⟨rfl, rfl, rfl, by decide +kernel, rfl, by decide +kernel, by decide +kernel⟩
abbrev s_check_gap : Stmt := topS 17
abbrev n_check_gap : List Str := ["gap"]
theorem c_check_gap : FnScope n_check_gap ["gap"] (defScope s_check_gap) := ⟨rfl, rfl, rfl, by decide +kernel, rfl, by decide +kernel, by decide +kernel⟩
abbrev s_check_two : Stmt := topS 18
abbrev n_check_two : List Str := ["one", "other", "gap"]
theorem c_check_two : FnScope n_check_two ["one", "other", "gap"] (defScope s_check_two) := ⟨rfl, rfl, rfl, by decide +kernel, rfl, by decide +kernel, by decide +kernel⟩
abbrev s_leaps : Stmt := topS 20
abbrev n_leaps : List Str := ["reel", "gap", "nexts", "rows", "row"]
theorem c_leaps : FnScope n_leaps ["reel", "gap"] (defScope s_leaps) := ⟨rfl, rfl, rfl, by decide +kernel, rfl, by decide +kernel, by decide +kernel⟩
abbrev s_states_within : Stmt := topS 21
abbrev n_states_within : List Str := ["nexts", "states", "gap", "steps", "found", "_", "state", "after"]
theorem c_states_within : FnScope n_states_within ["nexts", "states", "gap"] (defScope s_states_within) := ⟨rfl, rfl, rfl, by decide +kernel, rfl, by decide +kernel, by decide +kernel⟩
abbrev s_ahead_of_all : Stmt := topS 23
abbrev n_ahead_of_all : List Str := ["reel"]
theorem c_ahead_of_all : FnScope n_ahead_of_all ["reel"] (defScope s_ahead_of_all) := ⟨rfl, rfl, rfl, by decide +kernel, rfl, by decide +kernel, by decide +kernel⟩
abbrev s_states_at_next : Stmt := topS 24
abbrev n_states_at_next : List Str := ["reel", "rows", "states", "picture", "pictures", "state", "after"]
theorem c_states_at_next : FnScope n_states_at_next ["reel", "rows", "states", "picture"] (defScope s_states_at_next) := ⟨rfl, rfl, rfl, by decide +kernel, rfl, by decide +kernel, by decide +kernel⟩
abbrev s_covers : Stmt := topS 26
abbrev n_covers : List Str := ["one", "other", "gap", "states", "twins"]
theorem c_covers : FnScope n_covers ["one", "other", "gap"] (defScope s_covers) := ⟨rfl, rfl, rfl, by decide +kernel, rfl, by decide +kernel, by decide +kernel⟩
abbrev s_are_same : Stmt := topS 27
abbrev n_are_same : List Str := ["one", "other", "gap"]
theorem c_are_same : FnScope n_are_same ["one", "other", "gap"] (defScope s_are_same) := ⟨rfl, rfl, rfl, by decide +kernel, rfl, by decide +kernel, by decide +kernel⟩
abbrev s_parting_film : Stmt := topS 28
abbrev n_parting_film : List Str := ["one", "other", "gap", "found", "states", "twins"]
theorem c_parting_film : FnScope n_parting_film ["one", "other", "gap"] (defScope s_parting_film) := ⟨rfl, rfl, rfl, by decide +kernel, rfl, by decide +kernel, by decide +kernel⟩
abbrev s_least_gap_alike : Stmt := topS 29
abbrev n_least_gap_alike : List Str := ["one", "other", "gap"]
theorem c_least_gap_alike : FnScope n_least_gap_alike ["one", "other"] (defScope s_least_gap_alike) := ⟨rfl, rfl, rfl, by decide +kernel, rfl, by decide +kernel, by decide +kernel⟩
abbrev s_first_films : Stmt := topS 30
abbrev n_first_films : List Str := ["one", "other", "gap", "rows", "other_rows", "pictures", "found", "waiting", "at", "film", "states", "twins", "picture", "after", "twins_after"]
theorem c_first_films : FnScope n_first_films ["one", "other", "gap"] (defScope s_first_films) := ⟨rfl, rfl, rfl, by decide +kernel, rfl, by decide +kernel, by decide +kernel⟩
abbrev s_law_taken : Stmt := topS 32
abbrev n_law_taken : List Str := ["row", "many", "found", "cell"]
theorem c_law_taken : FnScope n_law_taken ["row", "many"] (defScope s_law_taken) := ⟨rfl, rfl, rfl, by decide +kernel, rfl, by decide +kernel, by decide +kernel⟩
abbrev s_law_pick : Stmt := topS 33
abbrev n_law_pick : List Str := ["row", "things"]
theorem c_law_pick : FnScope n_law_pick ["row", "things"] (defScope s_law_pick) := ⟨rfl, rfl, rfl, by decide +kernel, rfl, by decide +kernel, by decide +kernel⟩
abbrev s_law_alike : Stmt := topS 34
abbrev n_law_alike : List Str := ["found", "due", "k", "key"]
theorem c_law_alike : FnScope n_law_alike ["found", "due"] (defScope s_law_alike) := ⟨rfl, rfl, rfl, by decide +kernel, rfl, by decide +kernel, by decide +kernel⟩
abbrev s_law_reel : Stmt := topS 35
abbrev n_law_reel : List Str := ["row", "most", "pictures", "states", "kind", "nexts", "state", "some", "there"]
theorem c_law_reel : FnScope n_law_reel ["row", "most", "pictures"] (defScope s_law_reel) := ⟨rfl, rfl, rfl, by decide +kernel, rfl, by decide +kernel, by decide +kernel⟩
abbrev s_law_gap : Stmt := topS 36
abbrev n_law_gap : List Str := ["row"]
theorem c_law_gap : FnScope n_law_gap ["row"] (defScope s_law_gap) := ⟨rfl, rfl, rfl, by decide +kernel, rfl, by decide +kernel, by decide +kernel⟩
abbrev s_law_beyond : Stmt := topS 37
abbrev n_law_beyond : List Str := ["reel", "states", "found", "state", "there"]
theorem c_law_beyond : FnScope n_law_beyond ["reel", "states"] (defScope s_law_beyond) := ⟨rfl, rfl, rfl, by decide +kernel, rfl, by decide +kernel, by decide +kernel⟩
abbrev s_law_within : Stmt := topS 38
abbrev n_law_within : List Str := ["reel", "here", "gap", "found", "step", "state"]
theorem c_law_within : FnScope n_law_within ["reel", "here", "gap"] (defScope s_law_within) := ⟨rfl, rfl, rfl, by decide +kernel, rfl, by decide +kernel, by decide +kernel⟩
abbrev s_law_may : Stmt := topS 39
abbrev n_law_may : List Str := ["reel", "gap", "here"]
theorem c_law_may : FnScope n_law_may ["reel", "gap", "here"] (defScope s_law_may) := ⟨rfl, rfl, rfl, by decide +kernel, rfl, by decide +kernel, by decide +kernel⟩
abbrev s_law_see : Stmt := topS 40
abbrev n_law_see : List Str := ["reel", "gap", "here", "picture", "state"]
theorem c_law_see : FnScope n_law_see ["reel", "gap", "here", "picture"] (defScope s_law_see) := ⟨rfl, rfl, rfl, by decide +kernel, rfl, by decide +kernel, by decide +kernel⟩
abbrev s_law_stands : Stmt := topS 41
abbrev n_law_stands : List Str := ["reel", "gap", "film", "here", "picture"]
theorem c_law_stands : FnScope n_law_stands ["reel", "gap", "film"] (defScope s_law_stands) := ⟨rfl, rfl, rfl, by decide +kernel, rfl, by decide +kernel, by decide +kernel⟩
abbrev s_law_can : Stmt := topS 42
abbrev n_law_can : List Str := ["reel", "gap", "film"]
theorem c_law_can : FnScope n_law_can ["reel", "gap", "film"] (defScope s_law_can) := ⟨rfl, rfl, rfl, by decide +kernel, rfl, by decide +kernel, by decide +kernel⟩
abbrev s_law_all_films : Stmt := topS 43
abbrev n_law_all_films : List Str := ["pictures", "many", "found", "frame", "longer", "film", "picture"]
theorem c_law_all_films : FnScope n_law_all_films ["pictures", "many"] (defScope s_law_all_films) := ⟨rfl, rfl, rfl, by decide +kernel, rfl, by decide +kernel, by decide +kernel⟩
abbrev s_law_pictures : Stmt := topS 44
abbrev n_law_pictures : List Str := ["one", "other"]
theorem c_law_pictures : FnScope n_law_pictures ["one", "other"] (defScope s_law_pictures) := ⟨rfl, rfl, rfl, by decide +kernel, rfl, by decide +kernel, by decide +kernel⟩
abbrev s_law_is : Stmt := topS 45
abbrev n_law_is : List Str := ["found", "due"]
theorem c_law_is : FnScope n_law_is ["found", "due"] (defScope s_law_is) := ⟨rfl, rfl, rfl, by decide +kernel, rfl, by decide +kernel, by decide +kernel⟩
abbrev s_law_parting : Stmt := topS 46
abbrev n_law_parting : List Str := ["one", "other", "gap", "is_half", "layer", "seen", "pictures", "later", "film", "here", "there", "picture", "left", "right"]
theorem c_law_parting : FnScope n_law_parting ["one", "other", "gap", "is_half"] (defScope s_law_parting) := ⟨rfl, rfl, rfl, by decide +kernel, rfl, by decide +kernel, by decide +kernel⟩
abbrev s_law : Stmt := topS 47
abbrev n_law : List Str := ["script", "row", "one", "gap", "other", "spot", "due", "many", "films", "apart", "good", "number", "film"]
theorem c_law : FnScope n_law ["script"] (defScope s_law) := ⟨rfl, rfl, rfl, by decide +kernel, rfl, by decide +kernel, by decide +kernel⟩
section
variable {P : Program} {w : World} {K : PySem.W.Frag} {mg : Str → Option Value} {base : Heap} {f : Addr} {fd : FuncData}
theorem ok_is_integer (F : Fun K "is_integer" "is_integer" s_is_integer f fd)
    (y_isinstance : mg "isinstance" = none)
    (y_int : mg "int" = none)
    (y_bool : mg "bool" = none) : FnOk P w K mg base CX0 1 f fd ["value", "low", "high"] (sp_is_integer K) :=
  fn_i F c_is_integer (by decide) fun cdv A outer s H E hr => by
  have nd := c_is_integer.nd
  have hu := hr.units
  exact (css_cons (cs_ret (ce_and (ce_isi (ce_var 0) y_isinstance y_int b_int) (ce_and (ce_not (ce_isi (ce_var 0) y_isinstance y_bool b_bool)) (ce_one (ce_ch br_gLe br_gLe op_leq (ce_var 1) (ce_var 0) (ce_var 2))))))
  css_nil)
theorem ok_is_picture (F : Fun K "is_picture" "is_picture" s_is_picture f fd)
    {t_LAST_PICTURE : Tok} (w_LAST_PICTURE : mg "LAST_PICTURE" = some (.int 99 t_LAST_PICTURE))
    {f_is_integer : Addr} {d_is_integer : FuncData} (G_is_integer : Fn P w K mg base 1 "is_integer" ["value", "low", "high"] (sp_is_integer K) f_is_integer d_is_integer) : FnOk P w K mg base CX0 2 f fd ["value"] (sp_is_picture K) :=
  fn_i F c_is_picture (by decide) fun cdv A outer s H E hr => by
  have nd := c_is_picture.nd
  have hu := hr.units
  exact (css_cons (cs_ret (ce_call G_is_integer.g (hr.mono (by decide)) G_is_integer.m G_is_integer.k G_is_integer.b (ca_cons (ce_var 0) (ca_cons ce_int (ca_cons (ce_glob w_LAST_PICTURE) ca_nil))) fun _ _ _ h => ev_len _ _ _ _ h))
  css_nil)
theorem ok_is_film (F : Fun K "is_film" "is_film" s_is_film f fd)
    (y_isinstance : mg "isinstance" = none)
    (y_tuple : mg "tuple" = none)
    (y_len : mg "len" = none)
    (y_all : mg "all" = none)
    {t_MOST_FRAMES : Tok} (w_MOST_FRAMES : mg "MOST_FRAMES" = some (.int 1000 t_MOST_FRAMES))
    {f_is_picture : Addr} {d_is_picture : FuncData} (G_is_picture : Fn P w K mg base 2 "is_picture" ["value"] (sp_is_picture K) f_is_picture d_is_picture) : FnOk P w K mg base CX0 3 f fd ["value"] (sp_is_film K) :=
  fn_i F c_is_film (by decide) fun cdv A outer s H E hr => by
  have nd := c_is_film.nd
  have hu := hr.units
  exact (css_cons (cs_if (cw_t (cw_or (ct_not (ct_val (ce_isi (ce_var 0) y_isinstance y_tuple b_tuple))) (cw_or1 (ct_cmp br_gGt (ce_callB cr_gLen y_len b_len (ca_cons (ce_var 0) ca_nil)) (ce_glob w_MOST_FRAMES))))) (css_cons (cs_ret ce_bl)
    css_nil) css_nil)
  (css_cons (cs_ret (ce_callB (cr_gAll rfl) y_all b_all (ca_cons (ce_o (co_lc (own := [("picture", 1)]) rfl nd (ci_seq (ce_var 0)) (blkOk_by (N := n_is_film) (sc := defScope s_is_film) (by decide +kernel)) rfl (fun _ _ _ _ _ => (cg_n 1 nd)) (fun _ _ _ _ _ => cts_nil) (fun _ _ _ _ _ => (ce_call G_is_picture.g (hr.mono (by decide)) G_is_picture.m G_is_picture.k G_is_picture.b (ca_cons (ce_var 1) ca_nil) fun _ _ _ h => ev_len _ _ _ _ h)))) ca_nil)))
  css_nil))
theorem ok_is_ascending (F : Fun K "is_ascending" "is_ascending" s_is_ascending f fd)
    (y_list : mg "list" = none)
    (y_sorted : mg "sorted" = none)
    (y_set : mg "set" = none) : FnOk P w K mg base CX0 1 f fd ["value"] (sp_is_ascending K) :=
  fn_i F c_is_ascending (by decide) fun cdv A outer s H E hr => by
  have nd := c_is_ascending.nd
  have hu := hr.units
  exact (css_cons (cs_ret (ce_cmp (br_gEq hu) (ce_o (co_callT cro_gList y_list b_list (ca_cons (ce_var 0) ca_nil))) (ce_o (co_sortset rfl y_sorted y_set (ce_var 0)))))
  css_nil)
theorem ok_is_next_row (F : Fun K "is_next_row" "is_next_row" s_is_next_row f fd)
    (y_isinstance : mg "isinstance" = none)
    (y_tuple : mg "tuple" = none)
    (y_len : mg "len" = none)
    (y_all : mg "all" = none)
    {f_is_integer : Addr} {d_is_integer : FuncData} (G_is_integer : Fn P w K mg base 1 "is_integer" ["value", "low", "high"] (sp_is_integer K) f_is_integer d_is_integer)
    {f_is_ascending : Addr} {d_is_ascending : FuncData} (G_is_ascending : Fn P w K mg base 1 "is_ascending" ["value"] (sp_is_ascending K) f_is_ascending d_is_ascending) : FnOk P w K mg base CX0 2 f fd ["value", "many"] (sp_is_next_row K) :=
  fn_i F c_is_next_row (by decide) fun cdv A outer s H E hr => by
  have nd := c_is_next_row.nd
  have hu := hr.units
  exact (css_cons (cs_if (cw_t (cw_or (ct_not (ct_val (ce_isi (ce_var 0) y_isinstance y_tuple b_tuple))) (cw_or1 (ct_cmp (br_gEq hu) (ce_callB cr_gLen y_len b_len (ca_cons (ce_var 0) ca_nil)) ce_int)))) (css_cons (cs_ret ce_bl)
    css_nil) css_nil)
  (css_cons (cs_ret (ce_and (ce_callB (cr_gAll rfl) y_all b_all (ca_cons (ce_o (co_lc (own := [("state", 2)]) rfl nd (ci_seq (ce_var 0)) (blkOk_by (N := n_is_next_row) (sc := defScope s_is_next_row) (by decide +kernel)) rfl (fun _ _ _ _ _ => (cg_n 2 nd)) (fun _ _ _ _ _ => cts_nil) (fun _ _ _ _ _ => (ce_call G_is_integer.g (hr.mono (by decide)) G_is_integer.m G_is_integer.k G_is_integer.b (ca_cons (ce_var 2) (ca_cons ce_int (ca_cons (ce_bin br_gSub (ce_var 1) ce_int) ca_nil))) fun _ _ _ h => ev_len _ _ _ _ h)))) ca_nil)) (ce_one (ce_call G_is_ascending.g (hr.mono (by decide)) G_is_ascending.m G_is_ascending.k G_is_ascending.b (ca_cons (ce_var 0) ca_nil) fun _ _ _ h => ev_len _ _ _ _ h))))
  css_nil))
theorem ok_are_nexts (F : Fun K "are_nexts" "are_nexts" s_are_nexts f fd)
    (y_isinstance : mg "isinstance" = none)
    (y_tuple : mg "tuple" = none)
    (y_len : mg "len" = none)
    (y_all : mg "all" = none)
    {t_MOST_STATES : Tok} (w_MOST_STATES : mg "MOST_STATES" = some (.int 6 t_MOST_STATES))
    {f_is_next_row : Addr} {d_is_next_row : FuncData} (G_is_next_row : Fn P w K mg base 2 "is_next_row" ["value", "many"] (sp_is_next_row K) f_is_next_row d_is_next_row) : FnOk P w K mg base CX0 3 f fd ["value"] (sp_are_nexts K) :=
  fn_i F c_are_nexts (by decide) fun cdv A outer s H E hr => by
  have nd := c_are_nexts.nd
  have hu := hr.units
  exact (css_cons (cs_if (cw_t (cw_or (ct_not (ct_val (ce_isi (ce_var 0) y_isinstance y_tuple b_tuple))) (cw_or1 (ct_not (ct_ch br_gLe br_gLe op_leq ce_int (ce_callB cr_gLen y_len b_len (ca_cons (ce_var 0) ca_nil)) (ce_glob w_MOST_STATES)))))) (css_cons (cs_ret ce_bl)
    css_nil) css_nil)
  (css_cons (cs_ret (ce_callB (cr_gAll rfl) y_all b_all (ca_cons (ce_o (co_lc (own := [("row", 1)]) rfl nd (ci_seq (ce_var 0)) (blkOk_by (N := n_are_nexts) (sc := defScope s_are_nexts) (by decide +kernel)) rfl (fun _ _ _ _ _ => (cg_n 1 nd)) (fun _ _ _ _ _ => cts_nil) (fun _ _ _ _ _ => (ce_call G_is_next_row.g (hr.mono (by decide)) G_is_next_row.m G_is_next_row.k G_is_next_row.b (ca_cons (ce_var 1) (ca_cons (ce_callB cr_gLen y_len b_len (ca_cons (ce_var 0) ca_nil)) ca_nil)) fun _ _ _ h => ev_len _ _ _ _ h)))) ca_nil)))
  css_nil))
theorem ok_wrong_part (F : Fun K "wrong_part" "wrong_part" s_wrong_part f fd)
    (y_isinstance : mg "isinstance" = none)
    (y_tuple : mg "tuple" = none)
    (y_len : mg "len" = none)
    {f_are_nexts : Addr} {d_are_nexts : FuncData} (G_are_nexts : Fn P w K mg base 3 "are_nexts" ["value"] (sp_are_nexts K) f_are_nexts d_are_nexts)
    {f_is_film : Addr} {d_is_film : FuncData} (G_is_film : Fn P w K mg base 3 "is_film" ["value"] (sp_is_film K) f_is_film d_is_film) : FnOk P w K mg base CX0 4 f fd ["value"] (sp_wrong_part K) :=
  fn_i F c_wrong_part (by decide) fun cdv A outer s H E hr => by
  have nd := c_wrong_part.nd
  have hu := hr.units
  exact (css_cons (cs_if (cw_t (cw_or (ct_not (ct_val (ce_isi (ce_var 0) y_isinstance y_tuple b_tuple))) (cw_or1 (ct_cmp (br_gNe hu) (ce_callB cr_gLen y_len b_len (ca_cons (ce_var 0) ca_nil)) ce_int)))) (css_cons (cs_ret ce_str)
    css_nil) css_nil)
  (css_cons (cs_tup (ce_var 0) (cg_t rfl (cgs_cons (cg_n 1 nd) (cgs_cons (cg_n 2 nd) cgs_nil))))
  (css_cons (cs_if (ct_not (ct_val (ce_call G_are_nexts.g (hr.mono (by decide)) G_are_nexts.m G_are_nexts.k G_are_nexts.b (ca_cons (ce_var 1) ca_nil) fun _ _ _ h => ev_len _ _ _ _ h))) (css_cons (cs_ret ce_str)
    css_nil) css_nil)
  (css_cons (cs_if (cw_t (cw_or (ct_not (ct_val (ce_call G_is_film.g (hr.mono (by decide)) G_is_film.m G_is_film.k G_is_film.b (ca_cons (ce_var 2) ca_nil) fun _ _ _ h => ev_len _ _ _ _ h))) (cw_or1 (ct_cmp (br_gNe hu) (ce_callB cr_gLen y_len b_len (ca_cons (ce_var 2) ca_nil)) (ce_callB cr_gLen y_len b_len (ca_cons (ce_var 1) ca_nil)))))) (css_cons (cs_ret ce_str)
    css_nil) css_nil)
  (css_cons (cs_ret ce_none)
  css_nil)))))
theorem ok_check_reel (F : Fun K "check_reel" "check_reel" s_check_reel f fd)
    {f_wrong_part : Addr} {d_wrong_part : FuncData} (G_wrong_part : Fn P w K mg base 4 "wrong_part" ["value"] (sp_wrong_part K) f_wrong_part d_wrong_part) : FnOk P w K mg base CX0 5 f fd ["reel"] (sp_check_reel K) :=
  fn_i F c_check_reel (by decide) fun cdv A outer s H E hr => by
  have nd := c_check_reel.nd
  have hu := hr.units
  exact (css_cons (cs_set 1 nd (ce_call G_wrong_part.g (hr.mono (by decide)) G_wrong_part.m G_wrong_part.k G_wrong_part.b (ca_cons (ce_var 0) ca_nil) fun _ _ _ h => ev_len _ _ _ _ h))
  (css_cons (cs_if (ct_cmp br_gNis (ce_var 1) ce_none) (css_cons cs_stuck
    css_nil) css_nil)
  css_nil))
theorem ok_check_gap (F : Fun K "check_gap" "check_gap" s_check_gap f fd)
    {t_MOST_GAP : Tok} (w_MOST_GAP : mg "MOST_GAP" = some (.int 20 t_MOST_GAP))
    {f_is_integer : Addr} {d_is_integer : FuncData} (G_is_integer : Fn P w K mg base 1 "is_integer" ["value", "low", "high"] (sp_is_integer K) f_is_integer d_is_integer) : FnOk P w K mg base CX0 2 f fd ["gap"] (sp_check_gap K) :=
  fn_i F c_check_gap (by decide) fun cdv A outer s H E hr => by
  have nd := c_check_gap.nd
  have hu := hr.units
  exact (css_cons (cs_if (cw_t (cw_and (ct_cmp br_gNis (ce_var 0) ce_none) (cw_and1 (ct_not (ct_val (ce_call G_is_integer.g (hr.mono (by decide)) G_is_integer.m G_is_integer.k G_is_integer.b (ca_cons (ce_var 0) (ca_cons ce_int (ca_cons (ce_glob w_MOST_GAP) ca_nil))) fun _ _ _ h => ev_len _ _ _ _ h)))))) (css_cons cs_stuck
    css_nil) css_nil)
  css_nil)
theorem ok_check_two (F : Fun K "check_two" "check_two" s_check_two f fd)
    {f_check_reel : Addr} {d_check_reel : FuncData} (G_check_reel : Fn P w K mg base 5 "check_reel" ["reel"] (sp_check_reel K) f_check_reel d_check_reel)
    {f_check_gap : Addr} {d_check_gap : FuncData} (G_check_gap : Fn P w K mg base 2 "check_gap" ["gap"] (sp_check_gap K) f_check_gap d_check_gap) : FnOk P w K mg base CX0 6 f fd ["one", "other", "gap"] (sp_check_two K) :=
  fn_i F c_check_two (by decide) fun cdv A outer s H E hr => by
  have nd := c_check_two.nd
  have hu := hr.units
  exact (css_cons (cs_ex (ce_call G_check_reel.g (hr.mono (by decide)) G_check_reel.m G_check_reel.k G_check_reel.b (ca_cons (ce_var 0) ca_nil) fun _ _ _ h => ev_len _ _ _ _ h))
  (css_cons (cs_ex (ce_call G_check_reel.g (hr.mono (by decide)) G_check_reel.m G_check_reel.k G_check_reel.b (ca_cons (ce_var 1) ca_nil) fun _ _ _ h => ev_len _ _ _ _ h))
  (css_cons (cs_ex (ce_call G_check_gap.g (hr.mono (by decide)) G_check_gap.m G_check_gap.k G_check_gap.b (ca_cons (ce_var 2) ca_nil) fun _ _ _ h => ev_len _ _ _ _ h))
  css_nil)))
theorem ok_states_within (F : Fun K "states_within" "states_within" s_states_within f fd)
    (y_len : mg "len" = none)
    (y_sorted : mg "sorted" = none)
    (y_range : mg "range" = none)
    (y_set : mg "set" = none) : FnOk P w K mg base CX0 1 f fd ["nexts", "states", "gap"] (sp_states_within K) :=
  fn_i F c_states_within (by decide) fun cdv A outer s H E hr => by
  have nd := c_states_within.nd
  have hu := hr.units
  exact (css_cons (cs_set 3 nd (ce_if (ct_cmp br_gIs (ce_var 2) ce_none) (ce_callB cr_gLen y_len b_len (ca_cons (ce_var 0) ca_nil)) (ce_var 2)))
  (css_cons (cs_set 4 nd (ce_o (co_callB cro_gSort y_sorted b_sorted (ca_cons (ce_var 1) ca_nil))))
  (css_cons (cs_for (vs := [5]) rfl (ci_rng1 y_range (ce_var 3)) (cg_n 5 nd) (css_cons (cs_set 4 nd (ce_o (co_sortset rfl y_sorted y_set (ce_bin br_gAdd (ce_var 4) (ce_o (co_lc2 (own := [("state", 6), ("after", 7)]) rfl nd (ci_seq (ce_var 4)) (blkOk_by (N := n_states_within) (sc := defScope s_states_within) (by decide +kernel)) rfl (fun _ _ _ _ _ => (cg_n 6 nd)) (fun _ _ _ _ _ => cts_nil) (fun _ _ _ _ _ => (ci_seq (ce_ix (ce_var 0) (ce_var 6)))) (fun _ _ _ _ _ => (cg_n 7 nd)) (fun _ _ _ _ _ => cts_nil) (fun _ _ _ _ _ => (ce_var 7))))))))
    css_nil))
  (css_cons (cs_ret (ce_var 4))
  css_nil))))
theorem ok_leaps (F : Fun K "leaps" "leaps" s_leaps f fd)
    {f_states_within : Addr} {d_states_within : FuncData} (G_states_within : Fn P w K mg base 1 "states_within" ["nexts", "states", "gap"] (sp_states_within K) f_states_within d_states_within) : FnOk P w K mg base CX0 2 f fd ["reel", "gap"] (sp_leaps K) :=
  fn_i F c_leaps (by decide) fun cdv A outer s H E hr => by
  have nd := c_leaps.nd
  have hu := hr.units
  exact (css_cons (cs_set 2 nd (ce_ix (ce_var 0) ce_int))
  (css_cons (cs_frz 3 (cs_setLc 3 (own := [("row", 4)]) rfl nd (ci_seq (ce_var 2)) (blkOk_by (N := n_leaps) (sc := defScope s_leaps) (by decide +kernel)) rfl (fun _ _ _ _ _ => (cg_n 4 nd)) (fun _ _ _ _ _ => cts_nil) (fun _ _ _ _ _ => (ce_call G_states_within.g (hr.mono (by decide)) G_states_within.m G_states_within.k G_states_within.b (ca_cons (ce_var 2) (ca_cons (ce_var 4) (ca_cons (ce_var 1) ca_nil))) fun _ _ _ h => ev_len _ _ _ _ h))))
  (css_cons (cs_ret (ce_bin br_gAdd (ce_var 3) (ce_o (co_lst (ca_cons (ce_call G_states_within.g (hr.mono (by decide)) G_states_within.m G_states_within.k G_states_within.b (ca_cons (ce_var 2) (ca_cons (ce_o (co_lst (ca_cons ce_int ca_nil))) (ca_cons (ce_var 1) ca_nil))) fun _ _ _ h => ev_len _ _ _ _ h) ca_nil)))))
  css_nil)))
theorem ok_ahead_of_all (F : Fun K "ahead_of_all" "ahead_of_all" s_ahead_of_all f fd)
    (y_len : mg "len" = none) : FnOk P w K mg base CX0 1 f fd ["reel"] (sp_ahead_of_all K) :=
  fn_i F c_ahead_of_all (by decide) fun cdv A outer s H E hr => by
  have nd := c_ahead_of_all.nd
  have hu := hr.units
  exact (css_cons (cs_ret (ce_o (co_lst (ca_cons (ce_callB cr_gLen y_len b_len (ca_cons (ce_ix (ce_var 0) ce_int) ca_nil)) ca_nil))))
  css_nil)
theorem ok_states_at_next (F : Fun K "states_at_next" "states_at_next" s_states_at_next f fd)
    (y_sorted : mg "sorted" = none) : FnOk P w K mg base CX0 1 f fd ["reel", "rows", "states", "picture"] (sp_states_at_next K) :=
  fn_i F c_states_at_next (by decide) fun cdv A outer s H E hr => by
  have nd := c_states_at_next.nd
  have hu := hr.units
  exact (css_cons (cs_set 4 nd (ce_ix (ce_var 0) ce_int))
  (css_cons (cs_ret (ce_o (co_sortsc2 (own := [("state", 5), ("after", 6)]) rfl nd y_sorted (ci_seq (ce_var 2)) (blkOk_by (N := n_states_at_next) (sc := defScope s_states_at_next) (by decide +kernel)) rfl (fun _ _ _ _ _ => (cg_n 5 nd)) (fun _ _ _ _ _ => cts_nil) (fun _ _ _ _ _ => (ci_seq (ce_ix (ce_var 1) (ce_var 5)))) (fun _ _ _ _ _ => (cg_n 6 nd)) (fun _ _ _ _ _ => (cts_one (ct_cmp (br_gEq hu) (ce_ix (ce_var 4) (ce_var 6)) (ce_var 3)))) (fun _ _ _ _ _ => (ce_var 6)))))
  css_nil))
theorem ok_first_films (F : Fun K "first_films" "first_films" s_first_films f fd)
    (y_sorted : mg "sorted" = none)
    (y_set : mg "set" = none)
    (y_tuple : mg "tuple" = none)
    (y_len : mg "len" = none)
    {f_leaps : Addr} {d_leaps : FuncData} (G_leaps : Fn P w K mg base 2 "leaps" ["reel", "gap"] (sp_leaps K) f_leaps d_leaps)
    {f_ahead_of_all : Addr} {d_ahead_of_all : FuncData} (G_ahead_of_all : Fn P w K mg base 1 "ahead_of_all" ["reel"] (sp_ahead_of_all K) f_ahead_of_all d_ahead_of_all)
    {f_states_at_next : Addr} {d_states_at_next : FuncData} (G_states_at_next : Fn P w K mg base 1 "states_at_next" ["reel", "rows", "states", "picture"] (sp_states_at_next K) f_states_at_next d_states_at_next) : FnOk P w K mg base CX0 3 f fd ["one", "other", "gap"] (sp_first_films K) :=
  fn_i F c_first_films (by decide) fun cdv A outer s H E hr => by
  have nd := c_first_films.nd
  have hu := hr.units
  exact (css_cons (cs_par 3 4 rfl nd (ce_call G_leaps.g (hr.mono (by decide)) G_leaps.m G_leaps.k G_leaps.b (ca_cons (ce_var 0) (ca_cons (ce_var 2) ca_nil)) fun _ _ _ h => ev_len _ _ _ _ h) (ce_call G_leaps.g (hr.mono (by decide)) G_leaps.m G_leaps.k G_leaps.b (ca_cons (ce_var 1) (ca_cons (ce_var 2) ca_nil)) fun _ _ _ h => ev_len _ _ _ _ h))
  (css_cons (cs_set 5 nd (ce_o (co_sortset rfl y_sorted y_set (ce_bin br_gAdd (ce_ix (ce_var 0) ce_int) (ce_ix (ce_var 1) ce_int)))))
  (css_cons (cs_dictN 6 nd)
  (css_cons (cs_setO 7 nd (co_lst (ca_cons (ce_tup (ca_cons (ce_tup ca_nil) (ca_cons (ce_callT cr_gTuple y_tuple b_tuple (ca_cons (ce_call G_ahead_of_all.g (hr.mono (by decide)) G_ahead_of_all.m G_ahead_of_all.k G_ahead_of_all.b (ca_cons (ce_var 0) ca_nil) fun _ _ _ h => ev_len _ _ _ _ h) ca_nil)) (ca_cons (ce_callT cr_gTuple y_tuple b_tuple (ca_cons (ce_call G_ahead_of_all.g (hr.mono (by decide)) G_ahead_of_all.m G_ahead_of_all.k G_ahead_of_all.b (ca_cons (ce_var 1) ca_nil) fun _ _ _ h => ev_len _ _ _ _ h) ca_nil)) ca_nil)))) ca_nil)))
  (css_cons (cs_set 8 nd ce_int)
  (css_cons (cs_while (n := 100000) (vs := [9, 10, 11, 12, 13, 14]) (ct_cmp br_gLt (ce_var 8) (ce_lenO 7 y_len)) (css_cons (cs_tup (ce_ixO 7 (ce_var 8)) (cg_t rfl (cgs_cons (cg_n 9 nd) (cgs_cons (cg_n 10 nd) (cgs_cons (cg_n 11 nd) cgs_nil)))))
    (css_cons (cs_iadd 8 nd ce_int)
    (css_cons (cs_if (ct_InN 6 hu (ce_tup (ca_cons (ce_var 10) (ca_cons (ce_var 11) ca_nil)))) (css_cons cs_cnt
      css_nil) css_nil)
    (css_cons (cs_putN 6 hu (ce_var 9) (ce_tup (ca_cons (ce_var 10) (ca_cons (ce_var 11) ca_nil))))
    (css_cons (cs_if (cw_t (cw_and (ct_cmp br_gGt (ce_callB cr_gLen y_len b_len (ca_cons (ce_var 10) ca_nil)) ce_int) (cw_and1 (ct_cmp br_gGt (ce_callB cr_gLen y_len b_len (ca_cons (ce_var 11) ca_nil)) ce_int)))) (css_cons (cs_for (vs := [12, 13, 14]) rfl (ci_seq (ce_var 5)) (cg_n 12 nd) (css_cons (cs_set 13 nd (ce_callT cr_gTuple y_tuple b_tuple (ca_cons (ce_call G_states_at_next.g (hr.mono (by decide)) G_states_at_next.m G_states_at_next.k G_states_at_next.b (ca_cons (ce_var 0) (ca_cons (ce_var 3) (ca_cons (ce_var 10) (ca_cons (ce_var 12) ca_nil)))) fun _ _ _ h => ev_len _ _ _ _ h) ca_nil)))
        (css_cons (cs_set 14 nd (ce_callT cr_gTuple y_tuple b_tuple (ca_cons (ce_call G_states_at_next.g (hr.mono (by decide)) G_states_at_next.m G_states_at_next.k G_states_at_next.b (ca_cons (ce_var 1) (ca_cons (ce_var 4) (ca_cons (ce_var 11) (ca_cons (ce_var 12) ca_nil)))) fun _ _ _ h => ev_len _ _ _ _ h) ca_nil)))
        (css_cons (cs_app 7 (ce_tup (ca_cons (ce_bin br_gAdd (ce_var 9) (ce_tup (ca_cons (ce_var 12) ca_nil))) (ca_cons (ce_var 13) (ca_cons (ce_var 14) ca_nil)))))
        css_nil))))
      css_nil) css_nil)
    css_nil))))))
  (css_cons (cs_ret (ce_var 6))
  css_nil)))))))
theorem ok_covers (F : Fun K "covers" "covers" s_covers f fd)
    (y_len : mg "len" = none)
    (y_all : mg "all" = none)
    {f_check_two : Addr} {d_check_two : FuncData} (G_check_two : Fn P w K mg base 6 "check_two" ["one", "other", "gap"] (sp_check_two K) f_check_two d_check_two)
    {f_first_films : Addr} {d_first_films : FuncData} (G_first_films : Fn P w K mg base 3 "first_films" ["one", "other", "gap"] (sp_first_films K) f_first_films d_first_films) : FnOk P w K mg base CX0 7 f fd ["one", "other", "gap"] (sp_covers K) :=
  fn_i F c_covers (by decide) fun cdv A outer s H E hr => by
  have nd := c_covers.nd
  have hu := hr.units
  exact (css_cons (cs_ex (ce_call G_check_two.g (hr.mono (by decide)) G_check_two.m G_check_two.k G_check_two.b (ca_cons (ce_var 0) (ca_cons (ce_var 1) (ca_cons (ce_var 2) ca_nil))) fun _ _ _ h => ev_len _ _ _ _ h))
  (css_cons (cs_ret (ce_callB (cr_gAll rfl) y_all b_all (ca_cons (ce_o (co_lc (own := [("states", 3), ("twins", 4)]) rfl nd (ci_keysDN (ce_call G_first_films.g (hr.mono (by decide)) G_first_films.m G_first_films.k G_first_films.b (ca_cons (ce_var 0) (ca_cons (ce_var 1) (ca_cons (ce_var 2) ca_nil))) fun _ _ _ h => ev_len _ _ _ _ h)) (blkOk_by (N := n_covers) (sc := defScope s_covers) (by decide +kernel)) rfl (fun _ _ _ _ _ => (cg_t rfl (cgs_cons (cg_n 3 nd) (cgs_cons (cg_n 4 nd) cgs_nil)))) (fun _ _ _ _ _ => cts_nil) (fun _ _ _ _ _ => (ce_or (ce_cmp br_gGt (ce_callB cr_gLen y_len b_len (ca_cons (ce_var 3) ca_nil)) ce_int) (ce_one (ce_cmp (br_gEq hu) (ce_callB cr_gLen y_len b_len (ca_cons (ce_var 4) ca_nil)) ce_int)))))) ca_nil)))
  css_nil))
theorem ok_parting_film (F : Fun K "parting_film" "parting_film" s_parting_film f fd)
    (y_len : mg "len" = none)
    {f_check_two : Addr} {d_check_two : FuncData} (G_check_two : Fn P w K mg base 6 "check_two" ["one", "other", "gap"] (sp_check_two K) f_check_two d_check_two)
    {f_first_films : Addr} {d_first_films : FuncData} (G_first_films : Fn P w K mg base 3 "first_films" ["one", "other", "gap"] (sp_first_films K) f_first_films d_first_films) : FnOk P w K mg base CX0 7 f fd ["one", "other", "gap"] (sp_parting_film K) :=
  fn_i F c_parting_film (by decide) fun cdv A outer s H E hr => by
  have nd := c_parting_film.nd
  have hu := hr.units
  exact (css_cons (cs_ex (ce_call G_check_two.g (hr.mono (by decide)) G_check_two.m G_check_two.k G_check_two.b (ca_cons (ce_var 0) (ca_cons (ce_var 1) (ca_cons (ce_var 2) ca_nil))) fun _ _ _ h => ev_len _ _ _ _ h))
  (css_cons (cs_set 3 nd (ce_call G_first_films.g (hr.mono (by decide)) G_first_films.m G_first_films.k G_first_films.b (ca_cons (ce_var 0) (ca_cons (ce_var 1) (ca_cons (ce_var 2) ca_nil))) fun _ _ _ h => ev_len _ _ _ _ h))
  (css_cons (cs_for (vs := [4, 5]) rfl (ci_keysDN (ce_var 3)) (cg_t rfl (cgs_cons (cg_n 4 nd) (cgs_cons (cg_n 5 nd) cgs_nil))) (css_cons (cs_if (ct_cmp (br_gNe hu) (ce_cmp (br_gEq hu) (ce_callB cr_gLen y_len b_len (ca_cons (ce_var 4) ca_nil)) ce_int) (ce_cmp (br_gEq hu) (ce_callB cr_gLen y_len b_len (ca_cons (ce_var 5) ca_nil)) ce_int)) (css_cons (cs_ret (ce_ixDN hu (ce_var 3) (ce_tup (ca_cons (ce_var 4) (ca_cons (ce_var 5) ca_nil)))))
      css_nil) css_nil)
    css_nil))
  (css_cons (cs_ret ce_none)
  css_nil))))
theorem ok_are_same (F : Fun K "are_same" "are_same" s_are_same f fd)
    {f_parting_film : Addr} {d_parting_film : FuncData} (G_parting_film : Fn P w K mg base 7 "parting_film" ["one", "other", "gap"] (sp_parting_film K) f_parting_film d_parting_film) : FnOk P w K mg base CX0 8 f fd ["one", "other", "gap"] (sp_are_same K) :=
  fn_i F c_are_same (by decide) fun cdv A outer s H E hr => by
  have nd := c_are_same.nd
  have hu := hr.units
  exact (css_cons (cs_ret (ce_cmp br_gIs (ce_call G_parting_film.g (hr.mono (by decide)) G_parting_film.m G_parting_film.k G_parting_film.b (ca_cons (ce_var 0) (ca_cons (ce_var 1) (ca_cons (ce_var 2) ca_nil))) fun _ _ _ h => ev_len _ _ _ _ h) ce_none))
  css_nil)
theorem ok_least_gap_alike (F : Fun K "least_gap_alike" "least_gap_alike" s_least_gap_alike f fd)
    {f_check_reel : Addr} {d_check_reel : FuncData} (G_check_reel : Fn P w K mg base 5 "check_reel" ["reel"] (sp_check_reel K) f_check_reel d_check_reel)
    {f_are_same : Addr} {d_are_same : FuncData} (G_are_same : Fn P w K mg base 8 "are_same" ["one", "other", "gap"] (sp_are_same K) f_are_same d_are_same) : FnOk P w K mg base CX0 9 f fd ["one", "other"] (sp_least_gap_alike K) :=
  fn_i F c_least_gap_alike (by decide) fun cdv A outer s H E hr => by
  have nd := c_least_gap_alike.nd
  have hu := hr.units
  exact (css_cons (cs_ex (ce_call G_check_reel.g (hr.mono (by decide)) G_check_reel.m G_check_reel.k G_check_reel.b (ca_cons (ce_var 0) ca_nil) fun _ _ _ h => ev_len _ _ _ _ h))
  (css_cons (cs_ex (ce_call G_check_reel.g (hr.mono (by decide)) G_check_reel.m G_check_reel.k G_check_reel.b (ca_cons (ce_var 1) ca_nil) fun _ _ _ h => ev_len _ _ _ _ h))
  (css_cons (cs_if (ct_not (ct_val (ce_call G_are_same.g (hr.mono (by decide)) G_are_same.m G_are_same.k G_are_same.b (ca_cons (ce_var 0) (ca_cons (ce_var 1) (ca_cons ce_none ca_nil))) fun _ _ _ h => ev_len _ _ _ _ h))) (css_cons (cs_ret ce_none)
    css_nil) css_nil)
  (css_cons (cs_set 2 nd ce_int)
  (css_cons (cs_while (n := 100000) (vs := []) (ct_not (ct_val (ce_call G_are_same.g (hr.mono (by decide)) G_are_same.m G_are_same.k G_are_same.b (ca_cons (ce_var 0) (ca_cons (ce_var 1) (ca_cons (ce_var 2) ca_nil))) fun _ _ _ h => ev_len _ _ _ _ h))) (css_cons (cs_iadd 2 nd ce_int)
    css_nil))
  (css_cons (cs_ret (ce_var 2))
  css_nil))))))
theorem ok_law_taken (F : Fun K "_law_taken" "_law_taken" s_law_taken f fd)
    (y_int : mg "int" = none)
    (y_len : mg "len" = none) : FnOk P w K mg base CX0 1 f fd ["row", "many"] (sp_law_taken K) :=
  fn_iB F c_law_taken (by decide) fun cdv A outer s H E hr => by
  have nd := c_law_taken.nd
  have hu := hr.units
  exact (css_cons (cs_if (ct_cmp br_gGt (ce_ixO 0 ce_int) ce_int) (css_cons (cs_set 2 nd (ce_bin br_gMod (ce_callT cr_gInt y_int b_int (ca_cons (ce_ixO 0 ce_int) ca_nil)) (ce_var 1)))
    (css_cons (cs_store 0 (ce_bin br_gDiv (ce_ixO 0 ce_int) (ce_var 1)) ce_int)
    (css_cons (cs_ret (ce_var 2))
    css_nil))) css_nil)
  (css_cons (cs_store 0 (ce_bin br_gAdd (ce_ixO 0 ce_int) ce_int) ce_int)
  (css_cons (cs_if (ct_cmp br_gGt (ce_ixO 0 ce_int) (ce_callB cr_gLen y_len b_len (ca_cons (ce_ixO 0 ce_int) ca_nil))) (css_cons (cs_store 0 (ce_bin br_gMod (ce_callT cr_gInt y_int b_int (ca_cons (ce_bin br_gAdd (ce_bin br_gMul (ce_ixO 0 ce_int) ce_int) ce_int) ca_nil)) ce_int) ce_int)
    (css_cons (cs_ret (ce_bin br_gMod (ce_callT cr_gInt y_int b_int (ca_cons (ce_bin br_gDiv (ce_ixO 0 ce_int) ce_int) ca_nil)) (ce_var 1)))
    css_nil)) css_nil)
  (css_cons (cs_set 3 nd (ce_ix (ce_ixO 0 ce_int) (ce_bin br_gSub (ce_ixO 0 ce_int) ce_int)))
  (css_cons (cs_store 0 (ce_bin br_gMod (ce_callT cr_gInt y_int b_int (ca_cons (ce_bin br_gAdd (ce_bin br_gAdd (ce_bin br_gMul (ce_ixO 0 ce_int) ce_int) (ce_var 3)) ce_int) ca_nil)) ce_int) ce_int)
  (css_cons (cs_if (ct_cmp br_gGe (ce_var 3) (ce_bin br_gPow ce_int ce_int)) (css_cons (cs_store 0 (ce_bin br_gDiv (ce_var 3) (ce_var 1)) ce_int)
    css_nil) css_nil)
  (css_cons (cs_ret (ce_bin br_gMod (ce_callT cr_gInt y_int b_int (ca_cons (ce_var 3) ca_nil)) (ce_var 1)))
  css_nil)))))))
theorem ok_law_pick (F : Fun K "_law_pick" "_law_pick" s_law_pick f fd)
    (y_len : mg "len" = none)
    {f_law_taken : Addr} {d_law_taken : FuncData} (G_law_taken : Fn P w K mg base 1 "_law_taken" ["row", "many"] (sp_law_taken K) f_law_taken d_law_taken) : FnOk P w K mg base CX0 2 f fd ["row", "things"] (sp_law_pick K) :=
  fn_iB F c_law_pick (by decide) fun cdv A outer s H E hr => by
  have nd := c_law_pick.nd
  have hu := hr.units
  exact (css_cons (cs_ret (ce_ix (ce_var 1) (ce_callL 0 (fun _ _ _ _ h => runB_ok h) G_law_taken.g (hr.mono (by decide)) G_law_taken.m G_law_taken.k G_law_taken.b (ca_cons (ce_callB cr_gLen y_len b_len (ca_cons (ce_var 1) ca_nil)) ca_nil))))
  css_nil)
theorem ok_law_alike (F : Fun K "_law_alike" "_law_alike" s_law_alike f fd)
    (y_isinstance : mg "isinstance" = none)
    (y_tuple : mg "tuple" = none)
    (y_list : mg "list" = none)
    (y_len : mg "len" = none)
    (y_range : mg "range" = none)
    (y_dict : mg "dict" = none)
    (y_sorted : mg "sorted" = none)
    (y_str : mg "str" = none)
    (y_int : mg "int" = none)
    (y_bool : mg "bool" = none)
    (km : PySem.W.keepIn K (.ref f) = true) (bm : Binds K fd ["found", "due"] []) (mm : mg "_law_alike" = some (.ref f)) : ∀ n, FnOk P w K mg base CX0 (1 + n) f fd ["found", "due"] (spD K 2 fun ds d => q_law_alike_2 n ds = some d)
  | 0 => fn_none
  | n + 1 => by
    have G_law_alike : Fn P w K mg base (1 + n) "_law_alike" ["found", "due"] (spD K 2 fun ds d => q_law_alike_2 n ds = some d) f fd := ⟨ok_law_alike F y_isinstance y_tuple y_list y_len y_range y_dict y_sorted y_str y_int y_bool km bm mm n, km, bm, mm⟩
    exact fn_i F c_law_alike (by decide) fun cdv A outer s H E hr => by
      have nd := c_law_alike.nd
      have hu := hr.units
      exact (css_cons (cs_if (ct_val (ce_isi2 (ce_var 1) y_isinstance y_tuple b_tuple y_list b_list)) (css_cons (cs_if (cw_t (cw_or (ct_not (ct_val (ce_isi2 (ce_var 0) y_isinstance y_tuple b_tuple y_list b_list))) (cw_or1 (ct_cmp (br_gNe hu) (ce_isi (ce_var 0) y_isinstance y_list b_list) (ce_isi (ce_var 1) y_isinstance y_list b_list))))) (css_cons (cs_ret ce_bl)
      css_nil) css_nil)
    (css_cons (cs_if (ct_cmp (br_gNe hu) (ce_callB cr_gLen y_len b_len (ca_cons (ce_var 0) ca_nil)) (ce_callB cr_gLen y_len b_len (ca_cons (ce_var 1) ca_nil))) (css_cons (cs_ret ce_bl)
      css_nil) css_nil)
    (css_cons (cs_ret (ce_cmp (br_gEq hu) (ce_o (co_lc (own := [("k", 2)]) rfl nd (ci_rng1 y_range (ce_callB cr_gLen y_len b_len (ca_cons (ce_var 1) ca_nil))) (blkOk_by (N := n_law_alike) (sc := defScope s_law_alike) (by decide +kernel)) rfl (fun _ _ _ _ _ => (cg_n 2 nd)) (fun _ _ _ _ _ => (cts_one (ct_not (ct_val (ce_call G_law_alike.g (hr.mono (Nat.le_refl _)) G_law_alike.m G_law_alike.k G_law_alike.b (ca_cons (ce_ix (ce_var 0) (ce_var 2)) (ca_cons (ce_ix (ce_var 1) (ce_var 2)) ca_nil)) fun _ _ _ h => ev_len _ _ _ _ h))))) (fun _ _ _ _ _ => (ce_var 2)))) (ce_o (co_lst ca_nil))))
    css_nil))) css_nil)
  (css_cons (cs_if (ct_val (ce_isi (ce_var 1) y_isinstance y_dict b_dict)) (css_cons (cs_if (cw_t (cw_or (ct_not (ct_val (ce_isi (ce_var 0) y_isinstance y_dict b_dict))) (cw_or1 (ct_cmp (br_gNe hu) (ce_o (co_callB cro_gSort y_sorted b_sorted (ca_cons (ce_var 0) ca_nil))) (ce_o (co_callB cro_gSort y_sorted b_sorted (ca_cons (ce_var 1) ca_nil))))))) (css_cons (cs_ret ce_bl)
      css_nil) css_nil)
    (css_cons (cs_ret (ce_cmp (br_gEq hu) (ce_o (co_lc (own := [("key", 3)]) rfl nd (ci_seq (ce_var 1)) (blkOk_by (N := n_law_alike) (sc := defScope s_law_alike) (by decide +kernel)) rfl (fun _ _ _ _ _ => (cg_n 3 nd)) (fun _ _ _ _ _ => (cts_one (ct_not (ct_val (ce_call G_law_alike.g (hr.mono (Nat.le_refl _)) G_law_alike.m G_law_alike.k G_law_alike.b (ca_cons (ce_ix (ce_var 0) (ce_var 3)) (ca_cons (ce_ix (ce_var 1) (ce_var 3)) ca_nil)) fun _ _ _ h => ev_len _ _ _ _ h))))) (fun _ _ _ _ _ => (ce_var 3)))) (ce_o (co_lst ca_nil))))
    css_nil)) css_nil)
  (css_cons (cs_if (cw_t (cw_or (ct_cmp br_gIs (ce_var 1) ce_none) (cw_or1 (ct_val (ce_isi (ce_var 1) y_isinstance y_str b_str))))) (css_cons (cs_ret (ce_and (ce_cmp (br_gEq hu) (ce_var 0) (ce_var 1)) (ce_one (ce_cmp (br_gEq hu) (ce_isi (ce_var 0) y_isinstance y_str b_str) (ce_isi (ce_var 1) y_isinstance y_str b_str)))))
    css_nil) css_nil)
  (css_cons (cs_ret (ce_and (ce_isi (ce_var 0) y_isinstance y_int b_int) (ce_and (ce_cmp (br_gEq hu) (ce_isi (ce_var 0) y_isinstance y_bool b_bool) (ce_isi (ce_var 1) y_isinstance y_bool b_bool)) (ce_one (ce_cmp (br_gEq hu) (ce_var 0) (ce_var 1))))))
  css_nil))))
theorem ok_law_reel (F : Fun K "_law_reel" "_law_reel" s_law_reel f fd)
    (y_range : mg "range" = none)
    (y_tuple : mg "tuple" = none)
    {f_law_taken : Addr} {d_law_taken : FuncData} (G_law_taken : Fn P w K mg base 1 "_law_taken" ["row", "many"] (sp_law_taken K) f_law_taken d_law_taken) : FnOk P w K mg base CX0 2 f fd ["row", "most", "pictures"] (sp_law_reel_2 K) :=
  fn_iB F c_law_reel (by decide) fun cdv A outer s H E hr => by
  have nd := c_law_reel.nd
  have hu := hr.units
  exact (css_cons (cs_par 3 4 rfl nd (ce_bin br_gAdd ce_int (ce_callL 0 (fun _ _ _ _ h => runB_ok h) G_law_taken.g (hr.mono (by decide)) G_law_taken.m G_law_taken.k G_law_taken.b (ca_cons (ce_var 1) ca_nil))) (ce_callL 0 (fun _ _ _ _ h => runB_ok h) G_law_taken.g (hr.mono (by decide)) G_law_taken.m G_law_taken.k G_law_taken.b (ca_cons ce_int ca_nil)))
  (css_cons (cs_setO 5 nd (co_lst ca_nil))
  (css_cons (cs_for (vs := [6, 7]) rfl (ci_rng1 y_range (ce_var 3)) (cg_n 6 nd) (css_cons (cs_frz 7 (cs_setLc 7 (own := [("there", 8)]) rfl nd (ci_rng1 y_range (ce_var 3)) (blkOk_by (N := n_law_reel) (sc := defScope s_law_reel) (by decide +kernel)) rfl (fun _ _ _ _ _ => (cg_n 8 nd)) (fun _ _ _ _ _ => (cts_one (ct_cmp (br_gEq hu) (ce_callL 0 (fun _ _ _ _ h => runB_ok h) G_law_taken.g (hr.mono (by decide)) G_law_taken.m G_law_taken.k G_law_taken.b (ca_cons ce_int ca_nil)) ce_int))) (fun _ _ _ _ _ => (ce_var 8))))
    (css_cons (cs_app 5 (ce_if (cw_t (cw_and (ct_cmp (br_gNe hu) (ce_var 7) (ce_o (co_lst ca_nil))) (cw_and1 (ct_cmp br_gGt (ce_var 4) ce_int)))) (ce_callT cr_gTuple y_tuple b_tuple (ca_cons (ce_var 7) ca_nil)) (ce_tup (ca_cons (ce_callL 0 (fun _ _ _ _ h => runB_ok h) G_law_taken.g (hr.mono (by decide)) G_law_taken.m G_law_taken.k G_law_taken.b (ca_cons (ce_var 3) ca_nil)) ca_nil))))
    css_nil)))
  (css_cons (cs_ret (ce_tup (ca_cons (ce_callT cr_gTuple y_tuple b_tuple (ca_cons (ce_var 5) ca_nil)) (ca_cons (ce_callT cr_gTuple y_tuple b_tuple (ca_cons (ce_o (co_lc (own := [("state", 6)]) rfl nd (ci_rng1 y_range (ce_var 3)) (blkOk_by (N := n_law_reel) (sc := defScope s_law_reel) (by decide +kernel)) rfl (fun _ _ _ _ _ => (cg_n 6 nd)) (fun _ _ _ _ _ => cts_nil) (fun _ _ _ _ _ => (ce_callL 0 (fun _ _ _ _ h => runB_ok h) G_law_taken.g (hr.mono (by decide)) G_law_taken.m G_law_taken.k G_law_taken.b (ca_cons (ce_var 2) ca_nil))))) ca_nil)) ca_nil))))
  css_nil))))
theorem ok_law_gap (F : Fun K "_law_gap" "_law_gap" s_law_gap f fd)
    {f_law_pick : Addr} {d_law_pick : FuncData} (G_law_pick : Fn P w K mg base 2 "_law_pick" ["row", "things"] (sp_law_pick K) f_law_pick d_law_pick) : FnOk P w K mg base CX0 3 f fd ["row"] (sp_law_gap_2 K) :=
  fn_iB F c_law_gap (by decide) fun cdv A outer s H E hr => by
  have nd := c_law_gap.nd
  have hu := hr.units
  exact (css_cons (cs_ret (ce_callL 0 (fun _ _ _ _ h => runB_ok h) G_law_pick.g (hr.mono (by decide)) G_law_pick.m G_law_pick.k G_law_pick.b (ca_cons (ce_o (co_lst (ca_cons ce_int (ca_cons ce_int (ca_cons ce_int (ca_cons ce_int (ca_cons ce_int (ca_cons ce_none (ca_cons ce_none ca_nil))))))))) ca_nil)))
  css_nil)
theorem ok_law_beyond (F : Fun K "_law_beyond" "_law_beyond" s_law_beyond f fd) : FnOk P w K mg base CX0 1 f fd ["reel", "states"] (sp_law_beyond_2 K) :=
  fn_i F c_law_beyond (by decide) fun cdv A outer s H E hr => by
  have nd := c_law_beyond.nd
  have hu := hr.units
  exact (css_cons (cs_set 2 nd (ce_o (co_lst ca_nil)))
  (css_cons (cs_for (vs := [3]) rfl (ci_seq (ce_var 1)) (cg_n 3 nd) (css_cons (cs_set 2 nd (ce_bin br_gAdd (ce_var 2) (ce_o (co_lc (own := [("there", 4)]) rfl nd (ci_seq (ce_ix (ce_ix (ce_var 0) ce_int) (ce_var 3))) (blkOk_by (N := n_law_beyond) (sc := defScope s_law_beyond) (by decide +kernel)) rfl (fun _ _ _ _ _ => (cg_n 4 nd)) (fun _ _ _ _ _ => (cts_one (ct_cmp (br_gNin hu) (ce_var 4) (ce_var 2)))) (fun _ _ _ _ _ => (ce_var 4))))))
    css_nil))
  (css_cons (cs_ret (ce_var 2))
  css_nil)))
theorem ok_law_within (F : Fun K "_law_within" "_law_within" s_law_within f fd)
    (y_list : mg "list" = none)
    (y_min : mg "min" = none)
    (y_range : mg "range" = none)
    {f_law_beyond : Addr} {d_law_beyond : FuncData} (G_law_beyond : Fn P w K mg base 1 "_law_beyond" ["reel", "states"] (sp_law_beyond_2 K) f_law_beyond d_law_beyond) : FnOk P w K mg base CX0 2 f fd ["reel", "here", "gap"] (sp_law_within K) :=
  fn_i F c_law_within (by decide) fun cdv A outer s H E hr => by
  have nd := c_law_within.nd
  have hu := hr.units
  exact (css_cons (cs_set 3 nd (ce_o (co_callT cro_gList y_list b_list (ca_cons (ce_var 1) ca_nil))))
  (css_cons (cs_for (vs := [4]) rfl (ci_rng1 y_range (ce_if (ct_cmp br_gIs (ce_var 2) ce_none) ce_int (ce_callB (cr_gMin rfl) y_min b_min (ca_cons ce_int (ca_cons (ce_var 2) ca_nil))))) (cg_n 4 nd) (css_cons (cs_set 1 nd (ce_call G_law_beyond.g (hr.mono (by decide)) G_law_beyond.m G_law_beyond.k G_law_beyond.b (ca_cons (ce_var 0) (ca_cons (ce_var 1) ca_nil)) fun _ _ _ h => ev_len _ _ _ _ h))
    (css_cons (cs_set 3 nd (ce_bin br_gAdd (ce_var 3) (ce_o (co_lc (own := [("state", 5)]) rfl nd (ci_seq (ce_var 1)) (blkOk_by (N := n_law_within) (sc := defScope s_law_within) (by decide +kernel)) rfl (fun _ _ _ _ _ => (cg_n 5 nd)) (fun _ _ _ _ _ => (cts_one (ct_cmp (br_gNin hu) (ce_var 5) (ce_var 3)))) (fun _ _ _ _ _ => (ce_var 5))))))
    css_nil)))
  (css_cons (cs_ret (ce_var 3))
  css_nil)))
theorem ok_law_may (F : Fun K "_law_may" "_law_may" s_law_may f fd)
    {f_law_within : Addr} {d_law_within : FuncData} (G_law_within : Fn P w K mg base 2 "_law_within" ["reel", "here", "gap"] (sp_law_within K) f_law_within d_law_within)
    {f_law_beyond : Addr} {d_law_beyond : FuncData} (G_law_beyond : Fn P w K mg base 1 "_law_beyond" ["reel", "states"] (sp_law_beyond_2 K) f_law_beyond d_law_beyond) : FnOk P w K mg base CX0 3 f fd ["reel", "gap", "here"] (sp_law_may K) :=
  fn_i F c_law_may (by decide) fun cdv A outer s H E hr => by
  have nd := c_law_may.nd
  have hu := hr.units
  exact (css_cons (cs_ret (ce_call G_law_within.g (hr.mono (by decide)) G_law_within.m G_law_within.k G_law_within.b (ca_cons (ce_var 0) (ca_cons (ce_if (ct_cmp br_gIs (ce_var 2) ce_none) (ce_o (co_lst (ca_cons ce_int ca_nil))) (ce_call G_law_beyond.g (hr.mono (by decide)) G_law_beyond.m G_law_beyond.k G_law_beyond.b (ca_cons (ce_var 0) (ca_cons (ce_var 2) ca_nil)) fun _ _ _ h => ev_len _ _ _ _ h)) (ca_cons (ce_var 1) ca_nil))) fun _ _ _ h => ev_len _ _ _ _ h))
  css_nil)
theorem ok_law_see (F : Fun K "_law_see" "_law_see" s_law_see f fd)
    (y_sorted : mg "sorted" = none)
    (y_tuple : mg "tuple" = none)
    {f_law_may : Addr} {d_law_may : FuncData} (G_law_may : Fn P w K mg base 3 "_law_may" ["reel", "gap", "here"] (sp_law_may K) f_law_may d_law_may) : FnOk P w K mg base CX0 4 f fd ["reel", "gap", "here", "picture"] (sp_law_see K) :=
  fn_i F c_law_see (by decide) fun cdv A outer s H E hr => by
  have nd := c_law_see.nd
  have hu := hr.units
  exact (css_cons (cs_ret (ce_callT cr_gTuple y_tuple b_tuple (ca_cons (ce_o (co_callB cro_gSort y_sorted b_sorted (ca_cons (ce_o (co_lc (own := [("state", 4)]) rfl nd (ci_seq (ce_call G_law_may.g (hr.mono (by decide)) G_law_may.m G_law_may.k G_law_may.b (ca_cons (ce_var 0) (ca_cons (ce_var 1) (ca_cons (ce_var 2) ca_nil))) fun _ _ _ h => ev_len _ _ _ _ h)) (blkOk_by (N := n_law_see) (sc := defScope s_law_see) (by decide +kernel)) rfl (fun _ _ _ _ _ => (cg_n 4 nd)) (fun _ _ _ _ _ => (cts_one (ct_cmp (br_gEq hu) (ce_ix (ce_ix (ce_var 0) ce_int) (ce_var 4)) (ce_var 3)))) (fun _ _ _ _ _ => (ce_var 4)))) ca_nil))) ca_nil)))
  css_nil)
theorem ok_law_stands (F : Fun K "_law_stands" "_law_stands" s_law_stands f fd)
    {f_law_see : Addr} {d_law_see : FuncData} (G_law_see : Fn P w K mg base 4 "_law_see" ["reel", "gap", "here", "picture"] (sp_law_see K) f_law_see d_law_see) : FnOk P w K mg base CX0 5 f fd ["reel", "gap", "film"] (sp_law_stands_2 K) :=
  fn_i F c_law_stands (by decide) fun cdv A outer s H E hr => by
  have nd := c_law_stands.nd
  have hu := hr.units
  exact (css_cons (cs_set 3 nd ce_none)
  (css_cons (cs_for (vs := [4]) rfl (ci_seq (ce_var 2)) (cg_n 4 nd) (css_cons (cs_set 3 nd (ce_call G_law_see.g (hr.mono (by decide)) G_law_see.m G_law_see.k G_law_see.b (ca_cons (ce_var 0) (ca_cons (ce_var 1) (ca_cons (ce_var 3) (ca_cons (ce_var 4) ca_nil)))) fun _ _ _ h => ev_len _ _ _ _ h))
    css_nil))
  (css_cons (cs_ret (ce_var 3))
  css_nil)))
theorem ok_law_can (F : Fun K "_law_can" "_law_can" s_law_can f fd)
    {f_law_stands : Addr} {d_law_stands : FuncData} (G_law_stands : Fn P w K mg base 5 "_law_stands" ["reel", "gap", "film"] (sp_law_stands_2 K) f_law_stands d_law_stands) : FnOk P w K mg base CX0 6 f fd ["reel", "gap", "film"] (sp_law_can K) :=
  fn_i F c_law_can (by decide) fun cdv A outer s H E hr => by
  have nd := c_law_can.nd
  have hu := hr.units
  exact (css_cons (cs_ret (ce_cmp (br_gNe hu) (ce_call G_law_stands.g (hr.mono (by decide)) G_law_stands.m G_law_stands.k G_law_stands.b (ca_cons (ce_var 0) (ca_cons (ce_var 1) (ca_cons (ce_var 2) ca_nil))) fun _ _ _ h => ev_len _ _ _ _ h) (ce_tup ca_nil)))
  css_nil)
theorem ok_law_all_films (F : Fun K "_law_all_films" "_law_all_films" s_law_all_films f fd)
    (y_range : mg "range" = none) : FnOk P w K mg base CX0 1 f fd ["pictures", "many"] (sp_law_all_films K) :=
  fn_i F c_law_all_films (by decide) fun cdv A outer s H E hr => by
  have nd := c_law_all_films.nd
  have hu := hr.units
  exact (css_cons (cs_set 2 nd (ce_o (co_lst (ca_cons (ce_tup ca_nil) ca_nil))))
  (css_cons (cs_for (vs := [3, 4, 5]) rfl (ci_rng1 y_range (ce_var 1)) (cg_n 3 nd) (css_cons (cs_set 4 nd (ce_o (co_lst ca_nil)))
    (css_cons (cs_for (vs := [5]) rfl (ci_seq (ce_var 2)) (cg_n 5 nd) (css_cons (cs_set 4 nd (ce_bin br_gAdd (ce_var 4) (ce_o (co_lc (own := [("picture", 6)]) rfl nd (ci_seq (ce_var 0)) (blkOk_by (N := n_law_all_films) (sc := defScope s_law_all_films) (by decide +kernel)) rfl (fun _ _ _ _ _ => (cg_n 6 nd)) (fun _ _ _ _ _ => cts_nil) (fun _ _ _ _ _ => (ce_bin br_gAdd (ce_var 5) (ce_tup (ca_cons (ce_var 6) ca_nil))))))))
      css_nil))
    (css_cons (cs_set 2 nd (ce_var 4))
    css_nil))))
  (css_cons (cs_ret (ce_var 2))
  css_nil)))
theorem ok_law_pictures (F : Fun K "_law_pictures" "_law_pictures" s_law_pictures f fd)
    (y_sorted : mg "sorted" = none)
    (y_set : mg "set" = none) : FnOk P w K mg base CX0 1 f fd ["one", "other"] (sp_law_pictures K) :=
  fn_i F c_law_pictures (by decide) fun cdv A outer s H E hr => by
  have nd := c_law_pictures.nd
  have hu := hr.units
  exact (css_cons (cs_ret (ce_o (co_sortset rfl y_sorted y_set (ce_bin br_gAdd (ce_ix (ce_var 0) ce_int) (ce_ix (ce_var 1) ce_int)))))
  css_nil)
theorem ok_law_is (F : Fun K "_law_is" "_law_is" s_law_is f fd)
    (y_isinstance : mg "isinstance" = none)
    (y_bool : mg "bool" = none) : FnOk P w K mg base CX0 1 f fd ["found", "due"] (sp_law_is K) :=
  fn_i F c_law_is (by decide) fun cdv A outer s H E hr => by
  have nd := c_law_is.nd
  have hu := hr.units
  exact (css_cons (cs_ret (ce_and (ce_isi (ce_var 0) y_isinstance y_bool b_bool) (ce_one (ce_cmp (br_gEq hu) (ce_var 0) (ce_var 1)))))
  css_nil)
theorem ok_law_parting (F : Fun K "_law_parting" "_law_parting" s_law_parting f fd)
    {f_law_pictures : Addr} {d_law_pictures : FuncData} (G_law_pictures : Fn P w K mg base 1 "_law_pictures" ["one", "other"] (sp_law_pictures K) f_law_pictures d_law_pictures)
    {f_law_see : Addr} {d_law_see : FuncData} (G_law_see : Fn P w K mg base 4 "_law_see" ["reel", "gap", "here", "picture"] (sp_law_see K) f_law_see d_law_see) : FnOk P w K mg base CX0 5 f fd ["one", "other", "gap", "is_half"] (sp_law_parting K) :=
  fn_i F c_law_parting (by decide) fun cdv A outer s H E hr => by
  have nd := c_law_parting.nd
  have hu := hr.units
  exact (css_cons (cs_par3 4 5 6 rfl nd (ce_o (co_lst (ca_cons (ce_tup (ca_cons (ce_tup ca_nil) (ca_cons ce_none (ca_cons ce_none ca_nil)))) ca_nil))) (co_lst ca_nil) (ce_call G_law_pictures.g (hr.mono (by decide)) G_law_pictures.m G_law_pictures.k G_law_pictures.b (ca_cons (ce_var 0) (ca_cons (ce_var 1) ca_nil)) fun _ _ _ h => ev_len _ _ _ _ h))
  (css_cons (cs_while (n := 100000) (vs := [7, 8, 9, 10, 11, 12, 13]) (ct_cmp (br_gNe hu) (ce_var 4) (ce_o (co_lst ca_nil))) (css_cons (cs_setO 7 nd (co_lst ca_nil))
    (css_cons (cs_for (vs := [8, 9, 10, 11, 12, 13]) rfl (ci_seq (ce_var 4)) (cg_t rfl (cgs_cons (cg_n 8 nd) (cgs_cons (cg_n 9 nd) (cgs_cons (cg_n 10 nd) cgs_nil)))) (css_cons (cs_for (vs := [11, 12, 13]) rfl (ci_seq (ce_var 6)) (cg_n 11 nd) (css_cons (cs_set 12 nd (ce_if (ct_cmp (br_gNe hu) (ce_var 9) (ce_tup ca_nil)) (ce_call G_law_see.g (hr.mono (by decide)) G_law_see.m G_law_see.k G_law_see.b (ca_cons (ce_var 0) (ca_cons (ce_var 2) (ca_cons (ce_var 9) (ca_cons (ce_var 11) ca_nil)))) fun _ _ _ h => ev_len _ _ _ _ h) (ce_tup ca_nil)))
        (css_cons (cs_set 13 nd (ce_if (ct_cmp (br_gNe hu) (ce_var 10) (ce_tup ca_nil)) (ce_call G_law_see.g (hr.mono (by decide)) G_law_see.m G_law_see.k G_law_see.b (ca_cons (ce_var 1) (ca_cons (ce_var 2) (ca_cons (ce_var 10) (ca_cons (ce_var 11) ca_nil)))) fun _ _ _ h => ev_len _ _ _ _ h) (ce_tup ca_nil)))
        (css_cons (cs_if (cw_t (cw_or (cw_t (cw_and (ct_cmp (br_gEq hu) (ce_var 12) (ce_tup ca_nil)) (cw_and1 (ct_cmp (br_gNe hu) (ce_var 13) (ce_tup ca_nil))))) (cw_or1 (cw_t (cw_and (ct_cmp (br_gEq hu) (ce_var 13) (ce_tup ca_nil)) (cw_and (ct_cmp (br_gNe hu) (ce_var 12) (ce_tup ca_nil)) (cw_and1 (ct_not (ct_val (ce_var 3)))))))))) (css_cons (cs_ret (ce_bin br_gAdd (ce_var 8) (ce_tup (ca_cons (ce_var 11) ca_nil))))
          css_nil) css_nil)
        (css_cons (cs_if (cw_t (cw_and (ct_NinO 5 hu (ce_tup (ca_cons (ce_var 12) (ca_cons (ce_var 13) ca_nil)))) (cw_and1 (ct_cmp (br_gNe hu) (ce_var 13) (ce_tup ca_nil))))) (css_cons (cs_app 5 (ce_tup (ca_cons (ce_var 12) (ca_cons (ce_var 13) ca_nil))))
          (css_cons (cs_app 7 (ce_tup (ca_cons (ce_bin br_gAdd (ce_var 8) (ce_tup (ca_cons (ce_var 11) ca_nil))) (ca_cons (ce_var 12) (ca_cons (ce_var 13) ca_nil)))))
          css_nil)) css_nil)
        css_nil)))))
      css_nil))
    (css_cons (cs_set 4 nd (ce_var 7))
    css_nil))))
  (css_cons (cs_ret ce_none)
  css_nil)))
theorem ok_law (F : Fun K "law" "law" s_law f fd)
    (y_len : mg "len" = none)
    (y_sorted : mg "sorted" = none)
    (y_set : mg "set" = none)
    (y_tuple : mg "tuple" = none)
    (y_range : mg "range" = none)
    (y_list : mg "list" = none)
    {f_law_reel : Addr} {d_law_reel : FuncData} (G_law_reel : Fn P w K mg base 2 "_law_reel" ["row", "most", "pictures"] (sp_law_reel_2 K) f_law_reel d_law_reel)
    {f_law_gap : Addr} {d_law_gap : FuncData} (G_law_gap : Fn P w K mg base 3 "_law_gap" ["row"] (sp_law_gap_2 K) f_law_gap d_law_gap)
    {f_law_taken : Addr} {d_law_taken : FuncData} (G_law_taken : Fn P w K mg base 1 "_law_taken" ["row", "many"] (sp_law_taken K) f_law_taken d_law_taken)
    {f_law_parting : Addr} {d_law_parting : FuncData} (G_law_parting : Fn P w K mg base 5 "_law_parting" ["one", "other", "gap", "is_half"] (sp_law_parting K) f_law_parting d_law_parting)
    {f_law_alike : Addr} {d_law_alike : FuncData} (G_law_alike : Fn P w K mg base 9 "_law_alike" ["found", "due"] (sp_law_alike_2 K) f_law_alike d_law_alike)
    {f_parting_film : Addr} {d_parting_film : FuncData} (G_parting_film : Fn P w K mg base 7 "parting_film" ["one", "other", "gap"] (sp_parting_film K) f_parting_film d_parting_film)
    {f_law_is : Addr} {d_law_is : FuncData} (G_law_is : Fn P w K mg base 1 "_law_is" ["found", "due"] (sp_law_is K) f_law_is d_law_is)
    {f_are_same : Addr} {d_are_same : FuncData} (G_are_same : Fn P w K mg base 8 "are_same" ["one", "other", "gap"] (sp_are_same K) f_are_same d_are_same)
    {f_covers : Addr} {d_covers : FuncData} (G_covers : Fn P w K mg base 7 "covers" ["one", "other", "gap"] (sp_covers K) f_covers d_covers)
    {f_law_all_films : Addr} {d_law_all_films : FuncData} (G_law_all_films : Fn P w K mg base 1 "_law_all_films" ["pictures", "many"] (sp_law_all_films K) f_law_all_films d_law_all_films)
    {f_law_pictures : Addr} {d_law_pictures : FuncData} (G_law_pictures : Fn P w K mg base 1 "_law_pictures" ["one", "other"] (sp_law_pictures K) f_law_pictures d_law_pictures)
    {f_law_can : Addr} {d_law_can : FuncData} (G_law_can : Fn P w K mg base 6 "_law_can" ["reel", "gap", "film"] (sp_law_can K) f_law_can d_law_can)
    {f_least_gap_alike : Addr} {d_least_gap_alike : FuncData} (G_least_gap_alike : Fn P w K mg base 9 "least_gap_alike" ["one", "other"] (sp_least_gap_alike K) f_least_gap_alike d_least_gap_alike) : FnOk P w K mg base CX0 10 f fd ["script"] (sp_law_k62 K) :=
  fn_i F c_law (by decide) fun cdv A outer s H E hr => by
  have nd := c_law.nd
  have hu := hr.units
  exact (css_cons (cs_setO 1 nd (co_lst (ca_cons (ce_var 0) (ca_cons ce_int (ca_cons ce_int (ca_cons ce_int ca_nil))))))
  (css_cons (cs_tup (ce_tup (ca_cons (ce_callL 1 (fun _ _ _ _ h => runB_ok h) G_law_reel.g (hr.mono (by decide)) G_law_reel.m G_law_reel.k G_law_reel.b (ca_cons ce_int (ca_cons ce_int ca_nil))) (ca_cons (ce_callL 1 (fun _ _ _ _ h => runB_ok h) G_law_gap.g (hr.mono (by decide)) G_law_gap.m G_law_gap.k G_law_gap.b ca_nil) ca_nil))) (cg_t rfl (cgs_cons (cg_n 2 nd) (cgs_cons (cg_n 3 nd) cgs_nil))))
  (css_cons (cs_set 4 nd (ce_callL 1 (fun _ _ _ _ h => runB_ok h) G_law_reel.g (hr.mono (by decide)) G_law_reel.m G_law_reel.k G_law_reel.b (ca_cons ce_int (ca_cons ce_int ca_nil))))
  (css_cons (cs_if (ct_cmp (br_gEq hu) (ce_callL 1 (fun _ _ _ _ h => runB_ok h) G_law_taken.g (hr.mono (by decide)) G_law_taken.m G_law_taken.k G_law_taken.b (ca_cons ce_int ca_nil)) ce_int) (css_cons (cs_set 5 nd (ce_callL 1 (fun _ _ _ _ h => runB_ok h) G_law_taken.g (hr.mono (by decide)) G_law_taken.m G_law_taken.k G_law_taken.b (ca_cons (ce_callB cr_gLen y_len b_len (ca_cons (ce_ix (ce_var 2) ce_int) ca_nil)) ca_nil)))
    (css_cons (cs_set 4 nd (ce_tup (ca_cons (ce_bin br_gAdd (ce_bin br_gAdd (ce_cutTo (ce_ix (ce_var 2) ce_int) (ce_var 5)) (ce_tup (ca_cons (ce_callT cr_gTuple y_tuple b_tuple (ca_cons (ce_o (co_sortset rfl y_sorted y_set (ce_bin br_gAdd (ce_ix (ce_ix (ce_var 2) ce_int) (ce_var 5)) (ce_tup (ca_cons (ce_callL 1 (fun _ _ _ _ h => runB_ok h) G_law_taken.g (hr.mono (by decide)) G_law_taken.m G_law_taken.k G_law_taken.b (ca_cons (ce_callB cr_gLen y_len b_len (ca_cons (ce_ix (ce_var 2) ce_int) ca_nil)) ca_nil)) ca_nil))))) ca_nil)) ca_nil))) (ce_cutFrom (ce_ix (ce_var 2) ce_int) (ce_bin br_gAdd (ce_var 5) ce_int))) (ca_cons (ce_ix (ce_var 2) ce_int) ca_nil))))
    css_nil)) css_nil)
  (css_cons (cs_set 6 nd (ce_call G_law_parting.g (hr.mono (by decide)) G_law_parting.m G_law_parting.k G_law_parting.b (ca_cons (ce_var 2) (ca_cons (ce_var 4) (ca_cons (ce_var 3) (ca_cons ce_bl ca_nil)))) fun _ _ _ h => ev_len _ _ _ _ h))
  (css_cons (cs_if (cw_t (cw_or (ct_not (ct_val (ce_call G_law_alike.g (hr.mono (by decide)) G_law_alike.m G_law_alike.k G_law_alike.b (ca_cons (ce_call G_parting_film.g (hr.mono (by decide)) G_parting_film.m G_parting_film.k G_parting_film.b (ca_cons (ce_var 2) (ca_cons (ce_var 4) (ca_cons (ce_var 3) ca_nil))) fun _ _ _ h => ev_len _ _ _ _ h) (ca_cons (ce_var 6) ca_nil)) fun _ _ _ h => ev_len _ _ _ _ h))) (cw_or1 (ct_not (ct_val (ce_call G_law_is.g (hr.mono (by decide)) G_law_is.m G_law_is.k G_law_is.b (ca_cons (ce_call G_are_same.g (hr.mono (by decide)) G_are_same.m G_are_same.k G_are_same.b (ca_cons (ce_var 2) (ca_cons (ce_var 4) (ca_cons (ce_var 3) ca_nil))) fun _ _ _ h => ev_len _ _ _ _ h) (ca_cons (ce_cmp br_gIs (ce_var 6) ce_none) ca_nil)) fun _ _ _ h => ev_len _ _ _ _ h)))))) (css_cons (cs_ret ce_bl)
    css_nil) css_nil)
  (css_cons (cs_if (ct_not (ct_val (ce_call G_law_is.g (hr.mono (by decide)) G_law_is.m G_law_is.k G_law_is.b (ca_cons (ce_call G_covers.g (hr.mono (by decide)) G_covers.m G_covers.k G_covers.b (ca_cons (ce_var 2) (ca_cons (ce_var 4) (ca_cons (ce_var 3) ca_nil))) fun _ _ _ h => ev_len _ _ _ _ h) (ca_cons (ce_cmp br_gIs (ce_call G_law_parting.g (hr.mono (by decide)) G_law_parting.m G_law_parting.k G_law_parting.b (ca_cons (ce_var 2) (ca_cons (ce_var 4) (ca_cons (ce_var 3) (ca_cons ce_bl ca_nil)))) fun _ _ _ h => ev_len _ _ _ _ h) ce_none) ca_nil)) fun _ _ _ h => ev_len _ _ _ _ h))) (css_cons (cs_ret ce_bl)
    css_nil) css_nil)
  (css_cons (cs_if (ct_not (ct_val (ce_call G_law_is.g (hr.mono (by decide)) G_law_is.m G_law_is.k G_law_is.b (ca_cons (ce_call G_covers.g (hr.mono (by decide)) G_covers.m G_covers.k G_covers.b (ca_cons (ce_var 4) (ca_cons (ce_var 2) (ca_cons (ce_var 3) ca_nil))) fun _ _ _ h => ev_len _ _ _ _ h) (ca_cons (ce_cmp br_gIs (ce_call G_law_parting.g (hr.mono (by decide)) G_law_parting.m G_law_parting.k G_law_parting.b (ca_cons (ce_var 4) (ca_cons (ce_var 2) (ca_cons (ce_var 3) (ca_cons ce_bl ca_nil)))) fun _ _ _ h => ev_len _ _ _ _ h) ce_none) ca_nil)) fun _ _ _ h => ev_len _ _ _ _ h))) (css_cons (cs_ret ce_bl)
    css_nil) css_nil)
  (css_cons (cs_for (vs := [7, 8, 9]) rfl (ci_rng2 y_range ce_int ce_int) (cg_n 7 nd) (css_cons (cs_set 8 nd (ce_call G_law_all_films.g (hr.mono (by decide)) G_law_all_films.m G_law_all_films.k G_law_all_films.b (ca_cons (ce_call G_law_pictures.g (hr.mono (by decide)) G_law_pictures.m G_law_pictures.k G_law_pictures.b (ca_cons (ce_var 2) (ca_cons (ce_var 4) ca_nil)) fun _ _ _ h => ev_len _ _ _ _ h) (ca_cons (ce_var 7) ca_nil)) fun _ _ _ h => ev_len _ _ _ _ h))
    (css_cons (cs_frz 9 (cs_setLc 9 (own := [("film", 12)]) rfl nd (ci_seq (ce_var 8)) (blkOk_by (N := n_law) (sc := defScope s_law) (by decide +kernel)) rfl (fun _ _ _ _ _ => (cg_n 12 nd)) (fun _ _ _ _ _ => (cts_one (ct_cmp (br_gNe hu) (ce_call G_law_can.g (hr.mono (by decide)) G_law_can.m G_law_can.k G_law_can.b (ca_cons (ce_var 2) (ca_cons (ce_var 3) (ca_cons (ce_var 12) ca_nil))) fun _ _ _ h => ev_len _ _ _ _ h) (ce_call G_law_can.g (hr.mono (by decide)) G_law_can.m G_law_can.k G_law_can.b (ca_cons (ce_var 4) (ca_cons (ce_var 3) (ca_cons (ce_var 12) ca_nil))) fun _ _ _ h => ev_len _ _ _ _ h)))) (fun _ _ _ _ _ => (ce_var 12))))
    (css_cons (cs_if (cw_t (cw_and (ct_cmp (br_gNe hu) (ce_var 9) (ce_o (co_lst ca_nil))) (cw_and1 (cw_t (cw_or (ct_cmp br_gIs (ce_var 6) ce_none) (cw_or1 (ct_cmp br_gGt (ce_callB cr_gLen y_len b_len (ca_cons (ce_var 6) ca_nil)) (ce_var 7)))))))) (css_cons (cs_ret ce_bl)
      css_nil) css_nil)
    (css_cons (cs_if (cw_t (cw_and (ct_cmp (br_gNe hu) (ce_var 9) (ce_o (co_lst ca_nil))) (cw_and (ct_cmp (br_gEq hu) (ce_callB cr_gLen y_len b_len (ca_cons (ce_var 6) ca_nil)) (ce_var 7)) (cw_and1 (ct_cmp (br_gNe hu) (ce_var 6) (ce_ix (ce_var 9) ce_int)))))) (css_cons (cs_ret ce_bl)
      css_nil) css_nil)
    css_nil)))))
  (css_cons (cs_frz 10 (cs_setLc 10 (own := [("number", 11)]) rfl nd (ci_seq (ce_o (co_listR rfl y_list y_range ce_int))) (blkOk_by (N := n_law) (sc := defScope s_law) (by decide +kernel)) rfl (fun _ _ _ _ _ => (cg_n 11 nd)) (fun _ _ _ _ _ => (cts_one (ct_cmp br_gIs (ce_call G_law_parting.g (hr.mono (by decide)) G_law_parting.m G_law_parting.k G_law_parting.b (ca_cons (ce_var 2) (ca_cons (ce_var 4) (ca_cons (ce_var 11) (ca_cons ce_bl ca_nil)))) fun _ _ _ h => ev_len _ _ _ _ h) ce_none))) (fun _ _ _ _ _ => (ce_var 11))))
  (css_cons (cs_if (ct_cmp (br_gNe hu) (ce_cmp (br_gNe hu) (ce_var 10) (ce_o (co_lst ca_nil))) (ce_cmp br_gIs (ce_call G_law_parting.g (hr.mono (by decide)) G_law_parting.m G_law_parting.k G_law_parting.b (ca_cons (ce_var 2) (ca_cons (ce_var 4) (ca_cons ce_none (ca_cons ce_bl ca_nil)))) fun _ _ _ h => ev_len _ _ _ _ h) ce_none)) (css_cons (cs_ret ce_bl)
    css_nil) css_nil)
  (css_cons (cs_ret (ce_call G_law_alike.g (hr.mono (by decide)) G_law_alike.m G_law_alike.k G_law_alike.b (ca_cons (ce_call G_least_gap_alike.g (hr.mono (by decide)) G_least_gap_alike.m G_least_gap_alike.k G_least_gap_alike.b (ca_cons (ce_var 2) (ca_cons (ce_var 4) ca_nil)) fun _ _ _ h => ev_len _ _ _ _ h) (ca_cons (ce_if (ct_cmp (br_gNe hu) (ce_var 10) (ce_o (co_lst ca_nil))) (ce_ix (ce_var 10) ce_int) ce_none) ca_nil)) fun _ _ _ h => ev_len _ _ _ _ h))
  css_nil))))))))))))
end
end K62
set_option Elab.async false
set_option linter.all false
set_option maxRecDepth 100000
set_option maxHeartbeats 4000000
namespace K62
open PySem PySem.Spec PyProof.Rows L2 DL DI PG
def spLaw (K : PySem.W.Frag) : Sp := fun vs H Q _ => ∃ (a : Addr) (ns : List Int), vs = [.ref a] ∧ SqL K H a (ns.map V.int) ∧ ns.length ≤ 63 ∧ ∀ H', Q (.bl true) H'
theorem law_sp {P : Program} {w : World} {K : PySem.W.Frag} {mg : Str → Option Value} {base : Heap} {f : Addr} {fd : FuncData} {k : Nat} (G : FnOk P w K mg base CX0 k f fd ["script"] (sp_law_k62 K)) : FnOk P w K mg base CX0 k f fd ["script"] (spLaw K) :=
  ⟨fun vs H Q E h => by
    obtain ⟨a, ns, rfl, _⟩ := h
    rfl, fun A outer s H args us vs Q E hr e0 bt hv h => G.run A outer s H args us vs Q E hr e0 bt hv (by
    obtain ⟨a, ns, rfl, hS, hl, q⟩ := h
    exact ⟨H, [scrD (ns.map .int)], .bool true, rfl, Same.refl _, .cons (.scr hS (Rps.of_ints ns)) .nil, K62.law_true ns hl, fun v F' H' g r => by cases r; exact q H'⟩)⟩
theorem all_mk {l : PySem.W.OpenLaw} {w : World} {K : PySem.W.Frag} {h : Heap} {mg : Str → Option Value} {fa : Addr} (X : K.In h) (G : h.Ns mainGlobals mg) (hfa : mg "law" = some (.ref fa))
    {f0 : Addr} {od0 an0 : Option Addr} {sl0 : Array (Option Value)} {oc0 kV0 dc0 pm0 cd0 ct0 : Value}
    (a0 : PySem.W.nsIn K mainGlobals "is_integer" = some (some (.ref f0))) (l0 : K.lookup f0 = some ⟨oc0, od0, .func (PySem.W.fnOf "is_integer" "is_integer" (defArgs s_is_integer) (defBody s_is_integer) (defScope s_is_integer) .none kV0 dc0 pm0 an0 cd0 ct0), sl0⟩) (c0 : PySem.W.codeIn K cd0 "is_integer" = true) (k0 : PySem.W.keepIn K (.ref f0) = true)
    {f1 : Addr} {od1 an1 : Option Addr} {sl1 : Array (Option Value)} {oc1 kV1 dc1 pm1 cd1 ct1 : Value}
    (a1 : PySem.W.nsIn K mainGlobals "is_picture" = some (some (.ref f1))) (l1 : K.lookup f1 = some ⟨oc1, od1, .func (PySem.W.fnOf "is_picture" "is_picture" (defArgs s_is_picture) (defBody s_is_picture) (defScope s_is_picture) .none kV1 dc1 pm1 an1 cd1 ct1), sl1⟩) (c1 : PySem.W.codeIn K cd1 "is_picture" = true) (k1 : PySem.W.keepIn K (.ref f1) = true)
    {f2 : Addr} {od2 an2 : Option Addr} {sl2 : Array (Option Value)} {oc2 kV2 dc2 pm2 cd2 ct2 : Value}
    (a2 : PySem.W.nsIn K mainGlobals "is_film" = some (some (.ref f2))) (l2 : K.lookup f2 = some ⟨oc2, od2, .func (PySem.W.fnOf "is_film" "is_film" (defArgs s_is_film) (defBody s_is_film) (defScope s_is_film) .none kV2 dc2 pm2 an2 cd2 ct2), sl2⟩) (c2 : PySem.W.codeIn K cd2 "is_film" = true) (k2 : PySem.W.keepIn K (.ref f2) = true)
    {f3 : Addr} {od3 an3 : Option Addr} {sl3 : Array (Option Value)} {oc3 kV3 dc3 pm3 cd3 ct3 : Value}
    (a3 : PySem.W.nsIn K mainGlobals "is_ascending" = some (some (.ref f3))) (l3 : K.lookup f3 = some ⟨oc3, od3, .func (PySem.W.fnOf "is_ascending" "is_ascending" (defArgs s_is_ascending) (defBody s_is_ascending) (defScope s_is_ascending) .none kV3 dc3 pm3 an3 cd3 ct3), sl3⟩) (c3 : PySem.W.codeIn K cd3 "is_ascending" = true) (k3 : PySem.W.keepIn K (.ref f3) = true)
    {f4 : Addr} {od4 an4 : Option Addr} {sl4 : Array (Option Value)} {oc4 kV4 dc4 pm4 cd4 ct4 : Value}
    (a4 : PySem.W.nsIn K mainGlobals "is_next_row" = some (some (.ref f4))) (l4 : K.lookup f4 = some ⟨oc4, od4, .func (PySem.W.fnOf "is_next_row" "is_next_row" (defArgs s_is_next_row) (defBody s_is_next_row) (defScope s_is_next_row) .none kV4 dc4 pm4 an4 cd4 ct4), sl4⟩) (c4 : PySem.W.codeIn K cd4 "is_next_row" = true) (k4 : PySem.W.keepIn K (.ref f4) = true)
    {f5 : Addr} {od5 an5 : Option Addr} {sl5 : Array (Option Value)} {oc5 kV5 dc5 pm5 cd5 ct5 : Value}
    (a5 : PySem.W.nsIn K mainGlobals "are_nexts" = some (some (.ref f5))) (l5 : K.lookup f5 = some ⟨oc5, od5, .func (PySem.W.fnOf "are_nexts" "are_nexts" (defArgs s_are_nexts) (defBody s_are_nexts) (defScope s_are_nexts) .none kV5 dc5 pm5 an5 cd5 ct5), sl5⟩) (c5 : PySem.W.codeIn K cd5 "are_nexts" = true) (k5 : PySem.W.keepIn K (.ref f5) = true)
    {f6 : Addr} {od6 an6 : Option Addr} {sl6 : Array (Option Value)} {oc6 kV6 dc6 pm6 cd6 ct6 : Value}
    (a6 : PySem.W.nsIn K mainGlobals "wrong_part" = some (some (.ref f6))) (l6 : K.lookup f6 = some ⟨oc6, od6, .func (PySem.W.fnOf "wrong_part" "wrong_part" (defArgs s_wrong_part) (defBody s_wrong_part) (defScope s_wrong_part) .none kV6 dc6 pm6 an6 cd6 ct6), sl6⟩) (c6 : PySem.W.codeIn K cd6 "wrong_part" = true) (k6 : PySem.W.keepIn K (.ref f6) = true)
    {f7 : Addr} {od7 an7 : Option Addr} {sl7 : Array (Option Value)} {oc7 kV7 dc7 pm7 cd7 ct7 : Value}
    (a7 : PySem.W.nsIn K mainGlobals "check_reel" = some (some (.ref f7))) (l7 : K.lookup f7 = some ⟨oc7, od7, .func (PySem.W.fnOf "check_reel" "check_reel" (defArgs s_check_reel) (defBody s_check_reel) (defScope s_check_reel) .none kV7 dc7 pm7 an7 cd7 ct7), sl7⟩) (c7 : PySem.W.codeIn K cd7 "check_reel" = true) (k7 : PySem.W.keepIn K (.ref f7) = true)
    {f8 : Addr} {od8 an8 : Option Addr} {sl8 : Array (Option Value)} {oc8 kV8 dc8 pm8 cd8 ct8 : Value}
    (a8 : PySem.W.nsIn K mainGlobals "check_gap" = some (some (.ref f8))) (l8 : K.lookup f8 = some ⟨oc8, od8, .func (PySem.W.fnOf "check_gap" "check_gap" (defArgs s_check_gap) (defBody s_check_gap) (defScope s_check_gap) .none kV8 dc8 pm8 an8 cd8 ct8), sl8⟩) (c8 : PySem.W.codeIn K cd8 "check_gap" = true) (k8 : PySem.W.keepIn K (.ref f8) = true)
    {f9 : Addr} {od9 an9 : Option Addr} {sl9 : Array (Option Value)} {oc9 kV9 dc9 pm9 cd9 ct9 : Value}
    (a9 : PySem.W.nsIn K mainGlobals "check_two" = some (some (.ref f9))) (l9 : K.lookup f9 = some ⟨oc9, od9, .func (PySem.W.fnOf "check_two" "check_two" (defArgs s_check_two) (defBody s_check_two) (defScope s_check_two) .none kV9 dc9 pm9 an9 cd9 ct9), sl9⟩) (c9 : PySem.W.codeIn K cd9 "check_two" = true) (k9 : PySem.W.keepIn K (.ref f9) = true)
    {f10 : Addr} {od10 an10 : Option Addr} {sl10 : Array (Option Value)} {oc10 kV10 dc10 pm10 cd10 ct10 : Value}
    (a10 : PySem.W.nsIn K mainGlobals "states_within" = some (some (.ref f10))) (l10 : K.lookup f10 = some ⟨oc10, od10, .func (PySem.W.fnOf "states_within" "states_within" (defArgs s_states_within) (defBody s_states_within) (defScope s_states_within) .none kV10 dc10 pm10 an10 cd10 ct10), sl10⟩) (c10 : PySem.W.codeIn K cd10 "states_within" = true) (k10 : PySem.W.keepIn K (.ref f10) = true)
    {f11 : Addr} {od11 an11 : Option Addr} {sl11 : Array (Option Value)} {oc11 kV11 dc11 pm11 cd11 ct11 : Value}
    (a11 : PySem.W.nsIn K mainGlobals "leaps" = some (some (.ref f11))) (l11 : K.lookup f11 = some ⟨oc11, od11, .func (PySem.W.fnOf "leaps" "leaps" (defArgs s_leaps) (defBody s_leaps) (defScope s_leaps) .none kV11 dc11 pm11 an11 cd11 ct11), sl11⟩) (c11 : PySem.W.codeIn K cd11 "leaps" = true) (k11 : PySem.W.keepIn K (.ref f11) = true)
    {f12 : Addr} {od12 an12 : Option Addr} {sl12 : Array (Option Value)} {oc12 kV12 dc12 pm12 cd12 ct12 : Value}
    (a12 : PySem.W.nsIn K mainGlobals "ahead_of_all" = some (some (.ref f12))) (l12 : K.lookup f12 = some ⟨oc12, od12, .func (PySem.W.fnOf "ahead_of_all" "ahead_of_all" (defArgs s_ahead_of_all) (defBody s_ahead_of_all) (defScope s_ahead_of_all) .none kV12 dc12 pm12 an12 cd12 ct12), sl12⟩) (c12 : PySem.W.codeIn K cd12 "ahead_of_all" = true) (k12 : PySem.W.keepIn K (.ref f12) = true)
    {f13 : Addr} {od13 an13 : Option Addr} {sl13 : Array (Option Value)} {oc13 kV13 dc13 pm13 cd13 ct13 : Value}
    (a13 : PySem.W.nsIn K mainGlobals "states_at_next" = some (some (.ref f13))) (l13 : K.lookup f13 = some ⟨oc13, od13, .func (PySem.W.fnOf "states_at_next" "states_at_next" (defArgs s_states_at_next) (defBody s_states_at_next) (defScope s_states_at_next) .none kV13 dc13 pm13 an13 cd13 ct13), sl13⟩) (c13 : PySem.W.codeIn K cd13 "states_at_next" = true) (k13 : PySem.W.keepIn K (.ref f13) = true)
    {f14 : Addr} {od14 an14 : Option Addr} {sl14 : Array (Option Value)} {oc14 kV14 dc14 pm14 cd14 ct14 : Value}
    (a14 : PySem.W.nsIn K mainGlobals "first_films" = some (some (.ref f14))) (l14 : K.lookup f14 = some ⟨oc14, od14, .func (PySem.W.fnOf "first_films" "first_films" (defArgs s_first_films) (defBody s_first_films) (defScope s_first_films) .none kV14 dc14 pm14 an14 cd14 ct14), sl14⟩) (c14 : PySem.W.codeIn K cd14 "first_films" = true) (k14 : PySem.W.keepIn K (.ref f14) = true)
    {f15 : Addr} {od15 an15 : Option Addr} {sl15 : Array (Option Value)} {oc15 kV15 dc15 pm15 cd15 ct15 : Value}
    (a15 : PySem.W.nsIn K mainGlobals "covers" = some (some (.ref f15))) (l15 : K.lookup f15 = some ⟨oc15, od15, .func (PySem.W.fnOf "covers" "covers" (defArgs s_covers) (defBody s_covers) (defScope s_covers) .none kV15 dc15 pm15 an15 cd15 ct15), sl15⟩) (c15 : PySem.W.codeIn K cd15 "covers" = true) (k15 : PySem.W.keepIn K (.ref f15) = true)
    {f16 : Addr} {od16 an16 : Option Addr} {sl16 : Array (Option Value)} {oc16 kV16 dc16 pm16 cd16 ct16 : Value}
    (a16 : PySem.W.nsIn K mainGlobals "parting_film" = some (some (.ref f16))) (l16 : K.lookup f16 = some ⟨oc16, od16, .func (PySem.W.fnOf "parting_film" "parting_film" (defArgs s_parting_film) (defBody s_parting_film) (defScope s_parting_film) .none kV16 dc16 pm16 an16 cd16 ct16), sl16⟩) (c16 : PySem.W.codeIn K cd16 "parting_film" = true) (k16 : PySem.W.keepIn K (.ref f16) = true)
    {f17 : Addr} {od17 an17 : Option Addr} {sl17 : Array (Option Value)} {oc17 kV17 dc17 pm17 cd17 ct17 : Value}
    (a17 : PySem.W.nsIn K mainGlobals "are_same" = some (some (.ref f17))) (l17 : K.lookup f17 = some ⟨oc17, od17, .func (PySem.W.fnOf "are_same" "are_same" (defArgs s_are_same) (defBody s_are_same) (defScope s_are_same) .none kV17 dc17 pm17 an17 cd17 ct17), sl17⟩) (c17 : PySem.W.codeIn K cd17 "are_same" = true) (k17 : PySem.W.keepIn K (.ref f17) = true)
    {f18 : Addr} {od18 an18 : Option Addr} {sl18 : Array (Option Value)} {oc18 kV18 dc18 pm18 cd18 ct18 : Value}
    (a18 : PySem.W.nsIn K mainGlobals "least_gap_alike" = some (some (.ref f18))) (l18 : K.lookup f18 = some ⟨oc18, od18, .func (PySem.W.fnOf "least_gap_alike" "least_gap_alike" (defArgs s_least_gap_alike) (defBody s_least_gap_alike) (defScope s_least_gap_alike) .none kV18 dc18 pm18 an18 cd18 ct18), sl18⟩) (c18 : PySem.W.codeIn K cd18 "least_gap_alike" = true) (k18 : PySem.W.keepIn K (.ref f18) = true)
    {f19 : Addr} {od19 an19 : Option Addr} {sl19 : Array (Option Value)} {oc19 kV19 dc19 pm19 cd19 ct19 : Value}
    (a19 : PySem.W.nsIn K mainGlobals "_law_taken" = some (some (.ref f19))) (l19 : K.lookup f19 = some ⟨oc19, od19, .func (PySem.W.fnOf "_law_taken" "_law_taken" (defArgs s_law_taken) (defBody s_law_taken) (defScope s_law_taken) .none kV19 dc19 pm19 an19 cd19 ct19), sl19⟩) (c19 : PySem.W.codeIn K cd19 "_law_taken" = true) (k19 : PySem.W.keepIn K (.ref f19) = true)
    {f20 : Addr} {od20 an20 : Option Addr} {sl20 : Array (Option Value)} {oc20 kV20 dc20 pm20 cd20 ct20 : Value}
    (a20 : PySem.W.nsIn K mainGlobals "_law_pick" = some (some (.ref f20))) (l20 : K.lookup f20 = some ⟨oc20, od20, .func (PySem.W.fnOf "_law_pick" "_law_pick" (defArgs s_law_pick) (defBody s_law_pick) (defScope s_law_pick) .none kV20 dc20 pm20 an20 cd20 ct20), sl20⟩) (c20 : PySem.W.codeIn K cd20 "_law_pick" = true) (k20 : PySem.W.keepIn K (.ref f20) = true)
    {f21 : Addr} {od21 an21 : Option Addr} {sl21 : Array (Option Value)} {oc21 kV21 dc21 pm21 cd21 ct21 : Value}
    (a21 : PySem.W.nsIn K mainGlobals "_law_alike" = some (some (.ref f21))) (l21 : K.lookup f21 = some ⟨oc21, od21, .func (PySem.W.fnOf "_law_alike" "_law_alike" (defArgs s_law_alike) (defBody s_law_alike) (defScope s_law_alike) .none kV21 dc21 pm21 an21 cd21 ct21), sl21⟩) (c21 : PySem.W.codeIn K cd21 "_law_alike" = true) (k21 : PySem.W.keepIn K (.ref f21) = true)
    {f22 : Addr} {od22 an22 : Option Addr} {sl22 : Array (Option Value)} {oc22 kV22 dc22 pm22 cd22 ct22 : Value}
    (a22 : PySem.W.nsIn K mainGlobals "_law_reel" = some (some (.ref f22))) (l22 : K.lookup f22 = some ⟨oc22, od22, .func (PySem.W.fnOf "_law_reel" "_law_reel" (defArgs s_law_reel) (defBody s_law_reel) (defScope s_law_reel) .none kV22 dc22 pm22 an22 cd22 ct22), sl22⟩) (c22 : PySem.W.codeIn K cd22 "_law_reel" = true) (k22 : PySem.W.keepIn K (.ref f22) = true)
    {f23 : Addr} {od23 an23 : Option Addr} {sl23 : Array (Option Value)} {oc23 kV23 dc23 pm23 cd23 ct23 : Value}
    (a23 : PySem.W.nsIn K mainGlobals "_law_gap" = some (some (.ref f23))) (l23 : K.lookup f23 = some ⟨oc23, od23, .func (PySem.W.fnOf "_law_gap" "_law_gap" (defArgs s_law_gap) (defBody s_law_gap) (defScope s_law_gap) .none kV23 dc23 pm23 an23 cd23 ct23), sl23⟩) (c23 : PySem.W.codeIn K cd23 "_law_gap" = true) (k23 : PySem.W.keepIn K (.ref f23) = true)
    {f24 : Addr} {od24 an24 : Option Addr} {sl24 : Array (Option Value)} {oc24 kV24 dc24 pm24 cd24 ct24 : Value}
    (a24 : PySem.W.nsIn K mainGlobals "_law_beyond" = some (some (.ref f24))) (l24 : K.lookup f24 = some ⟨oc24, od24, .func (PySem.W.fnOf "_law_beyond" "_law_beyond" (defArgs s_law_beyond) (defBody s_law_beyond) (defScope s_law_beyond) .none kV24 dc24 pm24 an24 cd24 ct24), sl24⟩) (c24 : PySem.W.codeIn K cd24 "_law_beyond" = true) (k24 : PySem.W.keepIn K (.ref f24) = true)
    {f25 : Addr} {od25 an25 : Option Addr} {sl25 : Array (Option Value)} {oc25 kV25 dc25 pm25 cd25 ct25 : Value}
    (a25 : PySem.W.nsIn K mainGlobals "_law_within" = some (some (.ref f25))) (l25 : K.lookup f25 = some ⟨oc25, od25, .func (PySem.W.fnOf "_law_within" "_law_within" (defArgs s_law_within) (defBody s_law_within) (defScope s_law_within) .none kV25 dc25 pm25 an25 cd25 ct25), sl25⟩) (c25 : PySem.W.codeIn K cd25 "_law_within" = true) (k25 : PySem.W.keepIn K (.ref f25) = true)
    {f26 : Addr} {od26 an26 : Option Addr} {sl26 : Array (Option Value)} {oc26 kV26 dc26 pm26 cd26 ct26 : Value}
    (a26 : PySem.W.nsIn K mainGlobals "_law_may" = some (some (.ref f26))) (l26 : K.lookup f26 = some ⟨oc26, od26, .func (PySem.W.fnOf "_law_may" "_law_may" (defArgs s_law_may) (defBody s_law_may) (defScope s_law_may) .none kV26 dc26 pm26 an26 cd26 ct26), sl26⟩) (c26 : PySem.W.codeIn K cd26 "_law_may" = true) (k26 : PySem.W.keepIn K (.ref f26) = true)
    {f27 : Addr} {od27 an27 : Option Addr} {sl27 : Array (Option Value)} {oc27 kV27 dc27 pm27 cd27 ct27 : Value}
    (a27 : PySem.W.nsIn K mainGlobals "_law_see" = some (some (.ref f27))) (l27 : K.lookup f27 = some ⟨oc27, od27, .func (PySem.W.fnOf "_law_see" "_law_see" (defArgs s_law_see) (defBody s_law_see) (defScope s_law_see) .none kV27 dc27 pm27 an27 cd27 ct27), sl27⟩) (c27 : PySem.W.codeIn K cd27 "_law_see" = true) (k27 : PySem.W.keepIn K (.ref f27) = true)
    {f28 : Addr} {od28 an28 : Option Addr} {sl28 : Array (Option Value)} {oc28 kV28 dc28 pm28 cd28 ct28 : Value}
    (a28 : PySem.W.nsIn K mainGlobals "_law_stands" = some (some (.ref f28))) (l28 : K.lookup f28 = some ⟨oc28, od28, .func (PySem.W.fnOf "_law_stands" "_law_stands" (defArgs s_law_stands) (defBody s_law_stands) (defScope s_law_stands) .none kV28 dc28 pm28 an28 cd28 ct28), sl28⟩) (c28 : PySem.W.codeIn K cd28 "_law_stands" = true) (k28 : PySem.W.keepIn K (.ref f28) = true)
    {f29 : Addr} {od29 an29 : Option Addr} {sl29 : Array (Option Value)} {oc29 kV29 dc29 pm29 cd29 ct29 : Value}
    (a29 : PySem.W.nsIn K mainGlobals "_law_can" = some (some (.ref f29))) (l29 : K.lookup f29 = some ⟨oc29, od29, .func (PySem.W.fnOf "_law_can" "_law_can" (defArgs s_law_can) (defBody s_law_can) (defScope s_law_can) .none kV29 dc29 pm29 an29 cd29 ct29), sl29⟩) (c29 : PySem.W.codeIn K cd29 "_law_can" = true) (k29 : PySem.W.keepIn K (.ref f29) = true)
    {f30 : Addr} {od30 an30 : Option Addr} {sl30 : Array (Option Value)} {oc30 kV30 dc30 pm30 cd30 ct30 : Value}
    (a30 : PySem.W.nsIn K mainGlobals "_law_all_films" = some (some (.ref f30))) (l30 : K.lookup f30 = some ⟨oc30, od30, .func (PySem.W.fnOf "_law_all_films" "_law_all_films" (defArgs s_law_all_films) (defBody s_law_all_films) (defScope s_law_all_films) .none kV30 dc30 pm30 an30 cd30 ct30), sl30⟩) (c30 : PySem.W.codeIn K cd30 "_law_all_films" = true) (k30 : PySem.W.keepIn K (.ref f30) = true)
    {f31 : Addr} {od31 an31 : Option Addr} {sl31 : Array (Option Value)} {oc31 kV31 dc31 pm31 cd31 ct31 : Value}
    (a31 : PySem.W.nsIn K mainGlobals "_law_pictures" = some (some (.ref f31))) (l31 : K.lookup f31 = some ⟨oc31, od31, .func (PySem.W.fnOf "_law_pictures" "_law_pictures" (defArgs s_law_pictures) (defBody s_law_pictures) (defScope s_law_pictures) .none kV31 dc31 pm31 an31 cd31 ct31), sl31⟩) (c31 : PySem.W.codeIn K cd31 "_law_pictures" = true) (k31 : PySem.W.keepIn K (.ref f31) = true)
    {f32 : Addr} {od32 an32 : Option Addr} {sl32 : Array (Option Value)} {oc32 kV32 dc32 pm32 cd32 ct32 : Value}
    (a32 : PySem.W.nsIn K mainGlobals "_law_is" = some (some (.ref f32))) (l32 : K.lookup f32 = some ⟨oc32, od32, .func (PySem.W.fnOf "_law_is" "_law_is" (defArgs s_law_is) (defBody s_law_is) (defScope s_law_is) .none kV32 dc32 pm32 an32 cd32 ct32), sl32⟩) (c32 : PySem.W.codeIn K cd32 "_law_is" = true) (k32 : PySem.W.keepIn K (.ref f32) = true)
    {f33 : Addr} {od33 an33 : Option Addr} {sl33 : Array (Option Value)} {oc33 kV33 dc33 pm33 cd33 ct33 : Value}
    (a33 : PySem.W.nsIn K mainGlobals "_law_parting" = some (some (.ref f33))) (l33 : K.lookup f33 = some ⟨oc33, od33, .func (PySem.W.fnOf "_law_parting" "_law_parting" (defArgs s_law_parting) (defBody s_law_parting) (defScope s_law_parting) .none kV33 dc33 pm33 an33 cd33 ct33), sl33⟩) (c33 : PySem.W.codeIn K cd33 "_law_parting" = true) (k33 : PySem.W.keepIn K (.ref f33) = true)
    {f34 : Addr} {od34 an34 : Option Addr} {sl34 : Array (Option Value)} {oc34 kV34 dc34 pm34 cd34 ct34 : Value}
    (a34 : PySem.W.nsIn K mainGlobals "law" = some (some (.ref f34))) (l34 : K.lookup f34 = some ⟨oc34, od34, .func (PySem.W.fnOf "law" "law" (defArgs s_law) (defBody s_law) (defScope s_law) .none kV34 dc34 pm34 an34 cd34 ct34), sl34⟩) (c34 : PySem.W.codeIn K cd34 "law" = true) (k34 : PySem.W.keepIn K (.ref f34) = true)
    (z_isinstance : PySem.W.nsIn K mainGlobals "isinstance" = some none)
    (z_int : PySem.W.nsIn K mainGlobals "int" = some none)
    (z_bool : PySem.W.nsIn K mainGlobals "bool" = some none)
    (z_tuple : PySem.W.nsIn K mainGlobals "tuple" = some none)
    (z_len : PySem.W.nsIn K mainGlobals "len" = some none)
    (z_all : PySem.W.nsIn K mainGlobals "all" = some none)
    (z_list : PySem.W.nsIn K mainGlobals "list" = some none)
    (z_sorted : PySem.W.nsIn K mainGlobals "sorted" = some none)
    (z_set : PySem.W.nsIn K mainGlobals "set" = some none)
    (z_range : PySem.W.nsIn K mainGlobals "range" = some none)
    (z_dict : PySem.W.nsIn K mainGlobals "dict" = some none)
    (z_str : PySem.W.nsIn K mainGlobals "str" = some none)
    (z_min : PySem.W.nsIn K mainGlobals "min" = some none)
    {t_LAST_PICTURE : Tok} (q_LAST_PICTURE : PySem.W.nsIn K mainGlobals "LAST_PICTURE" = some (some (.int 99 t_LAST_PICTURE)))
    {t_MOST_FRAMES : Tok} (q_MOST_FRAMES : PySem.W.nsIn K mainGlobals "MOST_FRAMES" = some (some (.int 1000 t_MOST_FRAMES)))
    {t_MOST_STATES : Tok} (q_MOST_STATES : PySem.W.nsIn K mainGlobals "MOST_STATES" = some (some (.int 6 t_MOST_STATES)))
    {t_MOST_GAP : Tok} (q_MOST_GAP : PySem.W.nsIn K mainGlobals "MOST_GAP" = some (some (.int 20 t_MOST_GAP))) :
    ∃ fd : FuncData, (∀ (s : Shared) (v : Value), BindsTo s fd ⟨[v], []⟩ [("script", v)]) ∧ ∀ base : Heap, K.In base → base.Ns mainGlobals mg → FnOk l.prog w K mg base CX0 10 fa fd ["script"] (spLaw K) := by
  have e := hfa.symm.trans (PySem.W.mg_of X G a34)
  cases e
  have F0 := fun_mk (st := s_is_integer) l0 c0 k0
  have b0 := F0.binds (ps := ["value", "low", "high"]) fun _ _ _ _ _ _ us hl => match us, hl with | [_, _, _], _ => rfl
  have m0 := PySem.W.mg_of X G a0
  have F1 := fun_mk (st := s_is_picture) l1 c1 k1
  have b1 := F1.binds (ps := ["value"]) fun _ _ _ _ _ _ us hl => match us, hl with | [_], _ => rfl
  have m1 := PySem.W.mg_of X G a1
  have F2 := fun_mk (st := s_is_film) l2 c2 k2
  have b2 := F2.binds (ps := ["value"]) fun _ _ _ _ _ _ us hl => match us, hl with | [_], _ => rfl
  have m2 := PySem.W.mg_of X G a2
  have F3 := fun_mk (st := s_is_ascending) l3 c3 k3
  have b3 := F3.binds (ps := ["value"]) fun _ _ _ _ _ _ us hl => match us, hl with | [_], _ => rfl
  have m3 := PySem.W.mg_of X G a3
  have F4 := fun_mk (st := s_is_next_row) l4 c4 k4
  have b4 := F4.binds (ps := ["value", "many"]) fun _ _ _ _ _ _ us hl => match us, hl with | [_, _], _ => rfl
  have m4 := PySem.W.mg_of X G a4
  have F5 := fun_mk (st := s_are_nexts) l5 c5 k5
  have b5 := F5.binds (ps := ["value"]) fun _ _ _ _ _ _ us hl => match us, hl with | [_], _ => rfl
  have m5 := PySem.W.mg_of X G a5
  have F6 := fun_mk (st := s_wrong_part) l6 c6 k6
  have b6 := F6.binds (ps := ["value"]) fun _ _ _ _ _ _ us hl => match us, hl with | [_], _ => rfl
  have m6 := PySem.W.mg_of X G a6
  have F7 := fun_mk (st := s_check_reel) l7 c7 k7
  have b7 := F7.binds (ps := ["reel"]) fun _ _ _ _ _ _ us hl => match us, hl with | [_], _ => rfl
  have m7 := PySem.W.mg_of X G a7
  have F8 := fun_mk (st := s_check_gap) l8 c8 k8
  have b8 := F8.binds (ps := ["gap"]) fun _ _ _ _ _ _ us hl => match us, hl with | [_], _ => rfl
  have m8 := PySem.W.mg_of X G a8
  have F9 := fun_mk (st := s_check_two) l9 c9 k9
  have b9 := F9.binds (ps := ["one", "other", "gap"]) fun _ _ _ _ _ _ us hl => match us, hl with | [_, _, _], _ => rfl
  have m9 := PySem.W.mg_of X G a9
  have F10 := fun_mk (st := s_states_within) l10 c10 k10
  have b10 := F10.binds (ps := ["nexts", "states", "gap"]) fun _ _ _ _ _ _ us hl => match us, hl with | [_, _, _], _ => rfl
  have m10 := PySem.W.mg_of X G a10
  have F11 := fun_mk (st := s_leaps) l11 c11 k11
  have b11 := F11.binds (ps := ["reel", "gap"]) fun _ _ _ _ _ _ us hl => match us, hl with | [_, _], _ => rfl
  have m11 := PySem.W.mg_of X G a11
  have F12 := fun_mk (st := s_ahead_of_all) l12 c12 k12
  have b12 := F12.binds (ps := ["reel"]) fun _ _ _ _ _ _ us hl => match us, hl with | [_], _ => rfl
  have m12 := PySem.W.mg_of X G a12
  have F13 := fun_mk (st := s_states_at_next) l13 c13 k13
  have b13 := F13.binds (ps := ["reel", "rows", "states", "picture"]) fun _ _ _ _ _ _ us hl => match us, hl with | [_, _, _, _], _ => rfl
  have m13 := PySem.W.mg_of X G a13
  have F14 := fun_mk (st := s_first_films) l14 c14 k14
  have b14 := F14.binds (ps := ["one", "other", "gap"]) fun _ _ _ _ _ _ us hl => match us, hl with | [_, _, _], _ => rfl
  have m14 := PySem.W.mg_of X G a14
  have F15 := fun_mk (st := s_covers) l15 c15 k15
  have b15 := F15.binds (ps := ["one", "other", "gap"]) fun _ _ _ _ _ _ us hl => match us, hl with | [_, _, _], _ => rfl
  have m15 := PySem.W.mg_of X G a15
  have F16 := fun_mk (st := s_parting_film) l16 c16 k16
  have b16 := F16.binds (ps := ["one", "other", "gap"]) fun _ _ _ _ _ _ us hl => match us, hl with | [_, _, _], _ => rfl
  have m16 := PySem.W.mg_of X G a16
  have F17 := fun_mk (st := s_are_same) l17 c17 k17
  have b17 := F17.binds (ps := ["one", "other", "gap"]) fun _ _ _ _ _ _ us hl => match us, hl with | [_, _, _], _ => rfl
  have m17 := PySem.W.mg_of X G a17
  have F18 := fun_mk (st := s_least_gap_alike) l18 c18 k18
  have b18 := F18.binds (ps := ["one", "other"]) fun _ _ _ _ _ _ us hl => match us, hl with | [_, _], _ => rfl
  have m18 := PySem.W.mg_of X G a18
  have F19 := fun_mk (st := s_law_taken) l19 c19 k19
  have b19 := F19.binds (ps := ["row", "many"]) fun _ _ _ _ _ _ us hl => match us, hl with | [_, _], _ => rfl
  have m19 := PySem.W.mg_of X G a19
  have F20 := fun_mk (st := s_law_pick) l20 c20 k20
  have b20 := F20.binds (ps := ["row", "things"]) fun _ _ _ _ _ _ us hl => match us, hl with | [_, _], _ => rfl
  have m20 := PySem.W.mg_of X G a20
  have F21 := fun_mk (st := s_law_alike) l21 c21 k21
  have b21 := F21.binds (ps := ["found", "due"]) fun _ _ _ _ _ _ us hl => match us, hl with | [_, _], _ => rfl
  have m21 := PySem.W.mg_of X G a21
  have F22 := fun_mk (st := s_law_reel) l22 c22 k22
  have b22 := F22.binds (ps := ["row", "most", "pictures"]) fun _ _ _ _ _ _ us hl => match us, hl with | [_, _, _], _ => rfl
  have m22 := PySem.W.mg_of X G a22
  have F23 := fun_mk (st := s_law_gap) l23 c23 k23
  have b23 := F23.binds (ps := ["row"]) fun _ _ _ _ _ _ us hl => match us, hl with | [_], _ => rfl
  have m23 := PySem.W.mg_of X G a23
  have F24 := fun_mk (st := s_law_beyond) l24 c24 k24
  have b24 := F24.binds (ps := ["reel", "states"]) fun _ _ _ _ _ _ us hl => match us, hl with | [_, _], _ => rfl
  have m24 := PySem.W.mg_of X G a24
  have F25 := fun_mk (st := s_law_within) l25 c25 k25
  have b25 := F25.binds (ps := ["reel", "here", "gap"]) fun _ _ _ _ _ _ us hl => match us, hl with | [_, _, _], _ => rfl
  have m25 := PySem.W.mg_of X G a25
  have F26 := fun_mk (st := s_law_may) l26 c26 k26
  have b26 := F26.binds (ps := ["reel", "gap", "here"]) fun _ _ _ _ _ _ us hl => match us, hl with | [_, _, _], _ => rfl
  have m26 := PySem.W.mg_of X G a26
  have F27 := fun_mk (st := s_law_see) l27 c27 k27
  have b27 := F27.binds (ps := ["reel", "gap", "here", "picture"]) fun _ _ _ _ _ _ us hl => match us, hl with | [_, _, _, _], _ => rfl
  have m27 := PySem.W.mg_of X G a27
  have F28 := fun_mk (st := s_law_stands) l28 c28 k28
  have b28 := F28.binds (ps := ["reel", "gap", "film"]) fun _ _ _ _ _ _ us hl => match us, hl with | [_, _, _], _ => rfl
  have m28 := PySem.W.mg_of X G a28
  have F29 := fun_mk (st := s_law_can) l29 c29 k29
  have b29 := F29.binds (ps := ["reel", "gap", "film"]) fun _ _ _ _ _ _ us hl => match us, hl with | [_, _, _], _ => rfl
  have m29 := PySem.W.mg_of X G a29
  have F30 := fun_mk (st := s_law_all_films) l30 c30 k30
  have b30 := F30.binds (ps := ["pictures", "many"]) fun _ _ _ _ _ _ us hl => match us, hl with | [_, _], _ => rfl
  have m30 := PySem.W.mg_of X G a30
  have F31 := fun_mk (st := s_law_pictures) l31 c31 k31
  have b31 := F31.binds (ps := ["one", "other"]) fun _ _ _ _ _ _ us hl => match us, hl with | [_, _], _ => rfl
  have m31 := PySem.W.mg_of X G a31
  have F32 := fun_mk (st := s_law_is) l32 c32 k32
  have b32 := F32.binds (ps := ["found", "due"]) fun _ _ _ _ _ _ us hl => match us, hl with | [_, _], _ => rfl
  have m32 := PySem.W.mg_of X G a32
  have F33 := fun_mk (st := s_law_parting) l33 c33 k33
  have b33 := F33.binds (ps := ["one", "other", "gap", "is_half"]) fun _ _ _ _ _ _ us hl => match us, hl with | [_, _, _, _], _ => rfl
  have m33 := PySem.W.mg_of X G a33
  have F34 := fun_mk (st := s_law) l34 c34 k34
  have m34 := PySem.W.mg_of X G a34
  have y_isinstance := PySem.W.mg_none_of X G z_isinstance
  have y_int := PySem.W.mg_none_of X G z_int
  have y_bool := PySem.W.mg_none_of X G z_bool
  have y_tuple := PySem.W.mg_none_of X G z_tuple
  have y_len := PySem.W.mg_none_of X G z_len
  have y_all := PySem.W.mg_none_of X G z_all
  have y_list := PySem.W.mg_none_of X G z_list
  have y_sorted := PySem.W.mg_none_of X G z_sorted
  have y_set := PySem.W.mg_none_of X G z_set
  have y_range := PySem.W.mg_none_of X G z_range
  have y_dict := PySem.W.mg_none_of X G z_dict
  have y_str := PySem.W.mg_none_of X G z_str
  have y_min := PySem.W.mg_none_of X G z_min
  have w_LAST_PICTURE := PySem.W.mg_of X G q_LAST_PICTURE
  have w_MOST_FRAMES := PySem.W.mg_of X G q_MOST_FRAMES
  have w_MOST_STATES := PySem.W.mg_of X G q_MOST_STATES
  have w_MOST_GAP := PySem.W.mg_of X G q_MOST_GAP
  refine ⟨PySem.W.fnOf "law" "law" (defArgs s_law) (defBody s_law) (defScope s_law) .none kV34 dc34 pm34 an34 cd34 ct34, fun s v => .of_eq rfl, fun base _ _ => ?_⟩
  have G0 := ok_is_integer (P := l.prog) (w := w) (mg := mg) (base := base) F0 y_isinstance y_int y_bool
  have H0 : Fn l.prog w K mg base 1 "is_integer" ["value", "low", "high"] (sp_is_integer K) f0 _ := ⟨G0, k0, b0, m0⟩
  have G1 := ok_is_picture (P := l.prog) (w := w) (mg := mg) (base := base) F1 w_LAST_PICTURE H0
  have H1 : Fn l.prog w K mg base 2 "is_picture" ["value"] (sp_is_picture K) f1 _ := ⟨G1, k1, b1, m1⟩
  have G2 := ok_is_film (P := l.prog) (w := w) (mg := mg) (base := base) F2 y_isinstance y_tuple y_len y_all w_MOST_FRAMES H1
  have H2 : Fn l.prog w K mg base 3 "is_film" ["value"] (sp_is_film K) f2 _ := ⟨G2, k2, b2, m2⟩
  have G3 := ok_is_ascending (P := l.prog) (w := w) (mg := mg) (base := base) F3 y_list y_sorted y_set
  have H3 : Fn l.prog w K mg base 1 "is_ascending" ["value"] (sp_is_ascending K) f3 _ := ⟨G3, k3, b3, m3⟩
  have G4 := ok_is_next_row (P := l.prog) (w := w) (mg := mg) (base := base) F4 y_isinstance y_tuple y_len y_all H0 H3
  have H4 : Fn l.prog w K mg base 2 "is_next_row" ["value", "many"] (sp_is_next_row K) f4 _ := ⟨G4, k4, b4, m4⟩
  have G5 := ok_are_nexts (P := l.prog) (w := w) (mg := mg) (base := base) F5 y_isinstance y_tuple y_len y_all w_MOST_STATES H4
  have H5 : Fn l.prog w K mg base 3 "are_nexts" ["value"] (sp_are_nexts K) f5 _ := ⟨G5, k5, b5, m5⟩
  have G6 := ok_wrong_part (P := l.prog) (w := w) (mg := mg) (base := base) F6 y_isinstance y_tuple y_len H5 H2
  have H6 : Fn l.prog w K mg base 4 "wrong_part" ["value"] (sp_wrong_part K) f6 _ := ⟨G6, k6, b6, m6⟩
  have G7 := ok_check_reel (P := l.prog) (w := w) (mg := mg) (base := base) F7 H6
  have H7 : Fn l.prog w K mg base 5 "check_reel" ["reel"] (sp_check_reel K) f7 _ := ⟨G7, k7, b7, m7⟩
  have G8 := ok_check_gap (P := l.prog) (w := w) (mg := mg) (base := base) F8 w_MOST_GAP H0
  have H8 : Fn l.prog w K mg base 2 "check_gap" ["gap"] (sp_check_gap K) f8 _ := ⟨G8, k8, b8, m8⟩
  have G9 := ok_check_two (P := l.prog) (w := w) (mg := mg) (base := base) F9 H7 H8
  have H9 : Fn l.prog w K mg base 6 "check_two" ["one", "other", "gap"] (sp_check_two K) f9 _ := ⟨G9, k9, b9, m9⟩
  have G10 := ok_states_within (P := l.prog) (w := w) (mg := mg) (base := base) F10 y_len y_sorted y_range y_set
  have H10 : Fn l.prog w K mg base 1 "states_within" ["nexts", "states", "gap"] (sp_states_within K) f10 _ := ⟨G10, k10, b10, m10⟩
  have G11 := ok_leaps (P := l.prog) (w := w) (mg := mg) (base := base) F11 H10
  have H11 : Fn l.prog w K mg base 2 "leaps" ["reel", "gap"] (sp_leaps K) f11 _ := ⟨G11, k11, b11, m11⟩
  have G12 := ok_ahead_of_all (P := l.prog) (w := w) (mg := mg) (base := base) F12 y_len
  have H12 : Fn l.prog w K mg base 1 "ahead_of_all" ["reel"] (sp_ahead_of_all K) f12 _ := ⟨G12, k12, b12, m12⟩
  have G13 := ok_states_at_next (P := l.prog) (w := w) (mg := mg) (base := base) F13 y_sorted
  have H13 : Fn l.prog w K mg base 1 "states_at_next" ["reel", "rows", "states", "picture"] (sp_states_at_next K) f13 _ := ⟨G13, k13, b13, m13⟩
  have G14 := ok_first_films (P := l.prog) (w := w) (mg := mg) (base := base) F14 y_sorted y_set y_tuple y_len H11 H12 H13
  have H14 : Fn l.prog w K mg base 3 "first_films" ["one", "other", "gap"] (sp_first_films K) f14 _ := ⟨G14, k14, b14, m14⟩
  have G15 := ok_covers (P := l.prog) (w := w) (mg := mg) (base := base) F15 y_len y_all H9 H14
  have H15 : Fn l.prog w K mg base 7 "covers" ["one", "other", "gap"] (sp_covers K) f15 _ := ⟨G15, k15, b15, m15⟩
  have G16 := ok_parting_film (P := l.prog) (w := w) (mg := mg) (base := base) F16 y_len H9 H14
  have H16 : Fn l.prog w K mg base 7 "parting_film" ["one", "other", "gap"] (sp_parting_film K) f16 _ := ⟨G16, k16, b16, m16⟩
  have G17 := ok_are_same (P := l.prog) (w := w) (mg := mg) (base := base) F17 H16
  have H17 : Fn l.prog w K mg base 8 "are_same" ["one", "other", "gap"] (sp_are_same K) f17 _ := ⟨G17, k17, b17, m17⟩
  have G18 := ok_least_gap_alike (P := l.prog) (w := w) (mg := mg) (base := base) F18 H7 H17
  have H18 : Fn l.prog w K mg base 9 "least_gap_alike" ["one", "other"] (sp_least_gap_alike K) f18 _ := ⟨G18, k18, b18, m18⟩
  have G19 := ok_law_taken (P := l.prog) (w := w) (mg := mg) (base := base) F19 y_int y_len
  have H19 : Fn l.prog w K mg base 1 "_law_taken" ["row", "many"] (sp_law_taken K) f19 _ := ⟨G19, k19, b19, m19⟩
  have G20 := ok_law_pick (P := l.prog) (w := w) (mg := mg) (base := base) F20 y_len H19
  have H20 : Fn l.prog w K mg base 2 "_law_pick" ["row", "things"] (sp_law_pick K) f20 _ := ⟨G20, k20, b20, m20⟩
  have G21 := ok_law_alike (P := l.prog) (w := w) (mg := mg) (base := base) F21 y_isinstance y_tuple y_list y_len y_range y_dict y_sorted y_str y_int y_bool k21 b21 m21 8
  have H21 : Fn l.prog w K mg base 9 "_law_alike" ["found", "due"] (sp_law_alike_2 K) f21 _ := ⟨G21, k21, b21, m21⟩
  have G22 := ok_law_reel (P := l.prog) (w := w) (mg := mg) (base := base) F22 y_range y_tuple H19
  have H22 : Fn l.prog w K mg base 2 "_law_reel" ["row", "most", "pictures"] (sp_law_reel_2 K) f22 _ := ⟨G22, k22, b22, m22⟩
  have G23 := ok_law_gap (P := l.prog) (w := w) (mg := mg) (base := base) F23 H20
  have H23 : Fn l.prog w K mg base 3 "_law_gap" ["row"] (sp_law_gap_2 K) f23 _ := ⟨G23, k23, b23, m23⟩
  have G24 := ok_law_beyond (P := l.prog) (w := w) (mg := mg) (base := base) F24 
  have H24 : Fn l.prog w K mg base 1 "_law_beyond" ["reel", "states"] (sp_law_beyond_2 K) f24 _ := ⟨G24, k24, b24, m24⟩
  have G25 := ok_law_within (P := l.prog) (w := w) (mg := mg) (base := base) F25 y_list y_min y_range H24
  have H25 : Fn l.prog w K mg base 2 "_law_within" ["reel", "here", "gap"] (sp_law_within K) f25 _ := ⟨G25, k25, b25, m25⟩
  have G26 := ok_law_may (P := l.prog) (w := w) (mg := mg) (base := base) F26 H25 H24
  have H26 : Fn l.prog w K mg base 3 "_law_may" ["reel", "gap", "here"] (sp_law_may K) f26 _ := ⟨G26, k26, b26, m26⟩
  have G27 := ok_law_see (P := l.prog) (w := w) (mg := mg) (base := base) F27 y_sorted y_tuple H26
  have H27 : Fn l.prog w K mg base 4 "_law_see" ["reel", "gap", "here", "picture"] (sp_law_see K) f27 _ := ⟨G27, k27, b27, m27⟩
  have G28 := ok_law_stands (P := l.prog) (w := w) (mg := mg) (base := base) F28 H27
  have H28 : Fn l.prog w K mg base 5 "_law_stands" ["reel", "gap", "film"] (sp_law_stands_2 K) f28 _ := ⟨G28, k28, b28, m28⟩
  have G29 := ok_law_can (P := l.prog) (w := w) (mg := mg) (base := base) F29 H28
  have H29 : Fn l.prog w K mg base 6 "_law_can" ["reel", "gap", "film"] (sp_law_can K) f29 _ := ⟨G29, k29, b29, m29⟩
  have G30 := ok_law_all_films (P := l.prog) (w := w) (mg := mg) (base := base) F30 y_range
  have H30 : Fn l.prog w K mg base 1 "_law_all_films" ["pictures", "many"] (sp_law_all_films K) f30 _ := ⟨G30, k30, b30, m30⟩
  have G31 := ok_law_pictures (P := l.prog) (w := w) (mg := mg) (base := base) F31 y_sorted y_set
  have H31 : Fn l.prog w K mg base 1 "_law_pictures" ["one", "other"] (sp_law_pictures K) f31 _ := ⟨G31, k31, b31, m31⟩
  have G32 := ok_law_is (P := l.prog) (w := w) (mg := mg) (base := base) F32 y_isinstance y_bool
  have H32 : Fn l.prog w K mg base 1 "_law_is" ["found", "due"] (sp_law_is K) f32 _ := ⟨G32, k32, b32, m32⟩
  have G33 := ok_law_parting (P := l.prog) (w := w) (mg := mg) (base := base) F33 H31 H27
  have H33 : Fn l.prog w K mg base 5 "_law_parting" ["one", "other", "gap", "is_half"] (sp_law_parting K) f33 _ := ⟨G33, k33, b33, m33⟩
  have G34 := ok_law (P := l.prog) (w := w) (mg := mg) (base := base) F34 y_len y_sorted y_set y_tuple y_range y_list H22 H23 H19 H33 H21 H16 H32 H17 H15 H30 H31 H29 H18
  exact law_sp G34
end K62
open PySem PySem.W PyProof.Rows
set_option maxHeartbeats 0 in
theorem PySem.Challenge.cw_dropframes_k62_whole_sames_holds : PySem.Challenge.rw_dropframes_k62_whole_sames.Holds := by
  w_on; o_law; k_head; (case hw => w_witness2)
  k_fill
  refine L2.walk_of (l := PySem.Challenge.rw_dropframes_k62_whole_sames) (n := 63) (k := 10) (x := "script") (CX := fun _ => L2.CX0) (sp := fun w => K62.spLaw _) rfl (by decide) rfl ⟨rfl, by decide, by decide⟩ (fun w h Y => PySem.W.kIn_of Y) ?F (fun _ _ a ns hl _ hS => ⟨a, ns, rfl, hS, hl, fun _ => rfl⟩) (fun _ _ _ _ _ h => h)
  case F =>
    intro w mg fa h KX G hmg
    refine' K62.all_mk KX G hmg ?a0 ?l0 ?c0 ?k0 ?a1 ?l1 ?c1 ?k1 ?a2 ?l2 ?c2 ?k2 ?a3 ?l3 ?c3 ?k3 ?a4 ?l4 ?c4 ?k4 ?a5 ?l5 ?c5 ?k5 ?a6 ?l6 ?c6 ?k6 ?a7 ?l7 ?c7 ?k7 ?a8 ?l8 ?c8 ?k8 ?a9 ?l9 ?c9 ?k9 ?a10 ?l10 ?c10 ?k10 ?a11 ?l11 ?c11 ?k11 ?a12 ?l12 ?c12 ?k12 ?a13 ?l13 ?c13 ?k13 ?a14 ?l14 ?c14 ?k14 ?a15 ?l15 ?c15 ?k15 ?a16 ?l16 ?c16 ?k16 ?a17 ?l17 ?c17 ?k17 ?a18 ?l18 ?c18 ?k18 ?a19 ?l19 ?c19 ?k19 ?a20 ?l20 ?c20 ?k20 ?a21 ?l21 ?c21 ?k21 ?a22 ?l22 ?c22 ?k22 ?a23 ?l23 ?c23 ?k23 ?a24 ?l24 ?c24 ?k24 ?a25 ?l25 ?c25 ?k25 ?a26 ?l26 ?c26 ?k26 ?a27 ?l27 ?c27 ?k27 ?a28 ?l28 ?c28 ?k28 ?a29 ?l29 ?c29 ?k29 ?a30 ?l30 ?c30 ?k30 ?a31 ?l31 ?c31 ?k31 ?a32 ?l32 ?c32 ?k32 ?a33 ?l33 ?c33 ?k33 ?a34 ?l34 ?c34 ?k34 ?z_isinstance ?z_int ?z_bool ?z_tuple ?z_len ?z_all ?z_list ?z_sorted ?z_set ?z_range ?z_dict ?z_str ?z_min ?q_LAST_PICTURE ?q_MOST_FRAMES ?q_MOST_STATES ?q_MOST_GAP
    (case a0 => k_is); (case l0 => k_is); (case c0 => k_is); (case k0 => k_is); (case a1 => k_is); (case l1 => k_is); (case c1 => k_is); (case k1 => k_is); (case a2 => k_is); (case l2 => k_is); (case c2 => k_is); (case k2 => k_is); (case a3 => k_is); (case l3 => k_is); (case c3 => k_is); (case k3 => k_is); (case a4 => k_is); (case l4 => k_is); (case c4 => k_is); (case k4 => k_is); (case a5 => k_is); (case l5 => k_is); (case c5 => k_is); (case k5 => k_is); (case a6 => k_is); (case l6 => k_is); (case c6 => k_is); (case k6 => k_is); (case a7 => k_is); (case l7 => k_is); (case c7 => k_is); (case k7 => k_is); (case a8 => k_is); (case l8 => k_is); (case c8 => k_is); (case k8 => k_is); (case a9 => k_is); (case l9 => k_is); (case c9 => k_is); (case k9 => k_is); (case a10 => k_is); (case l10 => k_is); (case c10 => k_is); (case k10 => k_is); (case a11 => k_is); (case l11 => k_is); (case c11 => k_is); (case k11 => k_is); (case a12 => k_is); (case l12 => k_is); (case c12 => k_is); (case k12 => k_is); (case a13 => k_is); (case l13 => k_is); (case c13 => k_is); (case k13 => k_is); (case a14 => k_is); (case l14 => k_is); (case c14 => k_is); (case k14 => k_is); (case a15 => k_is); (case l15 => k_is); (case c15 => k_is); (case k15 => k_is); (case a16 => k_is); (case l16 => k_is); (case c16 => k_is); (case k16 => k_is); (case a17 => k_is); (case l17 => k_is); (case c17 => k_is); (case k17 => k_is); (case a18 => k_is); (case l18 => k_is); (case c18 => k_is); (case k18 => k_is); (case a19 => k_is); (case l19 => k_is); (case c19 => k_is); (case k19 => k_is); (case a20 => k_is); (case l20 => k_is); (case c20 => k_is); (case k20 => k_is); (case a21 => k_is); (case l21 => k_is); (case c21 => k_is); (case k21 => k_is); (case a22 => k_is); (case l22 => k_is); (case c22 => k_is); (case k22 => k_is); (case a23 => k_is); (case l23 => k_is); (case c23 => k_is); (case k23 => k_is); (case a24 => k_is); (case l24 => k_is); (case c24 => k_is); (case k24 => k_is); (case a25 => k_is); (case l25 => k_is); (case c25 => k_is); (case k25 => k_is); (case a26 => k_is); (case l26 => k_is); (case c26 => k_is); (case k26 => k_is); (case a27 => k_is); (case l27 => k_is); (case c27 => k_is); (case k27 => k_is); (case a28 => k_is); (case l28 => k_is); (case c28 => k_is); (case k28 => k_is); (case a29 => k_is); (case l29 => k_is); (case c29 => k_is); (case k29 => k_is); (case a30 => k_is); (case l30 => k_is); (case c30 => k_is); (case k30 => k_is); (case a31 => k_is); (case l31 => k_is); (case c31 => k_is); (case k31 => k_is); (case a32 => k_is); (case l32 => k_is); (case c32 => k_is); (case k32 => k_is); (case a33 => k_is); (case l33 => k_is); (case c33 => k_is); (case k33 => k_is); (case a34 => k_is); (case l34 => k_is); (case c34 => k_is); (case k34 => k_is); (case z_isinstance => k_is); (case z_int => k_is); (case z_bool => k_is); (case z_tuple => k_is); (case z_len => k_is); (case z_all => k_is); (case z_list => k_is); (case z_sorted => k_is); (case z_set => k_is); (case z_range => k_is); (case z_dict => k_is); (case z_str => k_is); (case z_min => k_is); (case q_LAST_PICTURE => k_is); (case q_MOST_FRAMES => k_is); (case q_MOST_STATES => k_is); (case q_MOST_GAP => k_is)
