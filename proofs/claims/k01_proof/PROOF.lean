import PyProof.Rows.All
import HandS.ForMost
import HandS.SortInts
import HandS.Strs
import HandS.SetFor
import KE.GoesSet
import PyProof.TupleOfSeq
import KE.GoesNew
import KE.GoesEnum
import KE.GoesMore
import HandS.IsInst
import HandS.Small
import HandS.More
import HandS.Style
import HandS.TupAny
import PySem.Challenge.RW_dropframes_k01_whole_films
set_option Elab.async false
set_option linter.all false
set_option maxRecDepth 100000
set_option maxHeartbeats 2000000
/-! A layer of data over the hand layer: what an expression, a statement, a block does, told by plain data (PyData) by slot. -/
namespace DL
open PySem PySem.Spec PyProof.Rows L2

abbrev D := PyData
/-! ### data that stands -/
section
variable {K : PySem.W.Frag} {H H' : Hp}
theorem rd_mono (e : Same H H') {a : Addr} {o : HO} (h : Rd H a o) : Rd H' a o := by
  rcases h with h | ⟨u, h⟩
  · exact .inl (e _ _ h)
  · exact .inr ⟨u, e _ _ h⟩
theorem sqL_mono (e : Same H H') {a : Addr} {xs : List V} (h : SqL K H a xs) : SqL K H' a xs := by
  rcases h with h | h
  · exact .inl (rd_mono e h)
  · exact .inr h
theorem sqT_mono (e : Same H H') {a : Addr} {xs : List V} (h : H a = some (.tup xs)) : SqT K H' a xs := .of (e _ _ h)
/-- what stands for the script: a list that is read alone -/
def scrD (ds : List D) : D := .dict [(.none, .none), (.none, .list ds)]
/-- a key as data -/
def kD0 : L2.Key → D
  | .inl i => .int i
  | .inr x => .str x
/-- a dict by tuples, as data -/
abbrev dctD (es : List (D × D)) : D := .dict ((.bool true, .none) :: es)
mutual
inductive Rp (K : PySem.W.Frag) (H : Hp) : V → D → Prop
  | non : Rp K H .non .none
  | bl (b : Bool) : Rp K H (.bl b) (.bool b)
  | int (i : Int) : Rp K H (.int i) (.int i)
  | str (x : Str) : Rp K H (.str x) (.str x)
  | lst {a : Addr} {xs : List V} {ds : List D} : H a = some (.lst xs) → Rps K H xs ds → Rp K H (.ref a) (.list ds)
  | tup {a : Addr} {xs : List V} {ds : List D} : H a = some (.tup xs) → Rps K H xs ds → Rp K H (.ref a) (.tuple ds)
  | scr {a : Addr} {xs : List V} {ds : List D} : SqL K H a xs → Rps K H xs ds → Rp K H (.ref a) (.dict [(.none, .none), (.none, .list ds)])
  | dct {a : Addr} {o : Obj} {vvs : List (List L2.Key × V)} {es : List (D × D)} : H a = some (.frz o (.dT vvs)) → es.map (·.1) = vvs.map (fun p => PyData.tuple (p.1.map kD0)) → Rps K H (vvs.map (·.2)) (es.map (·.2)) → Rp K H (.ref a) (.dict ((.bool true, .none) :: es))
inductive Rps (K : PySem.W.Frag) (H : Hp) : List V → List D → Prop
  | nil : Rps K H [] []
  | cons {v : V} {vs : List V} {d : D} {ds : List D} : Rp K H v d → Rps K H vs ds → Rps K H (v :: vs) (d :: ds)
end
mutual
theorem rp_mono0 (e : Same H H') : ∀ {v : V} {d : D}, Rp K H v d → Rp K H' v d
  | _, _, .non => .non
  | _, _, .bl b => .bl b
  | _, _, .int i => .int i
  | _, _, .str x => .str x
  | _, _, .lst hs ha => .lst (e _ _ hs) (rps_mono0 e ha)
  | _, _, .tup hs ha => .tup (e _ _ hs) (rps_mono0 e ha)
  | _, _, .scr hs ha => .scr (sqL_mono e hs) (rps_mono0 e ha)
  | _, _, .dct hs hk ha => .dct (e _ _ hs) hk (rps_mono0 e ha)
theorem rps_mono0 (e : Same H H') : ∀ {vs : List V} {ds : List D}, Rps K H vs ds → Rps K H' vs ds
  | _, _, .nil => .nil
  | _, _, .cons h1 h2 => .cons (rp_mono0 e h1) (rps_mono0 e h2)
end
theorem rp_mono (e : Same H H') (d : D) (v : V) (h : Rp K H v d) : Rp K H' v d := rp_mono0 e h
theorem rps_mono (e : Same H H') (ds : List D) (vs : List V) (h : Rps K H vs ds) : Rps K H' vs ds := rps_mono0 e h
mutual
theorem rp_dp : ∀ (d : D) (v : V), Rp K H v d → PyData.canLay0 d = true → Dp K H v d
  | .none, _, h, _ => by cases h; exact .non
  | .bool b, _, h, _ => by cases h; exact .bl b
  | .int i, _, h, _ => by cases h; exact .int i
  | .str x, _, h, _ => by cases h; exact .str x
  | .list ds, _, h, c => by
    cases h with
    | lst hs ha => exact .lst (.of hs) (rps_dp ds _ ha (by simpa only [PyData.canLay0] using c))
  | .tuple ds, _, h, c => by
    cases h with
    | tup hs ha => exact .tup (.of hs) (rps_dp ds _ ha (by simpa only [PyData.canLay0] using c))
  | .dict _, _, h, c => by simp only [PyData.canLay0] at c; cases c
theorem rps_dp : ∀ (ds : List D) (vs : List V), Rps K H vs ds → PyData.canLayAll0 ds = true → DpAll K H vs ds
  | [], _, h, _ => by cases h; exact .nil
  | d :: ds, _, h, c => by
    cases h with
    | cons h1 h2 =>
      have c' : PyData.canLay0 d = true ∧ PyData.canLayAll0 ds = true := by simpa only [PyData.canLayAll0, Bool.and_eq_true] using c
      exact .cons (rp_dp d _ h1 c'.1) (rps_dp ds _ h2 c'.2)
end
theorem Rps.length : ∀ {ds : List D} {vs : List V}, Rps K H vs ds → vs.length = ds.length
  | [], _, h => by cases h; rfl
  | d :: ds, _, h => by
    cases h with
    | cons h1 h2 => simp [Rps.length h2]
theorem Rps.get : ∀ {ds : List D} {vs : List V}, Rps K H vs ds → ∀ {i : Nat} {d : D}, ds[i]? = some d → ∃ v, vs[i]? = some v ∧ Rp K H v d
  | [], _, h, i, d, e => by simp at e
  | d :: ds, _, h, 0, d', e => by
    cases h with
    | cons h1 h2 => simp at e; subst e; exact ⟨_, rfl, h1⟩
  | d :: ds, _, h, i + 1, d', e => by
    cases h with
    | cons h1 h2 =>
      obtain ⟨v, e1, e2⟩ := Rps.get h2 (i := i) (d := d') (by simpa using e)
      exact ⟨v, by simpa using e1, e2⟩
theorem Rps.getV : ∀ {ds : List D} {vs : List V}, Rps K H vs ds → ∀ {i : Nat} {v : V}, vs[i]? = some v → ∃ d, ds[i]? = some d ∧ Rp K H v d
  | [], _, h, i, v, e => by cases h; simp at e
  | d :: ds, _, h, 0, v, e => by
    cases h with
    | cons h1 h2 => simp at e; subst e; exact ⟨_, rfl, h1⟩
  | d :: ds, _, h, i + 1, v, e => by
    cases h with
    | cons h1 h2 =>
      obtain ⟨d', e1, e2⟩ := Rps.getV h2 (i := i) (v := v) (by simpa using e)
      exact ⟨d', by simpa using e1, e2⟩
theorem Rps.append : ∀ {ds es : List D} {vs ws : List V}, Rps K H vs ds → Rps K H ws es → Rps K H (vs ++ ws) (ds ++ es)
  | [], _, _, _, h, q => by cases h; exact q
  | d :: ds, _, _, _, h, q => by
    cases h with
    | cons h1 h2 => exact .cons h1 (Rps.append h2 q)
theorem Rps.set : ∀ {ds : List D} {vs : List V} {v : V} {d : D}, Rps K H vs ds → Rp K H v d → ∀ i, Rps K H (vs.set i v) (ds.set i d)
  | [], _, _, _, h, q, _ => by cases h; exact .nil
  | d :: ds, _, _, _, h, q, 0 => by
    cases h with
    | cons h1 h2 => exact .cons q h2
  | d :: ds, _, _, _, h, q, i + 1 => by
    cases h with
    | cons h1 h2 => exact .cons h1 (Rps.set h2 q i)
theorem Rps.take : ∀ {ds : List D} {vs : List V}, Rps K H vs ds → ∀ n, Rps K H (vs.take n) (ds.take n)
  | _, _, _, 0 => .nil
  | [], _, h, n + 1 => by cases h; exact .nil
  | d :: ds, _, h, n + 1 => by
    cases h with
    | cons h1 h2 => exact .cons h1 (Rps.take h2 n)
theorem Rps.drop : ∀ {ds : List D} {vs : List V}, Rps K H vs ds → ∀ n, Rps K H (vs.drop n) (ds.drop n)
  | _, _, h, 0 => h
  | [], _, h, n + 1 => by cases h; exact .nil
  | d :: ds, _, h, n + 1 => by
    cases h with
    | cons h1 h2 => exact Rps.drop h2 n
theorem Rps.ints : ∀ {ns : List Int} {vs : List V}, Rps K H vs (ns.map .int) → vs = ns.map V.int
  | [], _, h => by cases h; rfl
  | n :: ns, _, h => by
    cases h with
    | cons h1 h2 =>
      cases h1
      rw [Rps.ints h2]
      rfl
theorem Rps.of_ints : ∀ (ns : List Int), Rps K H (ns.map V.int) (ns.map .int)
  | [] => .nil
  | n :: ns => .cons (.int n) (Rps.of_ints ns)
theorem Rps.bools : ∀ {ns : List Bool} {vs : List V}, Rps K H vs (ns.map .bool) → vs = ns.map V.bl
  | [], _, h => by cases h; rfl
  | n :: ns, _, h => by
    cases h with
    | cons h1 h2 =>
      cases h1
      rw [Rps.bools h2]
      rfl
end

/-! ### slots -/
/-- what is known of a slot: nothing; it holds data that never changes; a list of one's own (it may be changed; o: made here, b: lent by the caller) -/
inductive Own where
  | l (xs : List D)
  | k (kvs : List (L2.Key × D))
  | t (kvs : List (List L2.Key × D))
inductive Sl where
  | u
  | d (x : D)
  | o (xs : List D)
  | b (a : Addr) (xs : List D)
  | m (kvs : List (L2.Key × D))
  | t (kvs : List (List L2.Key × D))
/-- what an object of one's own is -/
def Own.At (K : PySem.W.Frag) (F : Hp) (ho : HO) : Own → Prop
  | .l xs => ∃ vs, ho = .lst vs ∧ Rps K F vs xs
  | .k kvs => ∃ vvs : List (L2.Key × V), ho = .dK vvs ∧ vvs.map (·.1) = kvs.map (·.1) ∧ Rps K F (vvs.map (·.2)) (kvs.map (·.2))
  | .t kvs => ∃ vvs : List (List L2.Key × V), ho = .dT vvs ∧ vvs.map (·.1) = kvs.map (·.1) ∧ Rps K F (vvs.map (·.2)) (kvs.map (·.2))
theorem Own.At.mono {K : PySem.W.Frag} {F F' : Hp} {ho : HO} (f : Same F F') : ∀ {w : Own}, w.At K F ho → w.At K F' ho
  | .l _, ⟨vs, e, r⟩ => ⟨vs, e, rps_mono f _ _ r⟩
  | .k _, ⟨vs, e, q, r⟩ => ⟨vs, e, q, rps_mono f _ _ r⟩
  | .t _, ⟨vs, e, q, r⟩ => ⟨vs, e, q, rps_mono f _ _ r⟩
theorem Own.At.mut {K : PySem.W.Frag} {F : Hp} {ho : HO} : ∀ {w : Own}, w.At K F ho → Mut (some ho)
  | .l _, ⟨_, e, _⟩ => by rw [e]; exact True.intro
  | .k _, ⟨_, e, _⟩ => by rw [e]; exact True.intro
  | .t _, ⟨_, e, _⟩ => by rw [e]; exact True.intro
theorem mut_up {G H : Hp} {b : Addr} (h : Same G H) (m : Mut (G b)) : Mut (H b) := by
  cases e : G b with
  | none => rw [e] at m; exact m.elim
  | some o => rw [h b o e]; rw [e] at m; exact m
theorem mut_ne {H : Hp} {b p : Addr} (hp : H p = none) (m : Mut (H b)) : b ≠ p := fun z => by
  rw [z, hp] at m
  exact m
def Sl.has : Sl → Option Own
  | .o xs => some (.l xs)
  | .b _ xs => some (.l xs)
  | .m kvs => some (.k kvs)
  | .t kvs => some (.t kvs)
  | _ => none
def Sl.own : Sl → Option (List D)
  | .o xs => some xs
  | .b _ xs => some xs
  | _ => none
def Sl.put (xs : List D) : Sl → Sl
  | .b a _ => .b a xs
  | _ => .o xs
theorem Sl.put_own (xs : List D) (s : Sl) : (s.put xs).own = some xs := by cases s <;> rfl
theorem Sl.put_has (xs : List D) (s : Sl) : (s.put xs).has = some (.l xs) := by cases s <;> rfl
theorem Sl.own_has {s : Sl} {xs : List D} (h : s.own = some xs) : s.has = some (.l xs) := by
  cases s <;> first | (cases h; rfl) | cases h
/-- entry's tracked things: G (kept), F₀ (what of them was data); now: F (data), H -/
structure Ok (K : PySem.W.Frag) (F0 G F H : Hp) (σ : L2.St) (ρ : List Sl) : Prop where
  len : σ.length = ρ.length
  fh : Same F H
  gh : Same G H
  g0 : ∀ b, Mut (G b) → F b = F0 b
  dat : ∀ (i : Nat) (x : D), ρ[i]? = some (Sl.d x) → ∃ v, σ[i]? = some (some v) ∧ Rp K F v x
  bor : ∀ (i : Nat) (a : Addr) (xs : List D), ρ[i]? = some (Sl.b a xs) → σ[i]? = some (some (V.ref a))
  has : ∀ (i : Nat) (s : Sl) (xs : Own), ρ[i]? = some s → s.has = some xs → ∃ a ho, σ[i]? = some (some (.ref a)) ∧ H a = some ho ∧ F a = none ∧ G a = none ∧ xs.At K F ho
  djh : ∀ (i j : Nat) (s t : Sl) (xs ys : Own) (a : Addr), ρ[i]? = some s → s.has = some xs → ρ[j]? = some t → t.has = some ys → σ[i]? = some (some (.ref a)) → σ[j]? = some (some (.ref a)) → i = j
theorem Ok.own {K : PySem.W.Frag} {F0 G F H : Hp} {σ : L2.St} {ρ : List Sl} (k : Ok K F0 G F H σ ρ) (i : Nat) (s : Sl) (xs : List D) (h1 : ρ[i]? = some s) (h2 : s.own = some xs) : ∃ a vs, σ[i]? = some (some (.ref a)) ∧ H a = some (.lst vs) ∧ F a = none ∧ G a = none ∧ Rps K F vs xs := by
  obtain ⟨a, ho, q1, q2, q3, q4, vs, rfl, q5⟩ := k.has i s _ h1 (Sl.own_has h2)
  exact ⟨a, vs, q1, q2, q3, q4, q5⟩
section
variable {K : PySem.W.Frag} {F0 G F H F' H' : Hp} {σ : L2.St} {ρ : List Sl}
/-- nothing but new things: data, and others -/
theorem Ok.grow (k : Ok K F0 G F H σ ρ) (f : Same F F') (h : Same H H') (fh : Same F' H') (new : ∀ b, Mut (H b) → F' b = F b) : Ok K F0 G F' H' σ ρ where
  len := k.len
  fh := fh
  gh := k.gh.trans h
  g0 := fun b hb => by rw [new b (mut_up k.gh hb), k.g0 b hb]
  dat := fun i x e => by
    obtain ⟨v, e1, e2⟩ := k.dat i x e
    exact ⟨v, e1, rp_mono f _ _ e2⟩
  bor := k.bor
  has := fun i s xs e1 e2 => by
    obtain ⟨a, vs, q1, q2, q3, q4, q5⟩ := k.has i s xs e1 e2
    exact ⟨a, vs, q1, h _ _ q2, by rw [new a (by rw [q2]; exact q5.mut), q3], q4, q5.mono f⟩
  djh := k.djh
theorem Ok.same (k : Ok K F0 G F H σ ρ) (h : Same H H') : Ok K F0 G F H' σ ρ := k.grow (Same.refl F) h (k.fh.trans h) fun _ _ => rfl
/-- a new object that is data -/
theorem Ok.laid {p : Addr} {o : HO} (k : Ok K F0 G F H σ ρ) (hp : H p = none) : Ok K F0 G (upd F p o) (upd H p o) σ ρ ∧ Same F (upd F p o) := by
  have fp : F p = none := by
    cases e : F p with
    | none => rfl
    | some u => rw [k.fh p u e] at hp; cases hp
  have s1 : Same F (upd F p o) := fun b u e => by
    rw [upd_ne (ne_of_none e fp)]
    exact e
  have s2 : Same H (upd H p o) := fun b u e => by
    rw [upd_ne (ne_of_none e hp)]
    exact e
  refine ⟨k.grow s1 s2 (fun b u e => ?_) fun b hb => ?_, s1⟩
  · by_cases hbp : b = p
    · subst hbp
      rw [upd_same] at e ⊢
      exact e
    · rw [upd_ne hbp] at e ⊢
      exact k.fh b u e
  · rw [upd_ne (mut_ne hp hb)]
/-- a new object that is none's yet -/
theorem Ok.loose {p : Addr} {o : HO} (k : Ok K F0 G F H σ ρ) (hp : H p = none) : Ok K F0 G F (upd H p o) σ ρ := k.same fun b u e => by
  rw [upd_ne (ne_of_none e hp)]
  exact e
end

/-! ### readings that say no more than the run itself -/
def cE (X : Cx) (e : Expr) : TE := fun σ H Q => ∀ (pins : List (Addr × Obj)) (s : Shared), Inv X pins σ H s → wpAny (model X.prog X.w) X.A (eval e X.env) (EP X pins σ Q) X.xe s
def cT (X : Cx) (e : Expr) : TT := fun σ H Q => ∀ (pins : List (Addr × Obj)) (s : Shared), Inv X pins σ H s → wpAny (model X.prog X.w) X.A (isTrue e X.env (eval e X.env)) (TP X pins σ Q) X.xe s
def cS (X : Cx) (st : Stmt) : TS := fun Dn σ H => ∀ (pins : List (Addr × Obj)) (s : Shared), Inv X pins σ H s → wpAny (model X.prog X.w) X.A (exec st X.env) (SP X pins Dn) X.xe s
def cSs (X : Cx) (st : List Stmt) : TS := fun Dn σ H => ∀ (pins : List (Addr × Obj)) (s : Shared), Inv X pins σ H s → wpAny (model X.prog X.w) X.A (execs st X.env) (SP X pins Dn) X.xe s
def cI (X : Cx) (tg iter : Expr) : TI := fun σ H R => ∀ (pins : List (Addr × Obj)) (s : Shared), Inv X pins σ H s → wpAny (model X.prog X.w) X.A (eval iter X.env) (fun v s1 => wpAny (model X.prog X.w) X.A (pyIter v) (PIE X pins σ tg R) X.xe s1) X.xe s
def cG (X : Cx) (tg : Expr) : TG := fun v σ H Q => ∀ (pins : List (Addr × Obj)) (s : Shared) (u : Value), Inv X pins σ H s → RelV v u → wpAny (model X.prog X.w) X.A (assign tg X.env u) (fun _ s' => ∃ σ' H', Inv X pins σ' H' s' ∧ Q σ' H') X.xe s
def cA (X : Cx) (es : List Expr) : TA := fun σ H Q => ∀ (pos : Pos) (pins : List (Addr × Obj)) (s : Shared), Inv X pins σ H s → wpAny (model X.prog X.w) X.A (spliced (backTo pos (starEach es X.env))) (AP X pins σ Q) X.xe s
section
variable {X : Cx}
theorem pcE (e : Expr) : PE X e (cE X e) := ⟨fun pins s _ _ _ I h => h pins s I⟩
theorem pcT (e : Expr) : PT X e (cT X e) := ⟨fun pins s _ _ _ I h => h pins s I⟩
theorem pcS (e : Stmt) : PS X e (cS X e) := ⟨fun pins s _ _ _ I h => h pins s I⟩
theorem pcSs (e : List Stmt) : PSs X e (cSs X e) := ⟨fun pins s _ _ _ I h => h pins s I⟩
theorem pcI (tg e : Expr) : PI X tg e (cI X tg e) := ⟨fun pins s _ _ _ I h => h pins s I⟩
theorem pcG (tg : Expr) : PG X tg (cG X tg) := ⟨fun pins s _ _ _ u _ I r h => h pins s u I r⟩
theorem pcA (es : List Expr) : PA X es (cA X es) := ⟨fun pos pins s _ _ _ I h => h pos pins s I⟩
end

/-! ### the judgements -/
/-- the expression gives the data d; the slots behind it are ρ' -/
def XE (X : Cx) (e : Expr) (ρ : List Sl) (d : D) (ρ' : List Sl) : Prop := ∀ (F0 G F H : Hp) (σ : L2.St), Ok X.K F0 G F H σ ρ → ∀ Q : VK,
  (∀ v F' H', Ok X.K F0 G F' H' σ ρ' → Same F F' → Rp X.K F' v d → Q v H') → cE X e σ H Q
/-- the expression gives a new list of one's own -/
def XO (X : Cx) (e : Expr) (ρ : List Sl) (xs : List D) (ρ' : List Sl) : Prop := ∀ (F0 G F H : Hp) (σ : L2.St), Ok X.K F0 G F H σ ρ → ∀ Q : VK,
  (∀ p vs F' H', Ok X.K F0 G F' H' σ ρ' → Same F F' → H' p = some (.lst vs) → F' p = none → G p = none → (∀ (i : Nat) (s : Sl) (ys : Own), ρ'[i]? = some s → s.has = some ys → σ[i]? ≠ some (some (V.ref p))) → Rps X.K F' vs xs → Q (.ref p) H') → cE X e σ H Q
def XT (X : Cx) (e : Expr) (ρ : List Sl) (b : Bool) (ρ' : List Sl) : Prop := ∀ (F0 G F H : Hp) (σ : L2.St), Ok X.K F0 G F H σ ρ → ∀ Q : Bool → Hp → Prop,
  (∀ F' H', Ok X.K F0 G F' H' σ ρ' → Same F F' → Q b H') → cT X e σ H Q
def XA (X : Cx) (es : List Expr) (ρ : List Sl) (ds : List D) (ρ' : List Sl) : Prop := ∀ (F0 G F H : Hp) (σ : L2.St), Ok X.K F0 G F H σ ρ → ∀ Q : List V → Hp → Prop,
  (∀ vs F' H', Ok X.K F0 G F' H' σ ρ' → Same F F' → Rps X.K F' vs ds → Q vs H') → cA X es σ H Q
inductive Out where
  | nx (ρ : List Sl)
  | rt (d : D) (ρ : List Sl)
  | bk (ρ : List Sl)
  | ct (ρ : List Sl)
/-- where an end is met -/
def Out.At (K : PySem.W.Frag) (F0 G F : Hp) (Dn : Ends) : Out → Prop
  | .nx ρ' => ∀ σ' F' H', Ok K F0 G F' H' σ' ρ' → Same F F' → Dn.nx σ' H'
  | .rt d ρ' => ∀ v σ' F' H', Ok K F0 G F' H' σ' ρ' → Same F F' → Rp K F' v d → Dn.rt v H'
  | .bk ρ' => ∀ σ' F' H', Ok K F0 G F' H' σ' ρ' → Same F F' → Dn.bk σ' H'
  | .ct ρ' => ∀ σ' F' H', Ok K F0 G F' H' σ' ρ' → Same F F' → Dn.ct σ' H'
def XS (X : Cx) (st : Stmt) (ρ : List Sl) (o : Out) : Prop := ∀ (F0 G F H : Hp) (σ : L2.St), Ok X.K F0 G F H σ ρ → ∀ Dn : Ends, o.At X.K F0 G F Dn → cS X st Dn σ H
def XSs (X : Cx) (st : List Stmt) (ρ : List Sl) (o : Out) : Prop := ∀ (F0 G F H : Hp) (σ : L2.St), Ok X.K F0 G F H σ ρ → ∀ Dn : Ends, o.At X.K F0 G F Dn → cSs X st Dn σ H
end DL
set_option Elab.async false
set_option linter.all false
set_option maxRecDepth 100000
set_option maxHeartbeats 2000000
namespace DL
open PySem PySem.Spec PyProof.Rows L2
/-- what a call may do: new things, data or none's -/
structure Gr (F H F' H' : Hp) : Prop where
  f : Same F F'
  h : Same H H'
  fh : Same F' H'
  new : ∀ b, Mut (H b) → F' b = F b
theorem Gr.refl {F H : Hp} (fh : Same F H) : Gr F H F H := ⟨Same.refl _, Same.refl _, fh, fun _ _ => rfl⟩
theorem Gr.laid {F H : Hp} {p : Addr} {o : HO} (fh : Same F H) (hp : H p = none) : Gr F H (upd F p o) (upd H p o) := by
  have fp : F p = none := by
    cases e : F p with
    | none => rfl
    | some u => rw [fh p u e] at hp; cases hp
  refine ⟨fun b u e => ?_, fun b u e => ?_, fun b u e => ?_, fun b hb => ?_⟩
  · rw [upd_ne (ne_of_none e fp)]; exact e
  · rw [upd_ne (ne_of_none e hp)]; exact e
  · by_cases hbp : b = p
    · subst hbp; rw [upd_same] at e ⊢; exact e
    · rw [upd_ne hbp] at e ⊢; exact fh b u e
  · rw [upd_ne (mut_ne hp hb)]
theorem Gr.loose {F H : Hp} {p : Addr} {o : HO} (fh : Same F H) (hp : H p = none) : Gr F H F (upd H p o) := by
  have s : Same H (upd H p o) := fun b u e => by
    rw [upd_ne (ne_of_none e hp)]; exact e
  exact ⟨Same.refl _, s, fh.trans s, fun _ _ => rfl⟩
theorem Gr.trans {F H F1 H1 F2 H2 : Hp} (a : Gr F H F1 H1) (b : Gr F1 H1 F2 H2) : Gr F H F2 H2 :=
  ⟨a.f.trans b.f, a.h.trans b.h, b.fh, fun c hc => by
    rw [b.new c (mut_up a.h hc), a.new c hc]⟩
theorem Ok.gr {K : PySem.W.Frag} {F0 G F H F' H' : Hp} {σ : L2.St} {ρ : List Sl} (k : Ok K F0 G F H σ ρ) (g : Gr F H F' H') : Ok K F0 G F' H' σ ρ := k.grow g.f g.h g.fh g.new
section
variable {X : Cx} {e a b c : Expr} {es : List Expr} {ρ ρ1 ρ2 ρ3 : List Sl} {d x y z : D} {ds : List D} {pos : Pos} {i j : Int}
theorem XE.of {te : TE} (h : PE X e te) (t : ∀ (F0 G F H : Hp) (σ : L2.St), Ok X.K F0 G F H σ ρ → ∀ Q : VK, (∀ v F' H', Ok X.K F0 G F' H' σ ρ1 → Same F F' → Rp X.K F' v d → Q v H') → te σ H Q) : XE X e ρ d ρ1 :=
  fun F0 G F H σ k Q q pins s I => h.run pins s σ H Q I (t F0 G F H σ k Q q)
theorem XT.of {bb : Bool} {tt : TT} (h : PT X e tt) (t : ∀ (F0 G F H : Hp) (σ : L2.St), Ok X.K F0 G F H σ ρ → ∀ Q : Bool → Hp → Prop, (∀ F' H', Ok X.K F0 G F' H' σ ρ1 → Same F F' → Q bb H') → tt σ H Q) : XT X e ρ bb ρ1 :=
  fun F0 G F H σ k Q q pins s I => h.run pins s σ H Q I (t F0 G F H σ k Q q)
theorem XS.of {st : Stmt} {o : Out} {ts : TS} (h : PS X st ts) (t : ∀ (F0 G F H : Hp) (σ : L2.St), Ok X.K F0 G F H σ ρ → ∀ Dn : Ends, o.At X.K F0 G F Dn → ts Dn σ H) : XS X st ρ o :=
  fun F0 G F H σ k Dn q pins s I => h.run pins s σ H Dn I (t F0 G F H σ k Dn q)
theorem XSs.of {st : List Stmt} {o : Out} {ts : TS} (h : PSs X st ts) (t : ∀ (F0 G F H : Hp) (σ : L2.St), Ok X.K F0 G F H σ ρ → ∀ Dn : Ends, o.At X.K F0 G F Dn → ts Dn σ H) : XSs X st ρ o :=
  fun F0 G F H σ k Dn q pins s I => h.run pins s σ H Dn I (t F0 G F H σ k Dn q)
theorem XE.is (h : XE X e ρ d ρ1) (q : d = x) : XE X e ρ x ρ1 := by rw [← q]; exact h
theorem XT.is {b1 b2 : Bool} (h : XT X e ρ b1 ρ1) (q : b1 = b2) : XT X e ρ b2 ρ1 := by rw [← q]; exact h

/-! ### names, constants -/
theorem xe_var (n : Nat) {nm : Str} (hr : ρ[n]? = some (Sl.d x) := by rfl) (hN : X.N[n]? = some nm := by rfl) (hv : Vis X.env.scope nm := by first | exact Or.inl rfl | exact Or.inr (Or.inl rfl) | exact Or.inr (Or.inr rfl))
    (hd : (nm == ("__debug__" : Str)) = false := by decide) (hcd : (nm == ("__classdict__" : Str)) = false := by decide) : XE X (.Name nm pos) ρ x ρ :=
  .of (pe_var hN hv hd hcd) fun F0 G F H σ k Q q => by
    obtain ⟨v, e1, e2⟩ := k.dat n x hr
    exact ⟨v, e1, q v F H k (Same.refl _) e2⟩
/-- a list of one's own, read as a whole: from now on it is data -/
theorem xe_varO (n : Nat) {nm : Str} {xs : List D} (hr : ρ[n]? = some (Sl.o xs) := by rfl) (hN : X.N[n]? = some nm := by rfl) (hv : Vis X.env.scope nm := by first | exact Or.inl rfl | exact Or.inr (Or.inl rfl) | exact Or.inr (Or.inr rfl))
    (hd : (nm == ("__debug__" : Str)) = false := by decide) (hcd : (nm == ("__classdict__" : Str)) = false := by decide) : XE X (.Name nm pos) ρ (.list xs) (ρ.set n (.d (.list xs))) :=
  .of (pe_var hN hv hd hcd) fun F0 G F H σ k Q q => by
    obtain ⟨p, vs, e1, e2, e3, e4, e5⟩ := k.own n _ xs hr rfl
    refine ⟨.ref p, e1, ?_⟩
    have s1 : Same F (upd F p (.lst vs)) := fun b u e => by rw [upd_ne (ne_of_none e e3)]; exact e
    have hn : n < ρ.length := (List.getElem?_eq_some_iff.mp hr).1
    refine q (.ref p) (upd F p (.lst vs)) H ⟨by rw [List.length_set]; exact k.len, fun b u e => ?_, k.gh, fun b hb => ?_, fun i y h => ?_, fun i a' ys h => ?_, fun i s ys h1 h2 => ?_, fun i j s t ys zs a h1 h2 h3 h4 => ?_⟩ s1 (.lst upd_same (rps_mono s1 _ _ e5))
    · by_cases hbp : b = p
      · subst hbp; rw [upd_same] at e; cases e; exact e2
      · rw [upd_ne hbp] at e; exact k.fh b u e
    · rw [upd_ne (mut_ne e4 hb)]; exact k.g0 b hb
    · by_cases hi : i = n
      · subst hi
        rw [List.getElem?_set_self hn] at h
        cases h
        exact ⟨.ref p, e1, .lst upd_same (rps_mono s1 _ _ e5)⟩
      · rw [List.getElem?_set_ne (Ne.symm hi)] at h
        obtain ⟨v, q1, q2⟩ := k.dat i y h
        exact ⟨v, q1, rp_mono s1 _ _ q2⟩
    · by_cases hi : i = n
      · subst hi
        rw [List.getElem?_set_self hn] at h
        cases h
      · rw [List.getElem?_set_ne (Ne.symm hi)] at h
        exact k.bor i a' ys h
    · by_cases hi : i = n
      · subst hi
        rw [List.getElem?_set_self hn] at h1
        cases h1
        cases h2
      · rw [List.getElem?_set_ne (Ne.symm hi)] at h1
        obtain ⟨a, ws, q1, q2, q3, q4, q5⟩ := k.has i s ys h1 h2
        have hap : a ≠ p := fun z => hi (k.djh i n s (.o xs) ys (.l xs) p h1 h2 hr rfl (by rw [q1, z]) e1)
        exact ⟨a, ws, q1, q2, by rw [upd_ne hap]; exact q3, q4, q5.mono s1⟩
    · by_cases hi : i = n
      · subst hi
        rw [List.getElem?_set_self hn] at h1
        cases h1; cases h2
      · by_cases hj : j = n
        · subst hj
          rw [List.getElem?_set_self hn] at h3
          cases h3; cases h4
        · rw [List.getElem?_set_ne (Ne.symm hi)] at h1
          rw [List.getElem?_set_ne (Ne.symm hj)] at h3
          exact k.djh i j s t ys zs a h1 h2 h3 h4
theorem xe_int {n : Nat} : XE X (.Constant (.int i) n pos) ρ (.int i) ρ := .of pe_int fun F0 G F H σ k Q q => q _ F H k (Same.refl _) (.int i)
theorem xe_bl {n : Nat} {k : Bool} : XE X (.Constant (.bool k) n pos) ρ (.bool k) ρ := .of pe_bl fun F0 G F H σ k' Q q => q _ F H k' (Same.refl _) (.bl k)
theorem xe_none {n : Nat} : XE X (.Constant .none n pos) ρ .none ρ := .of pe_non fun F0 G F H σ k Q q => q _ F H k (Same.refl _) .non
theorem xe_str {n : Nat} {s : Str} : XE X (.Constant (.str s) n pos) ρ (.str s) ρ := .of pe_str fun F0 G F H σ k Q q => q _ F H k (Same.refl _) (.str s)
theorem xe_globI {nm : Str} {t : Tok} (hg : Gl X nm) (hm : X.mg nm = some (.int i t)) (hd : (nm == ("__debug__" : Str)) = false := by decide) : XE X (.Name nm pos) ρ (.int i) ρ :=
  .of (pe_glob (v := .int i) hg hm ⟨t, rfl⟩ hd) fun F0 G F H σ k Q q => q _ F H k (Same.refl _) (.int i)

/-! ### operators by values -/
/-- what a two-place operation gives, nothing changed -/
def BR (X : Cx) (f : Value → Value → Sem Value) (x y z : D) : Prop := ∃ r : R2, OpR X f r ∧ ∀ (F H : Hp) (v w : V) (Q : VK), Same F H → Rp X.K F v x → Rp X.K F w y → (∀ u F' H', Gr F H F' H' → Rp X.K F' u z → Q u H') → r v w H Q
/-- .. a new list -/
def BRO (X : Cx) (f : Value → Value → Sem Value) (x y : D) (zs : List D) : Prop := ∃ r : R2, OpR X f r ∧ ∀ (F H : Hp) (v w : V) (Q : VK), Same F H → Rp X.K F v x → Rp X.K F w y → (∀ p vs, H p = none → Rps X.K F vs zs → Q (.ref p) (upd H p (.lst vs))) → r v w H Q
theorem BRO.br {f : Value → Value → Sem Value} {zs : List D} (h : BRO X f x y zs) : BR X f x y (.list zs) := by
  obtain ⟨r, o, g⟩ := h
  exact ⟨r, o, fun F H v w Q fh h1 h2 q => g F H v w Q fh h1 h2 fun p vs hp dv => by
    have gr : Gr F H (upd F p (.lst vs)) (upd H p (.lst vs)) := .laid fh hp
    exact q _ _ _ gr (.lst upd_same (rps_mono gr.f _ _ dv))⟩
/-- ints -/
theorem br_I {f : Value → Value → Sem Value} {C : Int → Int → Prop} {g : Int → Int → Int} (o : OpR X f (rI C fun i j => .int (g i j))) (hc : C i j) : BR X f (.int i) (.int j) (.int (g i j)) :=
  ⟨_, o, fun F H v w Q fh h1 h2 q => by
    cases h1; cases h2
    exact ⟨i, j, rfl, rfl, hc, q _ F H (.refl fh) (.int _)⟩⟩
theorem br_I0 {f : Value → Value → Sem Value} {g : Int → Int → Int} (o : OpR X f (rI0 fun i j => .int (g i j))) : BR X f (.int i) (.int j) (.int (g i j)) :=
  ⟨_, o, fun F H v w Q fh h1 h2 q => by
    cases h1; cases h2
    exact ⟨i, j, rfl, rfl, q _ F H (.refl fh) (.int _)⟩⟩
theorem br_B0 {f : Value → Value → Sem Value} {g : Int → Int → Bool} (o : OpR X f (rI0 fun i j => .bl (g i j))) : BR X f (.int i) (.int j) (.bool (g i j)) :=
  ⟨_, o, fun F H v w Q fh h1 h2 q => by
    cases h1; cases h2
    exact ⟨i, j, rfl, rfl, q _ F H (.refl fh) (.bl _)⟩⟩
theorem br_add : BR X (binaryOp .Add) (.int i) (.int j) (.int (i + j)) := br_I0 op_add
theorem br_sub : BR X (binaryOp .Sub) (.int i) (.int j) (.int (i - j)) := br_I0 op_sub
theorem br_mul (h : CMul i j) : BR X (binaryOp .Mult) (.int i) (.int j) (.int (i * j)) := br_I op_mul h
theorem br_fdiv (h : CDiv i j) : BR X (binaryOp .FloorDiv) (.int i) (.int j) (.int (i / j)) := br_I op_fdiv h
theorem br_mod (h : 0 < j) : BR X (binaryOp .Mod) (.int i) (.int j) (.int (i % j)) := br_I op_mod h
theorem br_pow (h : CPow i j) : BR X (binaryOp .Pow) (.int i) (.int j) (.int (i ^ j.toNat)) := br_I op_pow h
theorem br_lt : BR X (compareOp .Lt) (.int i) (.int j) (.bool (decide (i < j))) := br_B0 op_lt
theorem br_le : BR X (compareOp .LtE) (.int i) (.int j) (.bool (decide (i ≤ j))) := br_B0 op_le
theorem br_gt : BR X (compareOp .Gt) (.int i) (.int j) (.bool (decide (j < i))) := br_B0 op_gt
theorem br_ge : BR X (compareOp .GtE) (.int i) (.int j) (.bool (decide (j ≤ i))) := br_B0 op_ge
theorem dp_fun {K : PySem.W.Frag} {F : Hp} {v : V} (h : Rp K F v (.int i)) : v = .int i := by cases h; rfl
theorem br_eqI : BR X (compareOp .Eq) (.int i) (.int j) (.bool (decide (i = j))) :=
  ⟨_, op_eq, fun F H v w Q fh h1 h2 q => by
    cases h1; cases h2
    refine ⟨rfl, ?_⟩
    have e : decide (V.int i = V.int j) = decide (i = j) := by rw [dec_int, Bool.beq_eq_decide_eq]
    rw [e]
    exact q _ F H (.refl fh) (.bl _)⟩
theorem br_neI : BR X (compareOp .NotEq) (.int i) (.int j) (.bool (!decide (i = j))) :=
  ⟨_, op_ne, fun F H v w Q fh h1 h2 q => by
    cases h1; cases h2
    refine ⟨rfl, ?_⟩
    have e : decide (V.int i = V.int j) = decide (i = j) := by rw [dec_int, Bool.beq_eq_decide_eq]
    rw [e]
    exact q _ F H (.refl fh) (.bl _)⟩
theorem br_eqB {i j : Bool} : BR X (compareOp .Eq) (.bool i) (.bool j) (.bool (i == j)) :=
  ⟨_, op_eq, fun F H v w Q fh h1 h2 q => by
    cases h1; cases h2
    refine ⟨rfl, ?_⟩
    rw [dec_bl]
    exact q _ F H (.refl fh) (.bl _)⟩
theorem br_neB {i j : Bool} : BR X (compareOp .NotEq) (.bool i) (.bool j) (.bool (!(i == j))) :=
  ⟨_, op_ne, fun F H v w Q fh h1 h2 q => by
    cases h1; cases h2
    refine ⟨rfl, ?_⟩
    rw [dec_bl]
    exact q _ F H (.refl fh) (.bl _)⟩
/-- == of data of any form -/
theorem br_eqD (hu : X.A.units + 64 < cLine) (sx : SeqAt.shaped x = true) (sy : SeqAt.shaped y = true) : BR X (compareOp .Eq) x y (.bool (PyData.eqv x y)) :=
  ⟨_, op_eqD hu, fun F H v w Q fh h1 h2 q => ⟨x, y, rp_dp _ _ (rp_mono fh _ _ h1) (SeqAt.canLay_of_shaped sx), rp_dp _ _ (rp_mono fh _ _ h2) (SeqAt.canLay_of_shaped sy), sx, sy, q _ F H (.refl fh) (.bl _)⟩⟩
theorem br_neD (hu : X.A.units + 64 < cLine) (sx : SeqAt.shaped x = true) (sy : SeqAt.shaped y = true) : BR X (compareOp .NotEq) x y (.bool (!PyData.eqv x y)) :=
  ⟨_, op_neD hu, fun F H v w Q fh h1 h2 q => ⟨x, y, rp_dp _ _ (rp_mono fh _ _ h1) (SeqAt.canLay_of_shaped sx), rp_dp _ _ (rp_mono fh _ _ h2) (SeqAt.canLay_of_shaped sy), sx, sy, q _ F H (.refl fh) (.bl _)⟩⟩
def isNo : D → Bool
  | .none => true
  | _ => false
theorem dp_no {K : PySem.W.Frag} {F : Hp} {v : V} (h : Rp K F v x) : decide (v = V.non) = isNo x := by
  cases h <;> first | rfl | exact decide_eq_true rfl | exact decide_eq_false (fun z => by cases z)
theorem br_isN : BR X (compareOp .Is) x .none (.bool (isNo x)) :=
  ⟨_, op_isN, fun F H v w Q fh h1 h2 q => by
    cases h2
    exact ⟨rfl, by rw [dp_no h1]; exact q _ F H (.refl fh) (.bl _)⟩⟩
theorem br_notN : BR X (compareOp .IsNot) x .none (.bool (!isNo x)) :=
  ⟨_, op_notN, fun F H v w Q fh h1 h2 q => by
    cases h2
    exact ⟨rfl, by rw [dp_no h1]; exact q _ F H (.refl fh) (.bl _)⟩⟩
/-- lists glued -/
theorem bro_cat {xs ys : List D} (hz : xs.length + ys.length ≤ 1000000) : BRO X (binaryOp .Add) (.list xs) (.list ys) (xs ++ ys) :=
  ⟨_, op_cat, fun F H v w Q fh h1 h2 q => by
    cases h1 with
    | lst s1 a1 =>
      cases h2 with
      | lst s2 a2 =>
        refine ⟨_, _, _, _, rfl, rfl, fh _ _ s1, fh _ _ s2, ?_, fun p hp => q p _ hp (Rps.append a1 a2)⟩
        rw [Rps.length a1, Rps.length a2]
        exact Nat.le_trans hz (by decide)⟩

theorem xe_op {op : Operator} (h : BR X (binaryOp op) x y z) (ha : XE X a ρ x ρ1) (hb : XE X b ρ1 y ρ2) : XE X (.BinOp a op b pos) ρ z ρ2 := by
  obtain ⟨r, o, g⟩ := h
  exact .of (pe_op o (pcE a) (pcE b)) fun F0 G F H σ k Q q => ha F0 G F H σ k _ fun v F1 H1 k1 f1 d1 => hb F0 G F1 H1 σ k1 _ fun w F2 H2 k2 f2 d2 =>
    g F2 H2 v w Q k2.fh (rp_mono f2 _ _ d1) d2 fun u F3 H3 gr d3 => q u F3 H3 (k2.gr gr) ((f1.trans f2).trans gr.f) d3
theorem xe_un {i : Int} (ha : XE X a ρ (.int i) ρ1) : XE X (.UnaryOp .USub a pos) ρ (.int (-i)) ρ1 :=
  .of (pe_un un_neg (pcE a)) fun F0 G F H σ k Q q => ha F0 G F H σ k _ fun v F1 H1 k1 f1 d1 => ⟨i, dp_fun d1, q _ F1 H1 k1 f1 (.int _)⟩
theorem xe_cmp {op : CmpOp} (h : BR X (compareOp op) x y z) (ha : XE X a ρ x ρ1) (hb : XE X b ρ1 y ρ2) (hm : behindInMarks op b = false := by exact nomark _) : XE X (.Compare a [op] [b] pos) ρ z ρ2 := by
  obtain ⟨r, o, g⟩ := h
  exact .of (pe_cmpR o (pcE a) (pcE b) hm) fun F0 G F H σ k Q q => ha F0 G F H σ k _ fun v F1 H1 k1 f1 d1 => hb F0 G F1 H1 σ k1 _ fun w F2 H2 k2 f2 d2 =>
    g F2 H2 v w Q k2.fh (rp_mono f2 _ _ d1) d2 fun u F3 H3 gr d3 => q u F3 H3 (k2.gr gr) ((f1.trans f2).trans gr.f) d3
theorem xt_cmp {op : CmpOp} {bb : Bool} (h : BR X (compareOp op) x y (.bool bb)) (ha : XE X a ρ x ρ1) (hb : XE X b ρ1 y ρ2) (hm : behindInMarks op b = false := by exact nomark _) : XT X (.Compare a [op] [b] pos) ρ bb ρ2 := by
  obtain ⟨r, o, g⟩ := h
  exact .of (pt_cmpR o (pcE a) (pcE b) hm) fun F0 G F H σ k Q q => ha F0 G F H σ k _ fun v F1 H1 k1 f1 d1 => hb F0 G F1 H1 σ k1 _ fun w F2 H2 k2 f2 d2 =>
    g F2 H2 v w _ k2.fh (rp_mono f2 _ _ d1) d2 fun u F3 H3 gr d3 => by
      cases d3
      exact ⟨bb, rfl, q F3 H3 (k2.gr gr) ((f1.trans f2).trans gr.f)⟩
/-- a < b < c over plain things -/
theorem xe_chain {op op' : CmpOp} {k1 k2 : Bool} (h : BR X (compareOp op) x y (.bool k1)) (h' : BR X (compareOp op') y z (.bool k2)) (ha : XE X a ρ x ρ1) (hb : XE X b ρ1 y ρ2) (hc : XE X c ρ2 z ρ2) (hm2 : lastMarks [op, op'] [b, c] = false := by with_unfolding_all rfl) :
    XE X (.Compare a [op, op'] [b, c] pos) ρ (.bool (k1 && k2)) ρ2 := by
  obtain ⟨r, o, g⟩ := h
  obtain ⟨r', o', g'⟩ := h'
  exact .of (pe_chain o o' (pcE a) (pcE b) (pcE c) hm2) fun F0 G F H σ k Q q => ha F0 G F H σ k _ fun v F1 H1 kk1 f1 d1 => hb F0 G F1 H1 σ kk1 _ fun w F2 H2 kk2 f2 d2 =>
    g F2 H2 v w _ kk2.fh (rp_mono f2 _ _ d1) d2 fun u F3 H3 gr d3 => by
      cases d3
      refine ⟨k1, rfl, ?_⟩
      cases k1 with
      | true =>
        rw [if_pos rfl]
        refine hc F0 G F3 H3 σ (kk2.gr gr) _ fun u F4 H4 kk4 f4 d4 => ?_
        exact g' F4 H4 w u Q kk4.fh (rp_mono (gr.f.trans f4) _ _ d2) d4 fun u F5 H5 gr5 d5 => q u F5 H5 (kk4.gr gr5) ((((f1.trans f2).trans gr.f).trans f4).trans gr5.f) d5
      | false =>
        rw [if_neg Bool.false_ne_true]
        exact q _ F3 H3 (kk2.gr gr) ((f1.trans f2).trans gr.f) (.bl _)
/-! ### truth -/
theorem xt_val {bb : Bool} (h : XE X e ρ (.bool bb) ρ1) (he : ∀ whole, isTrue e X.env whole = (do let v ← whole; standAt e.pos; holding [v] (truthy v)) := by intro _; rfl) : XT X e ρ bb ρ1 :=
  .of (pt_val (pcE e) he) fun F0 G F H σ k Q q => h F0 G F H σ k _ fun v F1 H1 k1 f1 d1 => by
    cases d1
    exact ⟨bb, rfl, q F1 H1 k1 f1⟩
theorem xt_not {bb : Bool} (h : XT X a ρ bb ρ1) : XT X (.UnaryOp .Not a pos) ρ (!bb) ρ1 :=
  .of (pt_not (pcT a)) fun F0 G F H σ k Q q => h F0 G F H σ k _ fun F1 H1 k1 f1 => q F1 H1 k1 f1
theorem xe_not {bb : Bool} (h : XE X a ρ (.bool bb) ρ1) : XE X (.UnaryOp .Not a pos) ρ (.bool (!bb)) ρ1 :=
  .of (pe_not (pcE a)) fun F0 G F H σ k Q q => h F0 G F H σ k _ fun v F1 H1 k1 f1 d1 => by
    cases d1
    exact ⟨bb, rfl, q _ F1 H1 k1 f1 (.bl _)⟩
/-- and, or as tests: the slots stay (ρ1) whichever way -/
theorem xt_and {b1 b2 : Bool} (h1 : XT X a ρ b1 ρ1) (h2 : b1 = true → XT X b ρ1 b2 ρ2) (h3 : b1 = false → ρ2 = ρ1) : XT X (.BoolOp .And [a, b] pos) ρ (b1 && b2) ρ2 :=
  .of (PW.pt (pw_and (pcT a) (pw_and1 (pcT b)))) fun F0 G F H σ k Q q => h1 F0 G F H σ k _ fun F1 H1 k1 f1 => by
    cases b1 with
    | true =>
      rw [if_pos rfl]
      exact h2 rfl F0 G F1 H1 σ k1 _ fun F2 H2 k2 f2 => q F2 H2 k2 (f1.trans f2)
    | false =>
      rw [if_neg Bool.false_ne_true]
      exact q F1 H1 (by rw [h3 rfl]; exact k1) f1
theorem xt_or {b1 b2 : Bool} (h1 : XT X a ρ b1 ρ1) (h2 : b1 = false → XT X b ρ1 b2 ρ2) (h3 : b1 = true → ρ2 = ρ1) : XT X (.BoolOp .Or [a, b] pos) ρ (b1 || b2) ρ2 :=
  .of (PW.pt (pw_or (pcT a) (pw_or1 (pcT b)))) fun F0 G F H σ k Q q => h1 F0 G F H σ k _ fun F1 H1 k1 f1 => by
    cases b1 with
    | false =>
      rw [if_neg Bool.false_ne_true]
      exact h2 rfl F0 G F1 H1 σ k1 _ fun F2 H2 k2 f2 => q F2 H2 k2 (f1.trans f2)
    | true =>
      rw [if_pos rfl]
      exact q F1 H1 (by rw [h3 rfl]; exact k1) f1
theorem xe_one {op : BoolOp} (h : XE X a ρ x ρ1) : XE X (.BoolOp op [a] pos) ρ x ρ1 := .of (pe_one (pcE a)) fun F0 G F H σ k Q q => h F0 G F H σ k Q q
theorem xe_and {b1 : Bool} {rest : List Expr} (h1 : XE X a ρ (.bool b1) ρ1) (h2 : b1 = true → XE X (.BoolOp .And (b :: rest) pos) ρ1 z ρ2) (h3 : b1 = false → ρ2 = ρ1 ∧ z = .bool false) : XE X (.BoolOp .And (a :: b :: rest) pos) ρ z ρ2 :=
  .of (pe_and (pcE a) (pcE _)) fun F0 G F H σ k Q q => h1 F0 G F H σ k _ fun v F1 H1 k1 f1 d1 => by
    cases d1
    refine ⟨b1, rfl, ?_⟩
    cases b1 with
    | true =>
      rw [if_pos rfl]
      exact h2 rfl F0 G F1 H1 σ k1 _ fun v F2 H2 k2 f2 => q v F2 H2 k2 (f1.trans f2)
    | false =>
      rw [if_neg Bool.false_ne_true]
      exact q _ F1 H1 (by rw [(h3 rfl).1]; exact k1) f1 (by rw [(h3 rfl).2]; exact .bl _)
theorem xe_or {b1 : Bool} {rest : List Expr} (h1 : XE X a ρ (.bool b1) ρ1) (h2 : b1 = false → XE X (.BoolOp .Or (b :: rest) pos) ρ1 z ρ2) (h3 : b1 = true → ρ2 = ρ1 ∧ z = .bool true) : XE X (.BoolOp .Or (a :: b :: rest) pos) ρ z ρ2 :=
  .of (pe_or (pcE a) (pcE _)) fun F0 G F H σ k Q q => h1 F0 G F H σ k _ fun v F1 H1 k1 f1 d1 => by
    cases d1
    refine ⟨b1, rfl, ?_⟩
    cases b1 with
    | false =>
      rw [if_neg Bool.false_ne_true]
      exact h2 rfl F0 G F1 H1 σ k1 _ fun v F2 H2 k2 f2 => q v F2 H2 k2 (f1.trans f2)
    | true =>
      rw [if_pos rfl]
      exact q _ F1 H1 (by rw [(h3 rfl).1]; exact k1) f1 (by rw [(h3 rfl).2]; exact .bl _)
theorem xe_if {bb : Bool} (hc : XT X c ρ bb ρ1) (h1 : bb = true → XE X a ρ1 z ρ2) (h2 : bb = false → XE X b ρ1 z ρ2) : XE X (.IfExp c a b pos) ρ z ρ2 :=
  .of (pe_ifExp (pcT c) (pcE a) (pcE b)) fun F0 G F H σ k Q q => hc F0 G F H σ k _ fun F1 H1 k1 f1 => by
    cases bb with
    | true =>
      rw [if_pos rfl]
      exact h1 rfl F0 G F1 H1 σ k1 _ fun v F2 H2 k2 f2 => q v F2 H2 k2 (f1.trans f2)
    | false =>
      rw [if_neg Bool.false_ne_true]
      exact h2 rfl F0 G F1 H1 σ k1 _ fun v F2 H2 k2 f2 => q v F2 H2 k2 (f1.trans f2)
/-! ### argument lists, displays -/
theorem XA.of {ta : TA} (h : PA X es ta) (t : ∀ (F0 G F H : Hp) (σ : L2.St), Ok X.K F0 G F H σ ρ → ∀ Q : List V → Hp → Prop, (∀ vs F' H', Ok X.K F0 G F' H' σ ρ1 → Same F F' → Rps X.K F' vs ds → Q vs H') → ta σ H Q) : XA X es ρ ds ρ1 :=
  fun F0 G F H σ k Q q pos pins s I => h.run pos pins s σ H Q I (t F0 G F H σ k Q q)
theorem xa_nil : XA X [] ρ [] ρ := .of pa_nil fun F0 G F H σ k Q q => q [] F H k (Same.refl _) .nil
theorem xa_cons (h : XE X e ρ x ρ1) (t : XA X es ρ1 ds ρ2) (hs : starEach (e :: es) X.env = (false, eval e X.env) :: starEach es X.env := by rfl) : XA X (e :: es) ρ (x :: ds) ρ2 :=
  .of (pa_cons (pcE e) (pcA es) hs) fun F0 G F H σ k Q q => h F0 G F H σ k _ fun v F1 H1 k1 f1 d1 => t F0 G F1 H1 σ k1 _ fun vs F2 H2 k2 f2 d2 =>
    q (v :: vs) F2 H2 k2 (f1.trans f2) (.cons (rp_mono f2 _ _ d1) d2)
theorem XO.of {xs : List D} {te : TE} (h : PE X e te) (t : ∀ (F0 G F H : Hp) (σ : L2.St), Ok X.K F0 G F H σ ρ → ∀ Q : VK, (∀ p vs F1 H1, Ok X.K F0 G F1 H1 σ ρ1 → Same F F1 → H1 p = none → Rps X.K F1 vs xs → Q (.ref p) (upd H1 p (.lst vs))) → te σ H Q) : XO X e ρ xs ρ1 :=
  fun F0 G F H σ k Q q pins s I => h.run pins s σ H Q I (t F0 G F H σ k Q fun p vs F1 H1 k1 f1 hp dv => by
    refine q p vs F1 _ (k1.loose hp) f1 upd_same ?_ ?_ (fun i s ys e1 e2 z => ?_) dv
    · cases e : F1 p with
      | none => rfl
      | some u => rw [k1.fh p u e] at hp; cases hp
    · cases e : G p with
      | none => rfl
      | some u => rw [k1.gh p u e] at hp; cases hp
    · obtain ⟨a, ws, q1, q2, _⟩ := k1.has i s ys e1 e2
      rw [q1] at z
      cases z
      rw [hp] at q2
      cases q2)
/-- a new list of one's own, taken as data -/
theorem XO.xe {xs : List D} (h : XO X e ρ xs ρ1) : XE X e ρ (.list xs) ρ1 := fun F0 G F H σ k Q q => h F0 G F H σ k Q fun p vs F1 H1 k1 f1 hp fp gp ap dv => by
  have s1 : Same F1 (upd F1 p (.lst vs)) := fun b u e => by rw [upd_ne (ne_of_none e fp)]; exact e
  refine q (.ref p) (upd F1 p (.lst vs)) H1 ⟨k1.len, fun b u e => ?_, k1.gh, fun b hb => ?_, fun i y h => ?_, k1.bor, fun i s ys h1 h2 => ?_, k1.djh⟩ (f1.trans s1) (.lst upd_same (rps_mono s1 _ _ dv))
  · by_cases hbp : b = p
    · subst hbp; rw [upd_same] at e; cases e; exact hp
    · rw [upd_ne hbp] at e; exact k1.fh b u e
  · rw [upd_ne (mut_ne gp hb)]; exact k1.g0 b hb
  · obtain ⟨v, q1, q2⟩ := k1.dat i y h
    exact ⟨v, q1, rp_mono s1 _ _ q2⟩
  · obtain ⟨a, ws, q1, q2, q3, q4, q5⟩ := k1.has i s ys h1 h2
    have hap : a ≠ p := fun z => ap i s ys h1 h2 (by rw [q1, z])
    exact ⟨a, ws, q1, q2, by rw [upd_ne hap]; exact q3, q4, q5.mono s1⟩
theorem xo_lst (h : XA X es ρ ds ρ1) (hz : ds.length ≤ 100000) : XO X (.List es pos) ρ ds ρ1 :=
  .of (pe_lst (pcA es)) fun F0 G F H σ k Q q => h F0 G F H σ k _ fun vs F1 H1 k1 f1 d1 => ⟨by rw [Rps.length d1]; exact Nat.le_trans hz (by decide), fun p hp => q p vs F1 H1 k1 f1 hp d1⟩
theorem xe_lst (h : XA X es ρ ds ρ1) (hz : ds.length ≤ 100000) : XE X (.List es pos) ρ (.list ds) ρ1 := (xo_lst h hz).xe
theorem xe_tup {n : Nat} (h : XA X es ρ ds ρ1) (hz : ds.length ≤ 100000) : XE X (.Tuple es n pos) ρ (.tuple ds) ρ1 :=
  .of (pe_tup (pcA es)) fun F0 G F H σ k Q q => h F0 G F H σ k _ fun vs F1 H1 k1 f1 d1 => ⟨by rw [Rps.length d1]; exact Nat.le_trans hz (by decide), fun p hp => by
    have gr : Gr F1 H1 (upd F1 p (.tup vs)) (upd H1 p (.tup vs)) := .laid k1.fh hp
    exact q _ _ _ (k1.gr gr) (f1.trans gr.f) (.tup upd_same (rps_mono gr.f _ _ d1))⟩
theorem xo_op {op : Operator} {zs : List D} (h : BRO X (binaryOp op) x y zs) (ha : XE X a ρ x ρ1) (hb : XE X b ρ1 y ρ2) : XO X (.BinOp a op b pos) ρ zs ρ2 := by
  obtain ⟨r, o, g⟩ := h
  exact .of (pe_op o (pcE a) (pcE b)) fun F0 G F H σ k Q q => ha F0 G F H σ k _ fun v F1 H1 k1 f1 d1 => hb F0 G F1 H1 σ k1 _ fun w F2 H2 k2 f2 d2 =>
    g F2 H2 v w Q k2.fh (rp_mono f2 _ _ d1) d2 fun p vs hp dv => q p vs F2 H2 k2 (f1.trans f2) hp dv
end
end DL
set_option Elab.async false
set_option linter.all false
set_option maxRecDepth 100000
set_option maxHeartbeats 2000000
namespace DL
open PySem PySem.Spec PyProof.Rows L2
section
variable {X : Cx} {e a b c : Expr} {es : List Expr} {ρ ρ1 ρ2 ρ3 : List Sl} {d x y z : D} {ds : List D} {pos : Pos} {i j : Int}
/-! ### places -/
theorem atI_len {α β : Type} {xs : List α} {ys : List β} (h : xs.length = ys.length) (i : Int) : ixN xs.length i = ixN ys.length i := by rw [h]
theorem rps_at {K : PySem.W.Frag} {H : Hp} {vs : List V} (h : Rps K H vs ds) (e : atI ds i = some x) : ∃ v, atI vs i = some v ∧ Rp K H v x := by
  unfold atI at e ⊢
  rw [Rps.length h]
  cases q : ixN ds.length i with
  | none => rw [q] at e; cases e
  | some j =>
    rw [q] at e
    exact Rps.get h e
theorem atI_nat' {α : Type} {xs : List α} {n : Nat} {v : α} (h : xs[n]? = some v) : atI xs (n : Int) = some v := atI_nat h
/-- a tuple's item -/
theorem xe_ixT {xs : List D} (ha : XE X a ρ (.tuple xs) ρ1) (hb : XE X b ρ1 (.int i) ρ2) (hx : atI xs i = some x) (hs : PlainIx b := by exact fun _ _ => rfl) : XE X (.Subscript a b pos) ρ x ρ2 :=
  .of (pe_ix ix_tup (pcE a) (pcE b) hs) fun F0 G F H σ k Q q => ha F0 G F H σ k _ fun v F1 H1 k1 f1 d1 => hb F0 G F1 H1 σ k1 _ fun w F2 H2 k2 f2 d2 => by
    cases d1 with
    | tup s r =>
      cases d2
      obtain ⟨u, e1, e2⟩ := rps_at (rps_mono f2 _ _ r) hx
      exact ⟨_, _, i, u, rfl, rfl, sqT_mono (f2.trans k2.fh) s, e1, q u F2 H2 k2 (f1.trans f2) e2⟩
theorem xe_ixL {xs : List D} (ha : XE X a ρ (.list xs) ρ1) (hb : XE X b ρ1 (.int i) ρ2) (hx : atI xs i = some x) (hs : PlainIx b := by exact fun _ _ => rfl) : XE X (.Subscript a b pos) ρ x ρ2 :=
  .of (pe_ix ix_list (pcE a) (pcE b) hs) fun F0 G F H σ k Q q => ha F0 G F H σ k _ fun v F1 H1 k1 f1 d1 => hb F0 G F1 H1 σ k1 _ fun w F2 H2 k2 f2 d2 => by
    cases d1 with
    | lst s r =>
      cases d2
      obtain ⟨u, e1, e2⟩ := rps_at (rps_mono f2 _ _ r) hx
      exact ⟨_, _, i, u, rfl, rfl, .of (k2.fh _ _ (f2 _ _ s)), e1, q u F2 H2 k2 (f1.trans f2) e2⟩
/-- the script's item -/
theorem xe_ixS {xs : List D} (ha : XE X a ρ (scrD xs) ρ1) (hb : XE X b ρ1 (.int i) ρ2) (hx : atI xs i = some x) (hs : PlainIx b := by exact fun _ _ => rfl) : XE X (.Subscript a b pos) ρ x ρ2 :=
  .of (pe_ix ix_list (pcE a) (pcE b) hs) fun F0 G F H σ k Q q => ha F0 G F H σ k _ fun v F1 H1 k1 f1 d1 => hb F0 G F1 H1 σ k1 _ fun w F2 H2 k2 f2 d2 => by
    cases d1 with
    | scr s r =>
      cases d2
      obtain ⟨u, e1, e2⟩ := rps_at (rps_mono f2 _ _ r) hx
      exact ⟨_, _, i, u, rfl, rfl, sqL_mono (f2.trans k2.fh) s, e1, q u F2 H2 k2 (f1.trans f2) e2⟩
/-- an item of a list of one's own, by its name -/
theorem xe_ixO (n : Nat) {s : Sl} {xs : List D} {nm : Str} {p1 : Pos} (hb : XE X b ρ (.int i) ρ1) (hr : ρ1[n]? = some s) (hs : s.own = some xs) (hx : atI xs i = some x) (hN : X.N[n]? = some nm := by rfl) (hv : Vis X.env.scope nm := by first | exact Or.inl rfl | exact Or.inr (Or.inl rfl) | exact Or.inr (Or.inr rfl)) (h0 : ∃ s0 xs0, ρ[n]? = some s0 ∧ s0.own = some xs0 := by exact ⟨_, _, rfl, rfl⟩)
    (hd : (nm == ("__debug__" : Str)) = false := by decide) (hcd : (nm == ("__classdict__" : Str)) = false := by decide) (hp : PlainIx b := by exact fun _ _ => rfl) : XE X (.Subscript (.Name nm p1) b pos) ρ x ρ1 :=
  .of (pe_ix ix_list (pe_var hN hv hd hcd) (pcE b) hp) fun F0 G F H σ k Q q => by
    obtain ⟨s0, xs0, r0, o0⟩ := h0
    obtain ⟨p0, vs0, e0, _⟩ := k.own n s0 xs0 r0 o0
    refine ⟨.ref p0, e0, hb F0 G F H σ k _ fun w F2 H2 k2 f2 d2 => ?_⟩
    obtain ⟨p, vs, e1, e2, e3, e4, e5⟩ := k2.own n s xs hr hs
    rw [e0] at e1
    cases e1
    cases d2
    obtain ⟨u, q1, q2⟩ := rps_at e5 hx
    exact ⟨p0, vs, i, u, rfl, rfl, .of e2, q1, q u F2 H2 k2 f2 q2⟩
theorem rps_cut {K : PySem.W.Frag} {H : Hp} {vs : List V} (h : Rps K H vs ds) (lo hi : Option Int) : Rps K H (cutV vs lo hi) ((ds.drop (HT.sIx ds.length 0 lo)).take (HT.sIx ds.length ds.length hi - HT.sIx ds.length 0 lo)) := by
  unfold cutV
  rw [Rps.length h]
  exact Rps.take (Rps.drop h _) _

/-! ### calls by values -/
/-- what a call gives -/
def CR (X : Cx) (f : Value) (ds : List D) (z : D) : Prop := ∃ r : List V → Hp → VK → Prop, CallR X f r ∧ ∀ (F H : Hp) (vs : List V) (Q : VK), Same F H → Rps X.K F vs ds → (∀ u F' H', Gr F H F' H' → Rp X.K F' u z → Q u H') → r vs H Q
/-- .. a new list -/
def CRO (X : Cx) (f : Value) (ds : List D) (zs : List D) : Prop := ∃ r : List V → Hp → VK → Prop, CallR X f r ∧ ∀ (F H : Hp) (vs : List V) (Q : VK), Same F H → Rps X.K F vs ds → (∀ p ws F' H', Gr F H F' H' → H' p = none → Rps X.K F' ws zs → Q (.ref p) (upd H' p (.lst ws))) → r vs H Q
theorem CRO.cr {f : Value} {zs : List D} (h : CRO X f ds zs) : CR X f ds (.list zs) := by
  obtain ⟨r, o, g⟩ := h
  exact ⟨r, o, fun F H vs Q fh h1 q => g F H vs Q fh h1 fun p ws F1 H1 g1 hp dv => by
    have gr : Gr F1 H1 (upd F1 p (.lst ws)) (upd H1 p (.lst ws)) := .laid g1.fh hp
    exact q _ _ _ (g1.trans gr) (.lst upd_same (rps_mono gr.f _ _ dv))⟩
theorem xe_callB {id : String} {nm : Str} {p : Pos} (h : CR X (.builtin id) ds z) (hg : Gl X nm) (hm : X.mg nm = none) (hv : bootBuiltins nm = some (.builtin id)) (ha : XA X (e :: es) ρ ds ρ1) (hn : nm ≠ "__name__" := by decide) (hdb : (nm == ("__debug__" : Str)) = false := by decide) (he : starEach (e :: es) X.env = (false, eval e X.env) :: starEach es X.env := by rfl) (hpl : ((backTo pos (starEach es X.env)).any fun x => x.fst) = false := by rfl) : XE X (.Call (.Name nm p) (e :: es) [] pos) ρ z ρ1 := by
  obtain ⟨r, o, g⟩ := h
  exact .of (pe_callB o hg hm hv (pcA _) hn hdb he hpl) fun F0 G F H σ k Q q => ha F0 G F H σ k _ fun vs F1 H1 k1 f1 d1 => g F1 H1 vs Q k1.fh d1 fun u F2 H2 gr d2 => q u F2 H2 (k1.gr gr) (f1.trans gr.f) d2
theorem xe_callTy {T : String} {nm : Str} {p : Pos} (h : CR X (.type T) ds z) (hg : Gl X nm) (hm : X.mg nm = none) (hv : bootBuiltins nm = some (.type T)) (ha : XA X (e :: es) ρ ds ρ1) (hn : nm ≠ "__name__" := by decide) (hdb : (nm == ("__debug__" : Str)) = false := by decide) (he : starEach (e :: es) X.env = (false, eval e X.env) :: starEach es X.env := by rfl) (hpl : ((backTo pos (starEach es X.env)).any fun x => x.fst) = false := by rfl) : XE X (.Call (.Name nm p) (e :: es) [] pos) ρ z ρ1 := by
  obtain ⟨r, o, g⟩ := h
  exact .of (pe_callTy o hg hm hv (pcA _) hn hdb he hpl) fun F0 G F H σ k Q q => ha F0 G F H σ k _ fun vs F1 H1 k1 f1 d1 => g F1 H1 vs Q k1.fh d1 fun u F2 H2 gr d2 => q u F2 H2 (k1.gr gr) (f1.trans gr.f) d2
theorem xo_callB {id : String} {nm : Str} {p : Pos} {zs : List D} (h : CRO X (.builtin id) ds zs) (hg : Gl X nm) (hm : X.mg nm = none) (hv : bootBuiltins nm = some (.builtin id)) (ha : XA X (e :: es) ρ ds ρ1) (hn : nm ≠ "__name__" := by decide) (hdb : (nm == ("__debug__" : Str)) = false := by decide) (he : starEach (e :: es) X.env = (false, eval e X.env) :: starEach es X.env := by rfl) (hpl : ((backTo pos (starEach es X.env)).any fun x => x.fst) = false := by rfl) : XO X (.Call (.Name nm p) (e :: es) [] pos) ρ zs ρ1 := by
  obtain ⟨r, o, g⟩ := h
  exact .of (pe_callB o hg hm hv (pcA _) hn hdb he hpl) fun F0 G F H σ k Q q => ha F0 G F H σ k _ fun vs F1 H1 k1 f1 d1 => g F1 H1 vs Q k1.fh d1 fun u ws F2 H2 gr hu d2 => q u ws F2 H2 (k1.gr gr) (f1.trans gr.f) hu d2
theorem xo_callTy {T : String} {nm : Str} {p : Pos} {zs : List D} (h : CRO X (.type T) ds zs) (hg : Gl X nm) (hm : X.mg nm = none) (hv : bootBuiltins nm = some (.type T)) (ha : XA X (e :: es) ρ ds ρ1) (hn : nm ≠ "__name__" := by decide) (hdb : (nm == ("__debug__" : Str)) = false := by decide) (he : starEach (e :: es) X.env = (false, eval e X.env) :: starEach es X.env := by rfl) (hpl : ((backTo pos (starEach es X.env)).any fun x => x.fst) = false := by rfl) : XO X (.Call (.Name nm p) (e :: es) [] pos) ρ zs ρ1 := by
  obtain ⟨r, o, g⟩ := h
  exact .of (pe_callTy o hg hm hv (pcA _) hn hdb he hpl) fun F0 G F H σ k Q q => ha F0 G F H σ k _ fun vs F1 H1 k1 f1 d1 => g F1 H1 vs Q k1.fh d1 fun u ws F2 H2 gr hu d2 => q u ws F2 H2 (k1.gr gr) (f1.trans gr.f) hu d2
section
variable {K : PySem.W.Frag} {F H : Hp} {vs : List V}
theorem rps1 (h : Rps K F vs [x]) : ∃ v, vs = [v] ∧ Rp K F v x := by
  cases h with
  | cons h1 h2 => cases h2; exact ⟨_, rfl, h1⟩
theorem rps2 (h : Rps K F vs [x, y]) : ∃ v w, vs = [v, w] ∧ Rp K F v x ∧ Rp K F w y := by
  cases h with
  | cons h1 h2 =>
    obtain ⟨w, rfl, h3⟩ := rps1 h2
    exact ⟨_, _, rfl, h1, h3⟩
end
theorem cr_lenL {xs : List D} : CR X (.builtin "len") [.list xs] (.int xs.length) := ⟨_, call_len_seq, fun F H vs Q fh h q => by
  obtain ⟨v, rfl, h1⟩ := rps1 h
  cases h1 with
  | lst s r => exact ⟨_, _, rfl, .inl (.of (fh _ _ s)), by rw [Rps.length r]; exact q _ F H (.refl fh) (.int _)⟩⟩
theorem cr_lenT {xs : List D} : CR X (.builtin "len") [.tuple xs] (.int xs.length) := ⟨_, call_len_seq, fun F H vs Q fh h q => by
  obtain ⟨v, rfl, h1⟩ := rps1 h
  cases h1 with
  | tup s r => exact ⟨_, _, rfl, .inr (sqT_mono fh s), by rw [Rps.length r]; exact q _ F H (.refl fh) (.int _)⟩⟩
theorem cr_lenS {xs : List D} : CR X (.builtin "len") [scrD xs] (.int xs.length) := ⟨_, call_len_seq, fun F H vs Q fh h q => by
  obtain ⟨v, rfl, h1⟩ := rps1 h
  cases h1 with
  | scr s r => exact ⟨_, _, rfl, .inl (sqL_mono fh s), by rw [Rps.length r]; exact q _ F H (.refl fh) (.int _)⟩⟩
theorem cr_min2 (hc : X.calm = true) : CR X (.builtin "min") [.int i, .int j] (.int (if j < i then j else i)) := ⟨_, call_min2 hc, fun F H vs Q fh h q => by
  obtain ⟨v, w, rfl, h1, h2⟩ := rps2 h
  cases h1; cases h2
  exact ⟨i, j, rfl, q _ F H (.refl fh) (.int _)⟩⟩
theorem cr_max2 (hc : X.calm = true) : CR X (.builtin "max") [.int i, .int j] (.int (if j > i then j else i)) := ⟨_, call_max2 hc, fun F H vs Q fh h q => by
  obtain ⟨v, w, rfl, h1, h2⟩ := rps2 h
  cases h1; cases h2
  exact ⟨i, j, rfl, q _ F H (.refl fh) (.int _)⟩⟩
theorem cr_intI : CR X (.type "int") [.int i] (.int i) := ⟨_, call_int1, fun F H vs Q fh h q => by
  obtain ⟨v, rfl, h1⟩ := rps1 h
  cases h1
  exact .inl ⟨i, rfl, q _ F H (.refl fh) (.int _)⟩⟩
theorem cr_intB {k : Bool} : CR X (.type "int") [.bool k] (.int (if k then 1 else 0)) := ⟨_, call_int1, fun F H vs Q fh h q => by
  obtain ⟨v, rfl, h1⟩ := rps1 h
  cases h1
  exact .inr ⟨k, rfl, q _ F H (.refl fh) (.int _)⟩⟩
theorem cr_tupleL {xs : List D} : CR X (.type "tuple") [.list xs] (.tuple xs) := ⟨_, call_tuple_of, fun F H vs Q fh h q => by
  obtain ⟨v, rfl, h1⟩ := rps1 h
  cases h1 with
  | @lst a ws ds s r =>
    refine ⟨_, _, rfl, .inl ⟨.of (fh _ _ s), fun l hl => ?_⟩⟩
    have gr : Gr F H (upd F l (.tup ws)) (upd H l (.tup ws)) := .laid fh hl
    exact q _ _ _ gr (.tup upd_same (rps_mono gr.f _ _ r))⟩
theorem cr_tupleT {xs : List D} : CR X (.type "tuple") [.tuple xs] (.tuple xs) := ⟨_, call_tuple_of, fun F H vs Q fh h q => by
  obtain ⟨v, rfl, h1⟩ := rps1 h
  cases h1 with
  | tup s r => exact ⟨_, _, rfl, .inr ⟨sqT_mono fh s, q _ F H (.refl fh) (.tup s r)⟩⟩⟩
theorem cro_listT {xs : List D} : CRO X (.type "list") [.tuple xs] xs := ⟨_, call_list_of, fun F H vs Q fh h q => by
  obtain ⟨v, rfl, h1⟩ := rps1 h
  cases h1 with
  | tup s r => exact ⟨_, _, rfl, .inr (sqT_mono fh s), fun l hl => q l _ F H (.refl fh) hl r⟩⟩
theorem cro_listL {xs : List D} : CRO X (.type "list") [.list xs] xs := ⟨_, call_list_of, fun F H vs Q fh h q => by
  obtain ⟨v, rfl, h1⟩ := rps1 h
  cases h1 with
  | lst s r => exact ⟨_, _, rfl, .inl (.of (fh _ _ s)), fun l hl => q l _ F H (.refl fh) hl r⟩⟩
theorem crd_all {bs : List Bool} (hc : X.calm = true) : CR X (.builtin "all") [.list (bs.map .bool)] (.bool (bs.all id)) := ⟨_, cr_all hc, fun F H vs Q fh h q => by
  obtain ⟨v, rfl, h1⟩ := rps1 h
  cases h1 with
  | lst s r =>
    have e := Rps.bools r
    subst e
    exact ⟨_, bs, rfl, .of (fh _ _ s), q _ F H (.refl fh) (.bl _)⟩⟩
theorem crd_any {bs : List Bool} (hc : X.calm = true) : CR X (.builtin "any") [.list (bs.map .bool)] (.bool (bs.any id)) := ⟨_, cr_any hc, fun F H vs Q fh h q => by
  obtain ⟨v, rfl, h1⟩ := rps1 h
  cases h1 with
  | lst s r =>
    have e := Rps.bools r
    subst e
    exact ⟨_, bs, rfl, .of (fh _ _ s), q _ F H (.refl fh) (.bl _)⟩⟩
/-- the ascending list of some ints -/
def sortI (ns : List Int) : List Int := ns.mergeSort (fun a b => decide (a ≤ b))
theorem sortI_perm (ns : List Int) : (sortI ns).Perm ns := List.mergeSort_perm ns _
theorem sortI_sorted (ns : List Int) : (sortI ns).Pairwise (· ≤ ·) := by
  have h := List.pairwise_mergeSort (le := fun a b : Int => decide (a ≤ b)) (fun a b c h1 h2 => by simp at h1 h2 ⊢; omega) (fun a b => by simp; omega) ns
  exact h.imp fun h => by simpa using h
theorem sorted_one {xs ys : List Int} (p : xs.Perm ys) (hx : xs.Pairwise (· ≤ ·)) (hy : ys.Pairwise (· ≤ ·)) : xs = ys :=
  List.Perm.eq_of_pairwise (fun a b _ _ h1 h2 => by omega) hx hy p
theorem cro_sorted {ns : List Int} : CRO X (.builtin "sorted") [.list (ns.map .int)] ((sortI ns).map .int) := ⟨_, cr_sortedI, fun F H vs Q fh h q => by
  obtain ⟨v, rfl, h1⟩ := rps1 h
  cases h1 with
  | lst s r =>
    have e := Rps.ints r
    subst e
    refine ⟨_, ns, rfl, .of (fh _ _ s), fun ns' p pm so hp => ?_⟩
    have e : ns' = sortI ns := sorted_one (pm.trans (sortI_perm ns).symm) so (sortI_sorted ns)
    subst e
    exact q p _ F H (.refl fh) hp (Rps.of_ints _)⟩
end

/-! ### defs: what they promise -/
/-- all arguments data: the value, too -/
def spD (K : PySem.W.Frag) (n : Nat) (R : List D → D → Prop) : Sp := fun vs H Q _ => ∃ (F : Hp) (ds : List D) (d : D), vs.length = n ∧ Same F H ∧ Rps K F vs ds ∧ R ds d ∧
  ∀ v F' H', Gr F H F' H' → Rp K F' v d → Q v H'
/-- the first argument a list that the def may change, to rs' -/
def spB (K : PySem.W.Frag) (n : Nat) (R : List D → List D → D → List D → Prop) : Sp := fun vs H Q _ => ∃ (F : Hp) (a : Addr) (rv vs' : List V) (rs ds : List D) (d : D) (rs' : List D), vs.length = n ∧ vs = .ref a :: vs' ∧ Same F H ∧ F a = none ∧ H a = some (.lst rv) ∧ Rps K F rv rs ∧ Rps K F vs' ds ∧ R rs ds d rs' ∧
  ∀ v F' H' rv', Same F F' → Same F' H' → (∀ b o, b ≠ a → H b = some o → H' b = some o) → (∀ b, Mut (H b) → F' b = F b) → H' a = some (.lst rv') → Rps K F' rv' rs' → Rp K F' v d → Q v H'
section
variable {X : Cx} {e a b c : Expr} {es : List Expr} {ρ ρ1 ρ2 ρ3 : List Sl} {d x y z : D} {ds : List D} {pos : Pos} {i j : Int} {k : Nat} {f : Addr} {fd : FuncData} {ps : List Str} {nm : Str} {p : Pos}
theorem xe_call {n : Nat} {R : List D → D → Prop} (F : FnOk X.prog X.w X.K X.mg X.base CX0 k f fd ps (spD X.K n R)) (hr : Room k X.A) (hg : Gl X nm) (hm : X.mg nm = some (.ref f)) (hk : PySem.W.keepIn X.K (.ref f) = true) (hb : Binds X.K fd ps []) (ha : XA X (e :: es) ρ ds ρ1) (hR : R ds d) (hn : ds.length = n := by rfl) (hdb : (nm == ("__debug__" : Str)) = false := by decide) (he : starEach (e :: es) X.env = (false, eval e X.env) :: starEach es X.env := by rfl) (hpl : ((backTo pos (starEach es X.env)).any fun x => x.fst) = false := by rfl) : XE X (.Call (.Name nm p) (e :: es) [] pos) ρ d ρ1 :=
  .of (pe_call F hr hg hm hk hb .nil pass0 (pcA _) (he := he) (hpl := hpl) (hdb := hdb)) fun F0 G F H σ k Q q => ha F0 G F H σ k _ fun vs F1 H1 k1 f1 d1 => by
    show spD X.K n R (vs ++ []) H1 Q _
    rw [List.append_nil]
    exact ⟨F1, ds, d, by rw [Rps.length d1, hn], k1.fh, d1, hR, fun v F2 H2 gr d2 => q v F2 H2 (k1.gr gr) (f1.trans gr.f) d2⟩
/-- the first argument is a list of one's own (or a lent one), by its name -/
theorem xe_callO (n : Nat) {nm0 : Str} {p0 : Pos} {s : Sl} {rs rs' : List D} {m : Nat} {R : List D → List D → D → List D → Prop} (F : FnOk X.prog X.w X.K X.mg X.base CX0 k f fd ps (spB X.K m R)) (hr : Room k X.A) (hg : Gl X nm) (hm : X.mg nm = some (.ref f)) (hk : PySem.W.keepIn X.K (.ref f) = true) (hb : Binds X.K fd ps []) (ha : XA X es ρ ds ρ1)
    (hs : ρ1[n]? = some s) (ho : s.own = some rs) (hR : R rs ds d rs') (hm2 : ds.length + 1 = m := by rfl)
    (h0 : ∃ s0 xs0, ρ[n]? = some s0 ∧ s0.own = some xs0 := by exact ⟨_, _, rfl, rfl⟩) (hN : X.N[n]? = some nm0 := by rfl) (hv : Vis X.env.scope nm0 := by first | exact Or.inl rfl | exact Or.inr (Or.inl rfl) | exact Or.inr (Or.inr rfl)) (hd : (nm0 == ("__debug__" : Str)) = false := by decide) (hcd : (nm0 == ("__classdict__" : Str)) = false := by decide)
    (hst : starEach (.Name nm0 p0 :: es) X.env = (false, eval (.Name nm0 p0) X.env) :: starEach es X.env := by rfl) (hdb : (nm == ("__debug__" : Str)) = false := by decide) (hpl : ((backTo pos (starEach es X.env)).any fun x => x.fst) = false := by rfl) : XE X (.Call (.Name nm p) (.Name nm0 p0 :: es) [] pos) ρ d (ρ1.set n (s.put rs')) :=
  .of (pe_call F hr hg hm hk hb .nil pass0 (pa_cons (pe_var hN hv hd hcd) (pcA es) hst) (he := hst) (hpl := hpl) (hdb := hdb)) fun F0 G F H σ k Q q => by
    obtain ⟨s0, xs0, r0, o0⟩ := h0
    obtain ⟨p1, vs0, e0, _⟩ := k.own n s0 xs0 r0 o0
    refine ⟨.ref p1, e0, ha F0 G F H σ k _ fun vs F1 H1 k1 f1 d1 => ?_⟩
    obtain ⟨p2, rv, e1, e2, e3, e4, e5⟩ := k1.own n s rs hs ho
    rw [e0] at e1
    cases e1
    show spB X.K m R ((.ref p1 :: vs) ++ []) H1 Q _
    rw [List.append_nil]
    refine ⟨F1, p1, rv, vs, rs, ds, d, rs', by rw [List.length_cons, Rps.length d1, hm2], rfl, k1.fh, e3, e2, e5, d1, hR, fun v F2 H2 rv' f2 fh2 keep new e6 r6 d6 => ?_⟩
    have hn : n < ρ1.length := (List.getElem?_eq_some_iff.mp hs).1
    refine q v F2 H2 ⟨by rw [List.length_set]; exact k1.len, fh2, fun b o eb => ?_, fun b hb => ?_, fun i y h => ?_, fun i a' ys h => ?_, fun i s2 ys h1 h2 => ?_, fun i j s2 t ys zs a h1 h2 h3 h4 => ?_⟩ (f1.trans f2) d6
    · exact keep b o (fun z => by rw [z, e4] at eb; cases eb) (k1.gh b o eb)
    · rw [new b (mut_up k1.gh hb), k1.g0 b hb]
    · by_cases hi : i = n
      · subst hi
        rw [List.getElem?_set_self hn] at h
        have e := Option.some.inj h
        have := Sl.put_own rs' s
        rw [e] at this
        cases this
      · rw [List.getElem?_set_ne (Ne.symm hi)] at h
        obtain ⟨v, q1, q2⟩ := k1.dat i y h
        exact ⟨v, q1, rp_mono f2 _ _ q2⟩
    · by_cases hi : i = n
      · subst hi
        rw [List.getElem?_set_self hn] at h
        cases s with
        | b a'' zs => cases h; exact k1.bor i _ zs hs
        | _ => cases h
      · rw [List.getElem?_set_ne (Ne.symm hi)] at h
        exact k1.bor i a' ys h
    · by_cases hi : i = n
      · subst hi
        rw [List.getElem?_set_self hn] at h1
        cases h1
        rw [Sl.put_has] at h2
        cases h2
        exact ⟨p1, _, e0, e6, by rw [new p1 (by rw [e2]; exact True.intro), e3], e4, rv', rfl, r6⟩
      · rw [List.getElem?_set_ne (Ne.symm hi)] at h1
        obtain ⟨a, ws, q1, q2, q3, q4, q5⟩ := k1.has i s2 ys h1 h2
        have hap : a ≠ p1 := fun z => hi (k1.djh i n s2 s ys (.l rs) p1 h1 h2 hs (Sl.own_has ho) (by rw [q1, z]) e0)
        exact ⟨a, ws, q1, keep a _ hap q2, by rw [new a (by rw [q2]; exact q5.mut), q3], q4, q5.mono f2⟩
    · have back : ∀ {i : Nat} {s2 : Sl} {ys : Own}, (ρ1.set n (s.put rs'))[i]? = some s2 → s2.has = some ys → ∃ s3 ys3, ρ1[i]? = some s3 ∧ s3.has = some ys3 := fun {i s2 ys} h1 h2 => by
        by_cases hi : i = n
        · subst hi; exact ⟨s, _, hs, Sl.own_has ho⟩
        · rw [List.getElem?_set_ne (Ne.symm hi)] at h1
          exact ⟨s2, ys, h1, h2⟩
      obtain ⟨s3, ys3, b1, b2⟩ := back h1 h2
      obtain ⟨s4, ys4, b3, b4⟩ := back h3 h4
      exact k1.djh i j s3 s4 ys3 ys4 a b1 b2 b3 b4
end
end DL
set_option Elab.async false
set_option linter.all false
set_option maxRecDepth 100000
set_option maxHeartbeats 2000000
namespace DL
open PySem PySem.Spec PyProof.Rows L2
section
variable {K : PySem.W.Frag} {F0 G F H F' H' : Hp} {σ : L2.St} {ρ ρ' : List Sl}
/-! ### slots stored -/
theorem Ok.set {n : Nat} {v : V} {x : D} (k : Ok K F0 G F H σ ρ) (r : Rp K F v x) : Ok K F0 G F H (σ.set n (some v)) (ρ.set n (.d x)) where
  len := by rw [List.length_set, List.length_set]; exact k.len
  fh := k.fh
  gh := k.gh
  g0 := k.g0
  dat := fun i y e => by
    by_cases hi : i = n
    · subst hi
      have hn : i < ρ.length := by
        have := (List.getElem?_eq_some_iff.mp e).1
        rwa [List.length_set] at this
      rw [List.getElem?_set_self hn] at e
      cases e
      exact ⟨v, by rw [List.getElem?_set_self (by rw [k.len]; exact hn)], r⟩
    · rw [List.getElem?_set_ne (Ne.symm hi)] at e
      rw [List.getElem?_set_ne (Ne.symm hi)]
      exact k.dat i y e
  bor := fun i a ys e => by
    by_cases hi : i = n
    · subst hi
      have hn : i < ρ.length := by
        have := (List.getElem?_eq_some_iff.mp e).1
        rwa [List.length_set] at this
      rw [List.getElem?_set_self hn] at e
      cases e
    · rw [List.getElem?_set_ne (Ne.symm hi)] at e
      rw [List.getElem?_set_ne (Ne.symm hi)]
      exact k.bor i a ys e
  has := fun i s ys e o => by
    by_cases hi : i = n
    · subst hi
      have hn : i < ρ.length := by
        have := (List.getElem?_eq_some_iff.mp e).1
        rwa [List.length_set] at this
      rw [List.getElem?_set_self hn] at e
      cases e
      cases o
    · rw [List.getElem?_set_ne (Ne.symm hi)] at e
      rw [List.getElem?_set_ne (Ne.symm hi)]
      exact k.has i s ys e o
  djh := fun i j s t xs ys a h1 h2 h3 h4 h5 h6 => by
    have ne : ∀ {i : Nat} {s : Sl} {xs : Own}, (ρ.set n (.d x))[i]? = some s → s.has = some xs → i ≠ n := fun {i s xs} e o z => by
      subst z
      have hn : i < ρ.length := by
        have := (List.getElem?_eq_some_iff.mp e).1
        rwa [List.length_set] at this
      rw [List.getElem?_set_self hn] at e
      cases e
      cases o
    have n1 := ne h1 h2
    have n2 := ne h3 h4
    rw [List.getElem?_set_ne (Ne.symm n1)] at h1 h5
    rw [List.getElem?_set_ne (Ne.symm n2)] at h3 h6
    exact k.djh i j s t xs ys a h1 h2 h3 h4 h5 h6
theorem Ok.setW {n : Nat} {p : Addr} {ho : HO} {w : Own} {s' : Sl} (k : Ok K F0 G F H σ ρ) (hp : H p = some ho) (fp : F p = none) (gp : G p = none) (ap : ∀ (i : Nat) (s : Sl) (ys : Own), ρ[i]? = some s → s.has = some ys → σ[i]? ≠ some (some (V.ref p))) (r : w.At K F ho) (hs' : s'.has = some w) (hb : ∀ a xs, s' ≠ .b a xs) :
    Ok K F0 G F H (σ.set n (some (.ref p))) (ρ.set n s') where
  len := by rw [List.length_set, List.length_set]; exact k.len
  fh := k.fh
  gh := k.gh
  g0 := k.g0
  dat := fun i y e => by
    by_cases hi : i = n
    · subst hi
      have hn : i < ρ.length := by
        have := (List.getElem?_eq_some_iff.mp e).1
        rwa [List.length_set] at this
      rw [List.getElem?_set_self hn] at e
      rw [Option.some.inj e] at hs'
      cases hs'
    · rw [List.getElem?_set_ne (Ne.symm hi)] at e
      rw [List.getElem?_set_ne (Ne.symm hi)]
      exact k.dat i y e
  bor := fun i a ys e => by
    by_cases hi : i = n
    · subst hi
      have hn : i < ρ.length := by
        have := (List.getElem?_eq_some_iff.mp e).1
        rwa [List.length_set] at this
      rw [List.getElem?_set_self hn] at e
      exact absurd (Option.some.inj e) (hb a ys)
    · rw [List.getElem?_set_ne (Ne.symm hi)] at e
      rw [List.getElem?_set_ne (Ne.symm hi)]
      exact k.bor i a ys e
  has := fun i s ys e o => by
    by_cases hi : i = n
    · subst hi
      have hn : i < ρ.length := by
        have := (List.getElem?_eq_some_iff.mp e).1
        rwa [List.length_set] at this
      rw [List.getElem?_set_self hn] at e
      rw [← Option.some.inj e, hs'] at o
      cases o
      exact ⟨p, ho, by rw [List.getElem?_set_self (by rw [k.len]; exact hn)], hp, fp, gp, r⟩
    · rw [List.getElem?_set_ne (Ne.symm hi)] at e
      rw [List.getElem?_set_ne (Ne.symm hi)]
      exact k.has i s ys e o
  djh := fun i j s t xs' ys a h1 h2 h3 h4 h5 h6 => by
    have at_n : ∀ {i : Nat} {s : Sl}, (ρ.set n s')[i]? = some s → i = n → ∀ {a : Addr}, (σ.set n (some (V.ref p)))[i]? = some (some (.ref a)) → a = p := fun {i s} e z a h => by
      subst z
      have hn : i < ρ.length := by
        have := (List.getElem?_eq_some_iff.mp e).1
        rwa [List.length_set] at this
      rw [List.getElem?_set_self (by rw [k.len]; exact hn)] at h
      cases h
      rfl
    by_cases n1 : i = n
    · by_cases n2 : j = n
      · rw [n1, n2]
      · have e := at_n h1 n1 h5
        subst e
        rw [List.getElem?_set_ne (Ne.symm n2)] at h3 h6
        exact absurd h6 (ap j t ys h3 h4)
    · by_cases n2 : j = n
      · have e := at_n h3 n2 h6
        subst e
        rw [List.getElem?_set_ne (Ne.symm n1)] at h1 h5
        exact absurd h5 (ap i s xs' h1 h2)
      · rw [List.getElem?_set_ne (Ne.symm n1)] at h1 h5
        rw [List.getElem?_set_ne (Ne.symm n2)] at h3 h6
        exact k.djh i j s t xs' ys a h1 h2 h3 h4 h5 h6
theorem Ok.setO {n : Nat} {p : Addr} {vs : List V} {xs : List D} (k : Ok K F0 G F H σ ρ) (hp : H p = some (.lst vs)) (fp : F p = none) (gp : G p = none) (ap : ∀ (i : Nat) (s : Sl) (ys : Own), ρ[i]? = some s → s.has = some ys → σ[i]? ≠ some (some (V.ref p))) (r : Rps K F vs xs) :
    Ok K F0 G F H (σ.set n (some (.ref p))) (ρ.set n (.o xs)) := k.setW (w := .l xs) hp fp gp ap ⟨vs, rfl, r⟩ rfl fun _ _ z => by cases z
/-- less known of some slots -/
def Weak (ρ ρ' : List Sl) : Prop := ρ'.length = ρ.length ∧ ∀ (i : Nat) (s : Sl), ρ'[i]? = some s → s = .u ∨ ρ[i]? = some s
theorem Weak.refl (ρ : List Sl) : Weak ρ ρ := ⟨rfl, fun _ _ h => .inr h⟩
theorem Weak.nil : Weak [] [] := Weak.refl _
theorem Weak.keep {s : Sl} (h : Weak ρ ρ') : Weak (s :: ρ) (s :: ρ') := ⟨by simp [h.1], fun i t e => by
  cases i with
  | zero => exact .inr e
  | succ i => exact h.2 i t (by simpa using e)⟩
theorem Weak.drop {s : Sl} (h : Weak ρ ρ') : Weak (s :: ρ) (.u :: ρ') := ⟨by simp [h.1], fun i t e => by
  cases i with
  | zero => simp at e; exact .inl e.symm
  | succ i => exact h.2 i t (by simpa using e)⟩
theorem Ok.weak (k : Ok K F0 G F H σ ρ) (h : Weak ρ ρ') : Ok K F0 G F H σ ρ' where
  len := by rw [h.1]; exact k.len
  fh := k.fh
  gh := k.gh
  g0 := k.g0
  dat := fun i x e => by
    rcases h.2 i _ e with z | z
    · cases z
    · exact k.dat i x z
  bor := fun i a xs e => by
    rcases h.2 i _ e with z | z
    · cases z
    · exact k.bor i a xs z
  has := fun i s xs e o => by
    rcases h.2 i _ e with z | z
    · subst z; cases o
    · exact k.has i s xs z o
  djh := fun i j s t xs ys a h1 h2 h3 h4 h5 h6 => by
    rcases h.2 i _ h1 with z | z
    · subst z; cases h2
    · rcases h.2 j _ h3 with z' | z'
      · subst z'; cases h4
      · exact k.djh i j s t xs ys a z h2 z' h4 h5 h6
/-- an object of one's own is changed -/
theorem Ok.writeW {n : Nat} {s s' : Sl} {a : Addr} {ho : HO} {w w' : Own} (k : Ok K F0 G F H σ ρ) (hs : ρ[n]? = some s) (ho1 : s.has = some w) (ha : σ[n]? = some (some (.ref a))) (hs' : s'.has = some w') (hb : ∀ a xs, s' = .b a xs → ∃ zs, s = .b a zs) (r : w'.At K F ho) :
    Ok K F0 G F (upd H a ho) σ (ρ.set n s') := by
  obtain ⟨a', ws, e1, e2, e3, e4, e5⟩ := k.has n s w hs ho1
  rw [ha] at e1
  cases e1
  have hn : n < ρ.length := (List.getElem?_eq_some_iff.mp hs).1
  refine ⟨by rw [List.length_set]; exact k.len, fun b o e => ?_, fun b o e => ?_, k.g0, fun i x e => ?_, fun i a' ys h => ?_, fun i t ys h1 h2 => ?_, fun i j t1 t2 ys zs b h1 h2 h3 h4 h5 h6 => ?_⟩
  · rw [upd_ne (fun z => by rw [z, e3] at e; cases e)]; exact k.fh b o e
  · rw [upd_ne (fun z => by rw [z, e4] at e; cases e)]; exact k.gh b o e
  · by_cases hi : i = n
    · subst hi
      rw [List.getElem?_set_self hn] at e
      rw [Option.some.inj e] at hs'
      cases hs'
    · rw [List.getElem?_set_ne (Ne.symm hi)] at e
      exact k.dat i x e
  · by_cases hi : i = n
    · subst hi
      rw [List.getElem?_set_self hn] at h
      obtain ⟨zs, z⟩ := hb a' ys (Option.some.inj h)
      exact k.bor i _ zs (by rw [hs, z])
    · rw [List.getElem?_set_ne (Ne.symm hi)] at h
      exact k.bor i a' ys h
  · by_cases hi : i = n
    · subst hi
      rw [List.getElem?_set_self hn] at h1
      rw [← Option.some.inj h1, hs'] at h2
      cases h2
      exact ⟨a, ho, ha, upd_same, e3, e4, r⟩
    · rw [List.getElem?_set_ne (Ne.symm hi)] at h1
      obtain ⟨b, us, q1, q2, q3, q4, q5⟩ := k.has i t ys h1 h2
      have hba : b ≠ a := fun z => hi (k.djh i n t s ys w a h1 h2 hs ho1 (by rw [q1, z]) ha)
      exact ⟨b, us, q1, by rw [upd_ne hba]; exact q2, q3, q4, q5⟩
  · have back : ∀ {i : Nat} {s2 : Sl} {ys : Own}, (ρ.set n s')[i]? = some s2 → s2.has = some ys → ∃ s3 ys3, ρ[i]? = some s3 ∧ s3.has = some ys3 := fun {i s2 ys} h1 h2 => by
      by_cases hi : i = n
      · subst hi; exact ⟨s, w, hs, ho1⟩
      · rw [List.getElem?_set_ne (Ne.symm hi)] at h1
        exact ⟨s2, ys, h1, h2⟩
    obtain ⟨s3, ys3, b1, b2⟩ := back h1 h2
    obtain ⟨s4, ys4, b3, b4⟩ := back h3 h4
    exact k.djh i j s3 s4 ys3 ys4 b b1 b2 b3 b4 h5 h6
/-- a list of one's own is changed -/
theorem Ok.write {n : Nat} {s : Sl} {a : Addr} {vs : List V} {xs xs' : List D} (k : Ok K F0 G F H σ ρ) (hs : ρ[n]? = some s) (ho : s.own = some xs) (ha : σ[n]? = some (some (.ref a))) (r : Rps K F vs xs') :
    Ok K F0 G F (upd H a (.lst vs)) σ (ρ.set n (s.put xs')) := by
  refine k.writeW hs (Sl.own_has ho) ha (Sl.put_has xs' s) (fun a ys e => ?_) ⟨vs, rfl, r⟩
  cases s with
  | b a' zs => cases e; exact ⟨zs, rfl⟩
  | _ => cases e
end
section
variable {X : Cx} {e a b c : Expr} {es : List Expr} {ρ ρ' ρ1 ρ2 ρ3 : List Sl} {d x y z : D} {ds : List D} {pos : Pos} {i j : Int} {st : Stmt} {sts : List Stmt} {o : Out}
/-! ### statements -/
theorem xe_weak (h : XE X e ρ d ρ1) (q : Weak ρ1 ρ2) : XE X e ρ d ρ2 := fun F0 G F H σ k Q r => h F0 G F H σ k Q fun v F1 H1 k1 => r v F1 H1 (k1.weak q)
theorem xss_out (h : XSs X sts ρ (.nx ρ1)) (q : Weak ρ1 ρ2) : XSs X sts ρ (.nx ρ2) := fun F0 G F H σ k Dn r => h F0 G F H σ k Dn fun σ1 F1 H1 k1 => r σ1 F1 H1 (k1.weak q)
theorem xs_out (h : XS X st ρ (.nx ρ1)) (q : Weak ρ1 ρ2) : XS X st ρ (.nx ρ2) := fun F0 G F H σ k Dn r => h F0 G F H σ k Dn fun σ1 F1 H1 k1 => r σ1 F1 H1 (k1.weak q)
theorem xs_in (h : XS X st ρ1 o) (q : Weak ρ ρ1) : XS X st ρ o := fun F0 G F H σ k Dn r => h F0 G F H σ (k.weak q) Dn r
theorem xss_in (h : XSs X sts ρ1 o) (q : Weak ρ ρ1) : XSs X sts ρ o := fun F0 G F H σ k Dn r => h F0 G F H σ (k.weak q) Dn r
theorem Out.At.mono {K : PySem.W.Frag} {F0 G F F' : Hp} {Dn : Ends} {o : Out} (h : o.At K F0 G F Dn) (f : Same F F') : o.At K F0 G F' Dn := by
  cases o with
  | nx ρ => exact fun σ F1 H1 k g => h σ F1 H1 k (f.trans g)
  | rt d ρ => exact fun v σ F1 H1 k g => h v σ F1 H1 k (f.trans g)
  | bk ρ => exact fun σ F1 H1 k g => h σ F1 H1 k (f.trans g)
  | ct ρ => exact fun σ F1 H1 k g => h σ F1 H1 k (f.trans g)
theorem Out.At.nx_of {K : PySem.W.Frag} {F0 G F : Hp} {Dn : Ends} {f : L2.St → Hp → Prop} {o : Out} (h : o.At K F0 G F Dn) (ho : ∀ ρ, o ≠ .nx ρ) : o.At K F0 G F { Dn with nx := f } := by
  cases o with
  | nx ρ => exact absurd rfl (ho ρ)
  | rt d ρ => exact h
  | bk ρ => exact h
  | ct ρ => exact h
theorem xss_nil : XSs X [] ρ (.nx ρ) := .of pss_nil fun F0 G F H σ k Dn q => q σ F H k (Same.refl _)
theorem xss_cons (h1 : XS X st ρ (.nx ρ1)) (h2 : XSs X sts ρ1 o) : XSs X (st :: sts) ρ o :=
  .of (pss_cons (pcS st) (pcSs sts)) fun F0 G F H σ k Dn q => h1 F0 G F H σ k _ fun σ1 F1 H1 k1 f1 => h2 F0 G F1 H1 σ1 k1 Dn (q.mono f1)
theorem xss_stop (h1 : XS X st ρ o) (ho : ∀ ρ, o ≠ .nx ρ := by intro _ z; cases z) : XSs X (st :: sts) ρ o :=
  .of (pss_cons (pcS st) (pcSs sts)) fun F0 G F H σ k Dn q => h1 F0 G F H σ k _ (q.nx_of ho)
theorem xss_one (h1 : XS X st ρ o) : XSs X [st] ρ o := .of (pss_one (pcS st)) fun F0 G F H σ k Dn q => h1 F0 G F H σ k Dn q
theorem xs_ret (h : XE X e ρ d ρ1) : XS X (.Return (some e) pos) ρ (.rt d ρ1) :=
  .of (ps_ret (pcE e)) fun F0 G F H σ k Dn q => h F0 G F H σ k _ fun v F1 H1 k1 f1 d1 => q v σ F1 H1 k1 f1 d1
theorem xs_if {bb : Bool} {sa sb : List Stmt} (hc : XT X c ρ bb ρ1) (h1 : bb = true → XSs X sa ρ1 o) (h2 : bb = false → XSs X sb ρ1 o) : XS X (.If c sa sb pos) ρ o :=
  .of (ps_if (pcT c) (pcSs sa) (pcSs sb)) fun F0 G F H σ k Dn q => hc F0 G F H σ k _ fun F1 H1 k1 f1 => by
    cases bb with
    | true =>
      rw [if_pos rfl]
      exact h1 rfl F0 G F1 H1 σ k1 Dn (q.mono f1)
    | false =>
      rw [if_neg Bool.false_ne_true]
      exact h2 rfl F0 G F1 H1 σ k1 Dn (q.mono f1)
theorem xs_expr (h : XE X e ρ d ρ1) (hs : swapsWith e none pos.line X.env = pure false := by rfl) : XS X (.Expr e pos) ρ (.nx ρ1) :=
  .of (ps_expr (pcE e) hs) fun F0 G F H σ k Dn q => h F0 G F H σ k _ fun v F1 H1 k1 f1 d1 => q σ F1 H1 k1 f1
theorem xs_set (n : Nat) {nm : Str} {pos' : Pos} (hN : X.N.Nodup) (h : XE X e ρ d ρ1) (hi : X.N[n]? = some nm := by rfl) (hx : Loc X.env.scope nm := by first | exact Or.inl rfl | exact Or.inr rfl) (hs : swapsWith e (some (.Name nm pos')) pos.line X.env = pure false := by rfl)
    (hf : X.fn nm = true ∨ X.env.scope.names.lookup nm = some .local := by first | exact .inl rfl | exact .inr rfl | assumption) : XS X (.Assign [.Name nm pos'] e pos) ρ (.nx (ρ1.set n (.d d))) :=
  .of (ps_set hN hi hx (pcE e) hs hf) fun F0 G F H σ k Dn q => h F0 G F H σ k _ fun v F1 H1 k1 f1 d1 => q _ F1 H1 (k1.set d1) f1
theorem xs_setO (n : Nat) {nm : Str} {pos' : Pos} {xs : List D} (hN : X.N.Nodup) (h : XO X e ρ xs ρ1) (hi : X.N[n]? = some nm := by rfl) (hx : Loc X.env.scope nm := by first | exact Or.inl rfl | exact Or.inr rfl) (hs : swapsWith e (some (.Name nm pos')) pos.line X.env = pure false := by rfl)
    (hf : X.fn nm = true ∨ X.env.scope.names.lookup nm = some .local := by first | exact .inl rfl | exact .inr rfl | assumption) : XS X (.Assign [.Name nm pos'] e pos) ρ (.nx (ρ1.set n (.o xs))) :=
  .of (ps_set hN hi hx (pcE e) hs hf) fun F0 G F H σ k Dn q => h F0 G F H σ k _ fun p vs F1 H1 k1 f1 hp fp gp ap dv => q _ F1 H1 (k1.setO hp fp gp ap dv) f1
/-- a, b = e1, e2 -/
theorem xs_par (n m : Nat) {nm nm' : Str} {px py pt : Pos} {kt k2 : Nat} {pt2 : Pos} (hc : X.calm = true) (hN : X.N.Nodup) (ha : XE X a ρ x ρ1) (hb : XE X b ρ1 y ρ2) (hi : X.N[n]? = some nm := by rfl) (hj : X.N[m]? = some nm' := by rfl) (hij : n ≠ m := by decide)
    (hx : X.env.scope.names.lookup nm = some .local := by rfl) (hy : X.env.scope.names.lookup nm' = some .local := by rfl) (hs : starEach [a, b] X.env = (false, eval a X.env) :: starEach [b] X.env := by rfl) (hs' : starEach [b] X.env = (false, eval b X.env) :: starEach [] X.env := by rfl)
    (hw : swappedStores [.Tuple [.Name nm px, .Name nm' py] kt pt] (.Tuple [a, b] k2 pt2) X.env = pure (some [nm, nm']) := by rfl) :
    XS X (.Assign [.Tuple [.Name nm px, .Name nm' py] kt pt] (.Tuple [a, b] k2 pt2) pos) ρ (.nx ((ρ2.set n (.d x)).set m (.d y))) :=
  .of (ps_par hc hN hi hj hij hx hy (pa_cons (pcE a) (pa_cons (pcE b) pa_nil hs') hs) hw) fun F0 G F H σ k Dn q => ha F0 G F H σ k _ fun v F1 H1 k1 f1 d1 => hb F0 G F1 H1 σ k1 _ fun w F2 H2 k2 f2 d2 =>
    ⟨v, w, rfl, q _ F2 H2 ((k2.set (rp_mono f2 _ _ d1)).set d2) (f1.trans f2)⟩
/-- .. the second a list of one's own -/
theorem xs_parO (n m : Nat) {nm nm' : Str} {px py pt : Pos} {kt k2 : Nat} {pt2 : Pos} {ys : List D} (hc : X.calm = true) (hN : X.N.Nodup) (ha : XE X a ρ x ρ1) (hb : XO X b ρ1 ys ρ2) (hi : X.N[n]? = some nm := by rfl) (hj : X.N[m]? = some nm' := by rfl) (hij : n ≠ m := by decide)
    (hx : X.env.scope.names.lookup nm = some .local := by rfl) (hy : X.env.scope.names.lookup nm' = some .local := by rfl) (hs : starEach [a, b] X.env = (false, eval a X.env) :: starEach [b] X.env := by rfl) (hs' : starEach [b] X.env = (false, eval b X.env) :: starEach [] X.env := by rfl)
    (hw : swappedStores [.Tuple [.Name nm px, .Name nm' py] kt pt] (.Tuple [a, b] k2 pt2) X.env = pure (some [nm, nm']) := by rfl) :
    XS X (.Assign [.Tuple [.Name nm px, .Name nm' py] kt pt] (.Tuple [a, b] k2 pt2) pos) ρ (.nx ((ρ2.set n (.d x)).set m (.o ys))) :=
  .of (ps_par hc hN hi hj hij hx hy (pa_cons (pcE a) (pa_cons (pcE b) pa_nil hs') hs) hw) fun F0 G F H σ k Dn q => ha F0 G F H σ k _ fun v F1 H1 k1 f1 d1 => hb F0 G F1 H1 σ k1 _ fun p vs F2 H2 k2 f2 hp fp gp ap dv =>
    ⟨v, _, rfl, q _ F2 H2 ((k2.set (n := n) (rp_mono f2 _ _ d1)).setO hp fp gp (fun i s ys h1 h2 => by
      by_cases hin : i = n
      · subst hin
        have hn : i < ρ2.length := by
          have := (List.getElem?_eq_some_iff.mp h1).1
          rwa [List.length_set] at this
        rw [List.getElem?_set_self hn] at h1
        cases h1; cases h2
      · rw [List.getElem?_set_ne (Ne.symm hin)] at h1 ⊢
        exact ap i s ys h1 h2) dv) (f1.trans f2)⟩
/-- xs.append(e), xs one's own -/
theorem xs_append (n : Nat) {nm : Str} {s : Sl} {xs : List D} {p1 p2 p3 : Pos} (h : XE X e ρ x ρ1) (hr : ρ1[n]? = some s) (ho : s.own = some xs) (hz : xs.length < 1000000)
    (h0 : ∃ s0 xs0, ρ[n]? = some s0 ∧ s0.own = some xs0 := by exact ⟨_, _, rfl, rfl⟩) (hN : X.N[n]? = some nm := by rfl) (hv : Vis X.env.scope nm := by first | exact Or.inl rfl | exact Or.inr (Or.inl rfl) | exact Or.inr (Or.inr rfl))
    (hd : (nm == ("__debug__" : Str)) = false := by decide) (hcd : (nm == ("__classdict__" : Str)) = false := by decide) (hst : starEach [e] X.env = (false, eval e X.env) :: starEach [] X.env := by rfl)
    (hbm : ∀ (ta te : TE), PE X (.Name nm p1) ta → PE X e te → PE X (.Call (.Attribute (.Name nm p1) "append" p2) [e] [] p3) (tBM X.K "list" rAppend ta (tCons te tNil)) := by exact fun _ _ h1 h2 => pe_bm PySem.F.plainAttrs_list PySem.F.slot_list_append PySem.F.type_list_append mt_append h1 (pa_cons h2 pa_nil))
    (hs : swapsWith (.Call (.Attribute (.Name nm p1) "append" p2) [e] [] p3) none pos.line X.env = pure false := by rfl) : XS X (.Expr (.Call (.Attribute (.Name nm p1) "append" p2) [e] [] p3) pos) ρ (.nx (ρ1.set n (s.put (xs ++ [x])))) :=
  .of (ps_expr (hbm _ _ (pe_var hN hv hd hcd) (pcE e)) hs) fun F0 G F H σ k Dn q => by
    obtain ⟨s0, xs0, r0, o0⟩ := h0
    obtain ⟨p, vs0, e0, g0, _⟩ := k.own n s0 xs0 r0 o0
    refine ⟨.ref p, e0, .inl ⟨rfl, _, .of g0⟩, h F0 G F H σ k _ fun v F1 H1 k1 f1 d1 => ?_⟩
    obtain ⟨p', vs, e1, e2, e3, e4, e5⟩ := k1.own n s xs hr ho
    rw [e0] at e1
    cases e1
    refine ⟨p, vs, v, rfl, rfl, e2, by rw [Rps.length e5]; exact Nat.lt_of_lt_of_le hz (by decide), ?_⟩
    exact q σ F1 _ (k1.write hr ho e0 (Rps.append e5 (.cons d1 .nil))) f1
/-- xs[i] = e, xs one's own -/
theorem xs_setitem (n m : Nat) {nm : Str} {s : Sl} {xs : List D} {p1 p2 : Pos} (h : XE X e ρ x ρ1) (hb : XE X b ρ1 (.int i) ρ2) (hr : ρ2[n]? = some s) (ho : s.own = some xs) (hm : ixN xs.length i = some m)
    (h0 : ∃ s0 xs0, ρ1[n]? = some s0 ∧ s0.own = some xs0 := by exact ⟨_, _, rfl, rfl⟩) (hN : X.N[n]? = some nm := by rfl) (hv : Vis X.env.scope nm := by first | exact Or.inl rfl | exact Or.inr (Or.inl rfl) | exact Or.inr (Or.inr rfl))
    (hd : (nm == ("__debug__" : Str)) = false := by decide) (hcd : (nm == ("__classdict__" : Str)) = false := by decide)
    (hg : ∀ (ta tb : TE), PE X (.Name nm p1) ta → PE X b tb → PG X (.Subscript (.Name nm p1) b p2) (gSub ta tb rSetL) := by exact fun _ _ h1 h2 => pg_sub h1 h2 set_list)
    (hs : swapsWithSole [.Subscript (.Name nm p1) b p2] e pos.line X.env = pure false := by rfl) (hw : swappedStores [.Subscript (.Name nm p1) b p2] e X.env = pure none := by rfl)
    (h1 : (assignEach [.Subscript (.Name nm p1) b p2] X.env).map (·.2) = [assign (.Subscript (.Name nm p1) b p2) X.env] := by rfl) : XS X (.Assign [.Subscript (.Name nm p1) b p2] e pos) ρ (.nx (ρ2.set n (s.put (xs.set m x)))) :=
  .of (ps_asg (pcE e) (hg _ _ (pe_var hN hv hd hcd) (pcE b)) hs hw h1) fun F0 G F H σ k Dn q => h F0 G F H σ k _ fun v F1 H1 k1 f1 d1 => by
    obtain ⟨s0, xs0, r0, o0⟩ := h0
    obtain ⟨p, vs0, e0, g0, _⟩ := k1.own n s0 xs0 r0 o0
    refine ⟨.ref p, e0, hb F0 G F1 H1 σ k1 _ fun w F2 H2 k2 f2 d2 => ?_⟩
    cases d2
    obtain ⟨p', vs, e1, e2, e3, e4, e5⟩ := k2.own n s xs hr ho
    rw [e0] at e1
    cases e1
    refine ⟨p, vs, i, m, rfl, rfl, e2, by rw [Rps.length e5]; exact hm, ?_⟩
    exact q σ F2 _ (k2.write hr ho e0 (Rps.set e5 (rp_mono f2 _ _ d1) m)) (f1.trans f2)

/-! ### targets -/
/-- a target takes the data d; the slots vs alone may change -/
def XG (X : Cx) (tg : Expr) (vs : List Nat) (d : D) (ρ ρ' : List Sl) : Prop := ∀ (F0 G F H : Hp) (σ : L2.St) (v : V), Ok X.K F0 G F H σ ρ → Rp X.K F v d → ∀ Q : L2.St → Hp → Prop,
  (∀ σ', Ok X.K F0 G F H σ' ρ' → σ'.length = σ.length → (∀ i, i ∉ vs → σ'[i]? = σ[i]?) → Q σ' H) → cG X tg v σ H Q
theorem xg_name (n : Nat) {nm : Str} (hN : X.N.Nodup) (hi : X.N[n]? = some nm := by rfl) (hx : Loc X.env.scope nm := by first | exact Or.inl rfl | exact Or.inr rfl) (hf : X.fn nm = true ∨ X.env.scope.names.lookup nm = some .local := by first | exact .inl rfl | exact .inr rfl | assumption) :
    XG X (.Name nm pos) [n] d ρ (ρ.set n (.d d)) := fun F0 G F H σ v k r Q q pins s u I ru =>
  (pg_name hN hi hx hf).run pins s σ H v u Q I ru (q _ (k.set r) (by rw [List.length_set]) fun i hi => List.getElem?_set_ne (fun e => hi (by simp [e])))
def XGs (X : Cx) (es : List Expr) (vs : List Nat) (ds : List D) (ρ ρ' : List Sl) : Prop := ∃ t : TGs, PGs X es t ∧ ∀ (F0 G F H : Hp) (σ : L2.St) (ws : List V), Ok X.K F0 G F H σ ρ → Rps X.K F ws ds → ∀ Q : L2.St → Hp → Prop,
  (∀ σ', Ok X.K F0 G F H σ' ρ' → σ'.length = σ.length → (∀ i, i ∉ vs → σ'[i]? = σ[i]?) → Q σ' H) → t ws σ H Q
theorem xgs_nil : XGs X [] [] [] ρ ρ := ⟨_, pgs_nil, fun F0 G F H σ ws k r Q q => by
  cases r
  exact ⟨rfl, q σ k rfl fun _ _ => rfl⟩⟩
theorem xgs_cons {vs ws : List Nat} (h : XG X e vs x ρ ρ1) (t : XGs X es ws ds ρ1 ρ2) (hs : (assignEach (e :: es) X.env).map (·.2) = assign e X.env :: (assignEach es X.env).map (·.2) := by rfl) : XGs X (e :: es) (vs ++ ws) (x :: ds) ρ ρ2 := by
  obtain ⟨t, p, g⟩ := t
  refine ⟨_, pgs_cons (pcG e) p hs, fun F0 G F H σ us k r Q q => ?_⟩
  cases r with
  | cons r1 r2 =>
    refine ⟨_, _, rfl, h F0 G F H σ _ k r1 _ fun σ1 k1 l1 n1 => g F0 G F H σ1 _ k1 r2 Q fun σ2 k2 l2 n2 => q σ2 k2 (by rw [l2, l1]) fun i hi => ?_⟩
    rw [n2 i fun z => hi (List.mem_append_right _ z), n1 i fun z => hi (List.mem_append_left _ z)]
theorem xg_tup {k : Nat} {vs : List Nat} {n : Nat} (hc : X.calm = true) (h : XGs X es vs ds ρ ρ1) (hl : ds.length = n := by rfl) (hn : (assignEach es X.env).length = n := by rfl) (hst : (assignEach es X.env).findIdx? (·.1) = none := by rfl) : XG X (.Tuple es k pos) vs (.tuple ds) ρ ρ1 := by
  obtain ⟨t, p, g⟩ := h
  intro F0 G F H σ v k r Q q pins s u I ru
  refine (pg_tup hc p hn hst).run pins s σ H v u Q I ru ?_
  cases r with
  | tup s r => exact ⟨_, _, rfl, sqT_mono k.fh s, by rw [Rps.length r]; exact hl, g F0 G F H σ _ k r Q q⟩
theorem xs_asg {tg : Expr} {vs : List Nat} (h : XE X e ρ d ρ1) (hg : XG X tg vs d ρ1 ρ2) (hs : swapsWithSole [tg] e pos.line X.env = pure false := by rfl) (hw : swappedStores [tg] e X.env = pure none := by rfl)
    (h1 : (assignEach [tg] X.env).map (·.2) = [assign tg X.env] := by rfl) : XS X (.Assign [tg] e pos) ρ (.nx ρ2) :=
  .of (ps_asg (pcE e) (pcG tg) hs hw h1) fun F0 G F H σ k Dn q => h F0 G F H σ k _ fun v F1 H1 k1 f1 d1 => hg F0 G F1 H1 σ v k1 d1 _ fun σ1 k2 _ _ => q σ1 F1 H1 k2 f1

/-! ### what is walked -/
structure Yl (K : PySem.W.Frag) (J : It) (F : Hp) (xs : List D) : Prop where
  go : ∀ i H, Same F H → i < xs.length → J.go i H
  stop : ∀ H, Same F H → J.stop xs.length H
  yld : ∀ i H x H' F1, Same F F1 → Same F1 H → J.yld i H x H' → ∀ d, xs[i]? = some d → ∃ F2, Gr F1 H F2 H' ∧ Rp K F2 x d
def XI (X : Cx) (tg iter : Expr) (ρ : List Sl) (xs : List D) (ρ' : List Sl) : Prop := ∀ (F0 G F H : Hp) (σ : L2.St), Ok X.K F0 G F H σ ρ → ∀ R : It → Hp → Prop,
  (∀ J F' H', Ok X.K F0 G F' H' σ ρ' → Same F F' → Yl X.K J F' xs → R J H') → cI X tg iter σ H R
theorem XI.of {tg : Expr} {ti : TI} (h : PI X tg e ti) (t : ∀ (F0 G F H : Hp) (σ : L2.St), Ok X.K F0 G F H σ ρ → ∀ R : It → Hp → Prop, (∀ J F' H', Ok X.K F0 G F' H' σ ρ1 → Same F F' → Yl X.K J F' ds → R J H') → ti σ H R) : XI X tg e ρ ds ρ1 :=
  fun F0 G F H σ k R q pins s I => h.run pins s σ H R I (t F0 G F H σ k R q)
theorem atN {α : Type} {xs : List α} {i : Nat} (h : i < xs.length) : ∃ x, xs[i]? = some x := ⟨_, List.getElem?_eq_getElem h⟩
theorem xi_list {tg : Expr} (h : XE X e ρ (.list ds) ρ1) : XI X tg e ρ ds ρ1 :=
  .of (pi_list (pcE e)) fun F0 G F H σ k R q => h F0 G F H σ k _ fun v F1 H1 k1 f1 d1 => by
    cases d1 with
    | @lst a vs _ s r =>
      refine ⟨a, rfl, ⟨vs, .of (k1.fh _ _ s)⟩, q _ F1 H1 k1 f1 ⟨fun i H2 f2 hi => ?_, fun H2 f2 => ⟨vs, .of (f2 _ _ s), by rw [Rps.length r]; exact Nat.le_refl _⟩, fun i H2 x H3 F2 f2 f3 hy d hd => ?_⟩⟩
      · obtain ⟨y, hy⟩ := atN (xs := vs) (i := i) (by rw [Rps.length r]; exact hi)
        exact ⟨vs, y, .of (f2 _ _ s), hy⟩
      · obtain ⟨rfl, hy⟩ := hy
        obtain ⟨w, e1, e2⟩ := Rps.get r hd
        have := hy vs (.of (f3 _ _ (f2 _ _ s)))
        rw [e1] at this
        cases this
        exact ⟨F2, .refl f3, rp_mono f2 _ _ e2⟩
theorem xi_tup {tg : Expr} (h : XE X e ρ (.tuple ds) ρ1) : XI X tg e ρ ds ρ1 :=
  .of (pi_tup (pcE e)) fun F0 G F H σ k R q => h F0 G F H σ k _ fun v F1 H1 k1 f1 d1 => by
    cases d1 with
    | @tup a vs _ s r =>
      refine ⟨a, rfl, ⟨vs, sqT_mono k1.fh s⟩, q _ F1 H1 k1 f1 ⟨fun i H2 f2 hi => ?_, fun H2 f2 => ⟨vs, sqT_mono f2 s, by rw [Rps.length r]; exact Nat.le_refl _⟩, fun i H2 x H3 F2 f2 f3 hy d hd => ?_⟩⟩
      · obtain ⟨y, hy⟩ := atN (xs := vs) (i := i) (by rw [Rps.length r]; exact hi)
        exact ⟨vs, y, sqT_mono f2 s, hy⟩
      · obtain ⟨rfl, hy⟩ := hy
        obtain ⟨w, e1, e2⟩ := Rps.get r hd
        have := hy vs (sqT_mono (f2.trans f3) s)
        rw [e1] at this
        cases this
        exact ⟨F2, .refl f3, rp_mono f2 _ _ e2⟩
/-- lo, lo + 1, .. -/
def rangeD (lo : Int) (n : Nat) : List D := (List.range n).map fun i => .int (lo + (i : Nat))
theorem rangeD_len (lo : Int) (n : Nat) : (rangeD lo n).length = n := by simp [rangeD]
theorem rangeD_at {lo : Int} {n i : Nat} {d : D} (h : (rangeD lo n)[i]? = some d) : i < n ∧ d = .int (lo + (i : Nat)) := by
  unfold rangeD at h
  rw [List.getElem?_map, Option.map_eq_some_iff] at h
  obtain ⟨k, h1, h2⟩ := h
  obtain ⟨h3, h4⟩ := List.getElem?_eq_some_iff.mp h1
  rw [List.length_range] at h3
  rw [List.getElem_range] at h4
  subst h4
  exact ⟨h3, h2.symm⟩
theorem yl_range {K : PySem.W.Frag} {F : Hp} {lo : Int} {n : Nat} : Yl K (Itr lo n) F (rangeD lo n) :=
  ⟨fun i H _ hi => by rw [rangeD_len] at hi; exact hi, fun H _ => by rw [rangeD_len]; exact Nat.le_refl n, fun i H x H' F1 f1 f2 hy d hd => by
    obtain ⟨rfl, rfl⟩ := hy
    obtain ⟨h1, rfl⟩ := rangeD_at hd
    exact ⟨F1, .refl f2, .int _⟩⟩
theorem xi_range1 {tg : Expr} {p : Pos} (hg : Gl X "range") (hm : X.mg "range" = none) (h : XE X a ρ (.int i) ρ1) (hi : i < 1000000) (hz : -1000000 < i) (hs : starEach [a] X.env = [(false, eval a X.env)] := by rfl) (hst : starEach [a] X.env = (false, eval a X.env) :: starEach [] X.env := by rfl) : XI X tg (.Call (.Name "range" p) [a] [] pos) ρ (rangeD 0 i.toNat) ρ1 :=
  .of (pi_range1 hg hm (pa_cons (pcE a) pa_nil hst) hs) fun F0 G F H σ k R q => h F0 G F H σ k _ fun v F1 H1 k1 f1 d1 => by
    cases d1
    exact ⟨i, rfl, by omega, by omega, q _ F1 H1 k1 f1 yl_range⟩
theorem xi_range2 {tg : Expr} {p : Pos} (hg : Gl X "range") (hm : X.mg "range" = none) (h : XE X a ρ (.int i) ρ1) (h2 : XE X b ρ1 (.int j) ρ2) (hi : -1000000 < i ∧ i < 1000000 ∧ -1000000 < j ∧ j < 1000000) (hs : starEach [a, b] X.env = [(false, eval a X.env), (false, eval b X.env)] := by rfl) (hs2 : starEach [b] X.env = [(false, eval b X.env)] := by rfl)
    (hst : starEach [a, b] X.env = (false, eval a X.env) :: starEach [b] X.env := by rfl) (hst2 : starEach [b] X.env = (false, eval b X.env) :: starEach [] X.env := by rfl) : XI X tg (.Call (.Name "range" p) [a, b] [] pos) ρ (rangeD i (j - i).toNat) ρ2 :=
  .of (pi_range2 hg hm (pa_cons (pcE a) (pa_cons (pcE b) pa_nil hst2) hst) hs hs2) fun F0 G F H σ k R q => h F0 G F H σ k _ fun v F1 H1 k1 f1 d1 => h2 F0 G F1 H1 σ k1 _ fun w F2 H2 k2 f2 d2 => by
    cases d1
    cases d2
    exact ⟨i, j, rfl, ⟨by omega, by omega, by omega, by omega⟩, q _ F2 H2 k2 (f1.trans f2) yl_range⟩
/-! ### for -/
/-- the turns of a for over some items -/
inductive LR (X : Cx) (tg : Expr) (body : List Stmt) : List D → List Sl → Out → Prop
  | nil {ρ : List Sl} : LR X tg body [] ρ (.nx ρ)
  | next {x : D} {xs : List D} {vs : List Nat} {ρ ρ1 ρ2 : List Sl} {o : Out} : XG X tg vs x ρ ρ1 → XSs X body ρ1 (.nx ρ2) → LR X tg body xs ρ2 o → LR X tg body (x :: xs) ρ o
  | cont {x : D} {xs : List D} {vs : List Nat} {ρ ρ1 ρ2 : List Sl} {o : Out} : XG X tg vs x ρ ρ1 → XSs X body ρ1 (.ct ρ2) → LR X tg body xs ρ2 o → LR X tg body (x :: xs) ρ o
  | ret {x d : D} {xs : List D} {vs : List Nat} {ρ ρ1 ρ2 : List Sl} : XG X tg vs x ρ ρ1 → XSs X body ρ1 (.rt d ρ2) → LR X tg body (x :: xs) ρ (.rt d ρ2)
  | brk {x : D} {xs : List D} {vs : List Nat} {ρ ρ1 ρ2 : List Sl} : XG X tg vs x ρ ρ1 → XSs X body ρ1 (.bk ρ2) → LR X tg body (x :: xs) ρ (.nx ρ2)
theorem xs_for {tg : Expr} {body : List Stmt} (hp : PassesOwn (model X.prog X.w) X.A X.env X.xe) (hc : X.calm = true) (hi : XI X tg e ρ ds ρ1) (hl : LR X tg body ds ρ1 o) (hfs : ∀ x, foldedSetIterable e X.env x = pure x := by intro _; rfl) : XS X (.For tg e body [] pos) ρ o :=
  .of (ps_for hp hc (pcI tg e) (pcG tg) (pcSs body) hfs) fun F0 G F H σ k Dn q => hi F0 G F H σ k _ fun J F1 H1 k1 f1 yl => by
    refine ⟨fun i m σ H => m = ds.length - i ∧ i ≤ ds.length ∧ ∃ F2 ρ2, Ok X.K F0 G F2 H σ ρ2 ∧ Same F1 F2 ∧ LR X tg body (ds.drop i) ρ2 o, ⟨_, rfl, Nat.zero_le _, F1, ρ1, k1, Same.refl _, hl⟩, ?_⟩
    rintro i m σ H ⟨rfl, hle, F2, ρ2, k2, f2, lr⟩
    have q2 : o.At X.K F0 G F2 Dn := q.mono (f1.trans f2)
    by_cases hlt : i < ds.length
    · have hd : ds.drop i = ds[i] :: ds.drop (i + 1) := List.drop_eq_getElem_cons hlt
      rw [hd] at lr
      have hx : ds[i]? = some ds[i] := List.getElem?_eq_getElem hlt
      refine .inr ⟨yl.go i H (f2.trans k2.fh) hlt, _, fun σ' H' w => ⟨ds.length - (i + 1), by omega, w⟩, fun x H' hy => ?_⟩
      obtain ⟨F3, gr, r3⟩ := yl.yld i H x H' F2 f2 k2.fh hy _ hx
      have k3 := k2.gr gr
      have f3 : Same F1 F3 := f2.trans gr.f
      cases lr with
      | next g1 b1 l1 => exact g1 F0 G F3 H' σ x k3 r3 _ fun σ4 k4 _ _ => b1 F0 G F3 H' σ4 k4 _ fun σ5 F5 H5 k5 f5 => ⟨rfl, hlt, F5, _, k5, f3.trans f5, l1⟩
      | cont g1 b1 l1 => exact g1 F0 G F3 H' σ x k3 r3 _ fun σ4 k4 _ _ => b1 F0 G F3 H' σ4 k4 _ fun σ5 F5 H5 k5 f5 => ⟨rfl, hlt, F5, _, k5, f3.trans f5, l1⟩
      | ret g1 b1 => exact g1 F0 G F3 H' σ x k3 r3 _ fun σ4 k4 _ _ => b1 F0 G F3 H' σ4 k4 _ fun v σ5 F5 H5 k5 f5 d5 => q2 v σ5 F5 H5 k5 (gr.f.trans f5) d5
      | brk g1 b1 => exact g1 F0 G F3 H' σ x k3 r3 _ fun σ4 k4 _ _ => b1 F0 G F3 H' σ4 k4 _ fun σ5 F5 H5 k5 f5 => q2 σ5 F5 H5 k5 (gr.f.trans f5)
    · have hi : i = ds.length := by omega
      subst hi
      rw [List.drop_length] at lr
      cases lr
      exact .inl ⟨yl.stop H (f2.trans k2.fh), q2 σ F2 H k2 (Same.refl _)⟩
/-! ### while -/
inductive WR (X : Cx) (c : Expr) (body : List Stmt) : Nat → List Sl → Out → Prop
  | stop {n : Nat} {ρ ρ1 : List Sl} : XT X c ρ false ρ1 → WR X c body n ρ (.nx ρ1)
  | next {n : Nat} {ρ ρ1 ρ2 : List Sl} {o : Out} : XT X c ρ true ρ1 → XSs X body ρ1 (.nx ρ2) → WR X c body n ρ2 o → WR X c body (n + 1) ρ o
  | ret {n : Nat} {d : D} {ρ ρ1 ρ2 : List Sl} : XT X c ρ true ρ1 → XSs X body ρ1 (.rt d ρ2) → WR X c body n ρ (.rt d ρ2)
theorem xs_while {body : List Stmt} {n : Nat} (hp : PassesOwn (model X.prog X.w) X.A X.env X.xe) (h : WR X c body n ρ o) : XS X (.While c body [] pos) ρ o :=
  .of (ps_while hp (pcT c) (pcSs body)) fun F0 G F H σ k Dn q => by
    refine ⟨fun m σ H => ∃ F2 ρ2, Ok X.K F0 G F2 H σ ρ2 ∧ Same F F2 ∧ WR X c body m ρ2 o, ⟨n, F, ρ, k, Same.refl _, h⟩, ?_⟩
    rintro m σ H ⟨F2, ρ2, k2, f2, wr⟩
    have q2 : o.At X.K F0 G F2 Dn := q.mono f2
    cases wr with
    | stop t1 =>
      refine t1 F0 G F2 H σ k2 _ fun F3 H3 k3 f3 => ?_
      rw [if_neg Bool.false_ne_true]
      exact q2 σ F3 H3 k3 f3
    | @next m' _ _ _ _ t1 b1 w1 =>
      refine t1 F0 G F2 H σ k2 _ fun F3 H3 k3 f3 => ?_
      rw [if_pos rfl]
      refine ⟨_, fun σ' H' w => ⟨m', Nat.lt_succ_self _, w⟩, b1 F0 G F3 H3 σ k3 _ fun σ5 F5 H5 k5 f5 => ⟨F5, _, k5, (f2.trans f3).trans f5, w1⟩⟩
    | ret t1 b1 =>
      refine t1 F0 G F2 H σ k2 _ fun F3 H3 k3 f3 => ?_
      rw [if_pos rfl]
      exact ⟨fun _ _ => False, fun _ _ z => z.elim, b1 F0 G F3 H3 σ k3 _ fun v σ5 F5 H5 k5 f5 d5 => q2 v σ5 F5 H5 k5 (f3.trans f5) d5⟩
end
end DL
set_option Elab.async false
set_option linter.all false
set_option maxRecDepth 100000
set_option maxHeartbeats 2000000
namespace DL
open PySem PySem.Spec PyProof.Rows L2
/-! ### comprehensions -/
theorem wipe_at {τ : L2.St} {i : Nat} : ∀ {vs : List Nat}, i ∈ vs → i < τ.length → (wipe τ vs)[i]? = some none
  | v :: vs, h, hl => by
    unfold wipe
    by_cases e : v = i
    · subst e
      rw [List.getElem?_set_self (by rw [wipe_length]; exact hl)]
    · rw [List.getElem?_set_ne e]
      exact wipe_at ((List.mem_cons.mp h).resolve_left (fun z => e z.symm)) hl
theorem wipe_ext {τ τ' : L2.St} {vs : List Nat} (hl : τ'.length = τ.length) (h : ∀ i, i ∉ vs → τ'[i]? = τ[i]?) : wipe τ' vs = wipe τ vs := by
  apply List.ext_getElem?
  intro i
  by_cases hi : i ∈ vs
  · by_cases hlt : i < τ.length
    · rw [wipe_at hi hlt, wipe_at hi (by rw [hl]; exact hlt)]
    · rw [List.getElem?_eq_none (by rw [wipe_length]; omega), List.getElem?_eq_none (by rw [wipe_length]; omega)]
  · rw [wipe_out hi, wipe_out hi]
    exact h i hi
theorem wipe_wipe (τ : L2.St) {vs ws : List Nat} (h : ∀ i ∈ ws, i ∈ vs) : wipe (wipe τ ws) vs = wipe τ vs := wipe_ext (wipe_length _ _) fun i hi => wipe_out fun z => hi (h i z)
def wipeS (ρ : List Sl) : List Nat → List Sl
  | [] => ρ
  | v :: vs => (wipeS ρ vs).set v .u
def Sl.kept : Option Sl → Sl
  | some (.d x) => .d x
  | _ => .u
/-- behind a block: its own names as they were ahead of it -/
def backS (ρ0 ρ : List Sl) : List Nat → List Sl
  | [] => ρ
  | v :: vs => (backS ρ0 ρ vs).set v (Sl.kept ρ0[v]?)
theorem backS_len (ρ0 ρ : List Sl) : ∀ vs : List Nat, (backS ρ0 ρ vs).length = ρ.length
  | [] => rfl
  | v :: vs => by unfold backS; rw [List.length_set, backS_len ρ0 ρ vs]
theorem backS_out {ρ0 ρ : List Sl} {i : Nat} : ∀ {vs : List Nat}, i ∉ vs → (backS ρ0 ρ vs)[i]? = ρ[i]?
  | [], _ => rfl
  | v :: vs, h => by
    have h1 : v ≠ i := fun e => h (by rw [e]; exact List.mem_cons_self)
    unfold backS
    rw [List.getElem?_set_ne h1]
    exact backS_out fun m => h (List.mem_cons_of_mem _ m)
theorem backS_at {ρ0 ρ : List Sl} {i : Nat} : ∀ {vs : List Nat}, i ∈ vs → i < ρ.length → (backS ρ0 ρ vs)[i]? = some (Sl.kept ρ0[i]?)
  | v :: vs, h, hl => by
    unfold backS
    by_cases e : v = i
    · subst e
      rw [List.getElem?_set_self (by rw [backS_len]; exact hl)]
    · rw [List.getElem?_set_ne e]
      exact backS_at ((List.mem_cons.mp h).resolve_left (fun z => e z.symm)) hl
section
variable {K : PySem.W.Frag} {F0 G F F1 H H1 : Hp} {σ : L2.St} {ρ ρ0 : List Sl}
theorem Ok.unset (k : Ok K F0 G F H σ ρ) (v : Nat) : Ok K F0 G F H (σ.set v none) (ρ.set v .u) := by
  have low : ∀ {i : Nat} {s : Sl}, (ρ.set v .u)[i]? = some s → s ≠ .u → i ≠ v ∧ ρ[i]? = some s := fun {i s} e n => by
    by_cases hi : i = v
    · subst hi
      have hn : i < ρ.length := by
        have := (List.getElem?_eq_some_iff.mp e).1
        rwa [List.length_set] at this
      rw [List.getElem?_set_self hn] at e
      exact absurd (Option.some.inj e).symm n
    · rw [List.getElem?_set_ne (Ne.symm hi)] at e
      exact ⟨hi, e⟩
  have nu : ∀ {s : Sl} {xs : Own}, s.has = some xs → s ≠ .u := fun {s xs} o z => by subst z; cases o
  refine ⟨by rw [List.length_set, List.length_set]; exact k.len, k.fh, k.gh, k.g0, fun i x e => ?_, fun i a xs e => ?_, fun i s xs e o => ?_, fun i j s t xs ys a h1 h2 h3 h4 h5 h6 => ?_⟩
  · obtain ⟨n, e⟩ := low e (by intro z; cases z)
    rw [List.getElem?_set_ne (Ne.symm n)]
    exact k.dat i x e
  · obtain ⟨n, e⟩ := low e (by intro z; cases z)
    rw [List.getElem?_set_ne (Ne.symm n)]
    exact k.bor i a xs e
  · obtain ⟨n, e⟩ := low e (nu o)
    rw [List.getElem?_set_ne (Ne.symm n)]
    exact k.has i s xs e o
  · obtain ⟨n1, e1⟩ := low h1 (nu h2)
    obtain ⟨n2, e2⟩ := low h3 (nu h4)
    rw [List.getElem?_set_ne (Ne.symm n1)] at h5
    rw [List.getElem?_set_ne (Ne.symm n2)] at h6
    exact k.djh i j s t xs ys a e1 h2 e2 h4 h5 h6
theorem Ok.wipe (k : Ok K F0 G F H σ ρ) : ∀ vs : List Nat, Ok K F0 G F H (L2.wipe σ vs) (wipeS ρ vs)
  | [] => k
  | v :: vs => (Ok.wipe k vs).unset v
theorem Ok.back {vs : List Nat} (k0 : Ok K F0 G F1 H1 σ ρ0) (f : Same F1 F) (k : Ok K F0 G F H (L2.wipe σ vs) ρ) : Ok K F0 G F H σ (backS ρ0 ρ vs) := by
  have hl : σ.length = ρ.length := by rw [← k.len, wipe_length]
  have dat : ∀ (i : Nat) (x : D), Sl.kept ρ0[i]? = .d x → ρ0[i]? = some (.d x) := fun i x e => by
    cases q : ρ0[i]? with
    | none => rw [q] at e; cases e
    | some s => rw [q] at e; cases s <;> first | cases e; rfl | cases e
  have nokept : ∀ (i : Nat) (xs : Own), (Sl.kept ρ0[i]?).has ≠ some xs := fun i xs e => by
    cases q : ρ0[i]? with
    | none => rw [q] at e; cases e
    | some s => rw [q] at e; cases s <;> cases e
  have low : ∀ {i : Nat} {s : Sl} {xs : Own}, (backS ρ0 ρ vs)[i]? = some s → s.has = some xs → i ∉ vs ∧ ρ[i]? = some s := fun {i s xs} e o => by
    by_cases hi : i ∈ vs
    · have hlt : i < ρ.length := by
        have := (List.getElem?_eq_some_iff.mp e).1
        rwa [backS_len] at this
      rw [backS_at hi hlt] at e
      cases e
      exact absurd o (nokept i xs)
    · rw [backS_out hi] at e
      exact ⟨hi, e⟩
  refine ⟨by rw [backS_len]; exact hl, k.fh, k.gh, k.g0, fun i x e => ?_, fun i a xs e => ?_, fun i s xs e o => ?_, fun i j s t xs ys a h1 h2 h3 h4 h5 h6 => ?_⟩
  · by_cases hi : i ∈ vs
    · have hlt : i < ρ.length := by
        have := (List.getElem?_eq_some_iff.mp e).1
        rwa [backS_len] at this
      rw [backS_at hi hlt] at e
      obtain ⟨v, q1, q2⟩ := k0.dat i x (dat i x (Option.some.inj e))
      exact ⟨v, q1, rp_mono f _ _ q2⟩
    · rw [backS_out hi] at e
      obtain ⟨v, q1, q2⟩ := k.dat i x e
      rw [wipe_out hi] at q1
      exact ⟨v, q1, q2⟩
  · obtain ⟨hi, e⟩ := low e (xs := .l xs) rfl
    have q1 := k.bor i a xs e
    rwa [wipe_out hi] at q1
  · obtain ⟨hi, e⟩ := low e o
    obtain ⟨a, ws, q1, q⟩ := k.has i s xs e o
    rw [wipe_out hi] at q1
    exact ⟨a, ws, q1, q⟩
  · obtain ⟨n1, e1⟩ := low h1 h2
    obtain ⟨n2, e2⟩ := low h3 h4
    rw [← wipe_out n1] at h5
    rw [← wipe_out n2] at h6
    exact k.djh i j s t xs ys a e1 h2 e2 h4 h5 h6
/-! the thing that is made meanwhile, at Da: o -/
def lessD (F0 : Hp) (Da : Addr) : Hp := fun b => if b = Da then none else F0 b
theorem Ok.begin {Da : Addr} {o : HO} (k : Ok K F0 G F H σ ρ) (hD : H Da = none) : Ok K (lessD F0 Da) (upd G Da o) F (upd H Da o) σ ρ ∧ G Da = none := by
  have gD : G Da = none := by
    cases e : G Da with
    | none => rfl
    | some u => rw [k.gh Da u e] at hD; cases hD
  have fD : F Da = none := by
    cases e : F Da with
    | none => rfl
    | some u => rw [k.fh Da u e] at hD; cases hD
  refine ⟨⟨k.len, fun b u e => ?_, fun b u e => ?_, fun b hb => ?_, k.dat, k.bor, fun i s xs e o' => ?_, k.djh⟩, gD⟩
  · rw [upd_ne (fun z => by rw [z, fD] at e; cases e)]; exact k.fh b u e
  · by_cases hb : b = Da
    · subst hb; rw [upd_same] at e ⊢; exact e
    · rw [upd_ne hb] at e ⊢; exact k.gh b u e
  · unfold lessD
    by_cases hbD : b = Da
    · rw [if_pos hbD, hbD]; exact fD
    · rw [if_neg hbD]
      rw [upd_ne hbD] at hb
      exact k.g0 b hb
  · obtain ⟨a, ws, q1, q2, q3, q4, q5⟩ := k.has i s xs e o'
    have ha : a ≠ Da := fun z => by rw [z, hD] at q2; cases q2
    exact ⟨a, ws, q1, by rw [upd_ne ha]; exact q2, q3, by rw [upd_ne ha]; exact q4, q5⟩
theorem Ok.atD {Da : Addr} {o : HO} (k : Ok K (lessD F0 Da) (upd G Da o) F H σ ρ) (mo : Mut (some o) := by exact True.intro) : H Da = some o ∧ F Da = none := by
  refine ⟨k.gh Da o upd_same, ?_⟩
  rw [k.g0 Da (by rw [upd_same]; exact mo)]
  exact if_pos rfl
theorem Ok.putD {Da : Addr} {o o' : HO} (k : Ok K (lessD F0 Da) (upd G Da o) F H σ ρ) (mo : Mut (some o) := by exact True.intro) : Ok K (lessD F0 Da) (upd G Da o') F (upd H Da o') σ ρ := by
  have fD := (k.atD mo).2
  refine ⟨k.len, fun b u e => ?_, fun b u e => ?_, fun b hb => ?_, k.dat, k.bor, fun i s xs e o' => ?_, k.djh⟩
  · rw [upd_ne (fun z => by rw [z, fD] at e; cases e)]; exact k.fh b u e
  · by_cases hb : b = Da
    · subst hb; rw [upd_same] at e ⊢; exact e
    · rw [upd_ne hb] at e ⊢; exact k.gh b u (by rw [upd_ne hb]; exact e)
  · refine k.g0 b ?_
    by_cases hbD : b = Da
    · rw [hbD, upd_same]; exact mo
    · rw [upd_ne hbD] at hb ⊢; exact hb
  · obtain ⟨a, ws, q1, q2, q3, q4, q5⟩ := k.has i s xs e o'
    have ha : a ≠ Da := fun z => by rw [z, upd_same] at q4; cases q4
    rw [upd_ne ha] at q4
    exact ⟨a, ws, q1, by rw [upd_ne ha]; exact q2, q3, by rw [upd_ne ha]; exact q4, q5⟩
theorem Ok.endD {Da : Addr} {o : HO} (k : Ok K (lessD F0 Da) (upd G Da o) F H σ ρ) (gD : G Da = none) : Ok K F0 G F H σ ρ ∧ ∀ (i : Nat) (s : Sl) (ys : Own), ρ[i]? = some s → s.has = some ys → σ[i]? ≠ some (some (V.ref Da)) := by
  refine ⟨⟨k.len, k.fh, fun b u e => ?_, fun b hb => ?_, k.dat, k.bor, fun i s xs e o' => ?_, k.djh⟩, fun i s ys e o' z => ?_⟩
  · have hb : b ≠ Da := fun z => by rw [z, gD] at e; cases e
    exact k.gh b u (by rw [upd_ne hb]; exact e)
  · have hbD : b ≠ Da := mut_ne gD hb
    have := k.g0 b (by rw [upd_ne hbD]; exact hb)
    rw [this]
    exact if_neg hbD
  · obtain ⟨a, ws, q1, q2, q3, q4, q5⟩ := k.has i s xs e o'
    have ha : a ≠ Da := fun z => by rw [z, upd_same] at q4; cases q4
    rw [upd_ne ha] at q4
    exact ⟨a, ws, q1, q2, q3, q4, q5⟩
  · obtain ⟨a, ws, q1, q2, q3, q4, q5⟩ := k.has i s ys e o'
    rw [q1] at z
    cases z
    rw [upd_same] at q4
    cases q4
end
/-! ### tests of a clause -/
def cTs (X : Cx) (ifs : List Expr) : TT := fun σ H Q => ∀ (pins : List (Addr × Obj)) (s : Shared), Inv X pins σ H s →
    wpAny (model X.prog X.w) X.A (forIn ifs true fun c r => if r = true then do let ok ← isTrue c X.env (eval c X.env); pure (ForInStep.yield ok) else pure (ForInStep.yield r)) (TP X pins σ Q) X.xe s
def XTs (X : Cx) (ifs : List Expr) (ρ : List Sl) (b : Bool) (ρ' : List Sl) : Prop := ∀ (F0 G F H : Hp) (σ : L2.St), Ok X.K F0 G F H σ ρ → ∀ Q : Bool → Hp → Prop,
  (∀ F' H', Ok X.K F0 G F' H' σ ρ' → Same F F' → Q b H') → cTs X ifs σ H Q
theorem xts_nil {X : Cx} {ρ : List Sl} : XTs X [] ρ true ρ := fun F0 G F H σ k Q q pins s I => pts_nil.run pins s σ H Q I (q F H k (Same.refl _))
theorem xts_one {X : Cx} {c : Expr} {ρ ρ1 : List Sl} {b : Bool} (h : XT X c ρ b ρ1) : XTs X [c] ρ b ρ1 := fun F0 G F H σ k Q q pins s I =>
  (pts_one (pcT c)).run pins s σ H Q I (h F0 G F H σ k Q q)
section
variable (X : Cx) (scope : Scope)
abbrev bX (s : Shared) (H : Hp) (C : Addr) (cl : List (Str × Addr)) (fp : List Addr) : Cx := X.blk s H scope (compEnvC scope cl C X.env) fp
def bE (e : Expr) : TE := fun σ H Q => ∀ s H0 C cl fp, cE (bX X scope s H0 C cl fp) e σ H Q
def bTs (e : List Expr) : TT := fun σ H Q => ∀ s H0 C cl fp, cTs (bX X scope s H0 C cl fp) e σ H Q
def bG (e : Expr) : TG := fun v σ H Q => ∀ s H0 C cl fp, cG (bX X scope s H0 C cl fp) e v σ H Q
def bI (tg e : Expr) : TI := fun σ H R => ∀ s H0 C cl fp, cI (bX X scope s H0 C cl fp) tg e σ H R
/-- the turns of a clause: items, slots, what is made, slots behind -/
inductive LC (tg : Expr) (ifs : List Expr) (elt : Expr) (vs : List Nat) : List D → List Sl → List D → List Sl → Prop
  | nil {ρ : List Sl} : LC tg ifs elt vs [] ρ [] ρ
  | take {x y : D} {xs ys : List D} {ws : List Nat} {ρ ρ1 ρ2 ρ3 ρ' : List Sl} : (∀ s H C cl fp, XG (bX X scope s H C cl fp) tg ws x ρ ρ1) → (∀ i ∈ ws, i ∈ vs) → (∀ s H C cl fp, XTs (bX X scope s H C cl fp) ifs ρ1 true ρ2) → (∀ s H C cl fp, XE (bX X scope s H C cl fp) elt ρ2 y ρ3) → LC tg ifs elt vs xs (wipeS ρ3 vs) ys ρ' → LC tg ifs elt vs (x :: xs) ρ (y :: ys) ρ'
  | skip {x : D} {xs ys : List D} {ws : List Nat} {ρ ρ1 ρ2 ρ' : List Sl} : (∀ s H C cl fp, XG (bX X scope s H C cl fp) tg ws x ρ ρ1) → (∀ i ∈ ws, i ∈ vs) → (∀ s H C cl fp, XTs (bX X scope s H C cl fp) ifs ρ1 false ρ2) → LC tg ifs elt vs xs (wipeS ρ2 vs) ys ρ' → LC tg ifs elt vs (x :: xs) ρ ys ρ'
end
section
variable {X : Cx} {scope : Scope} {tg elt iter : Expr} {ifs : List Expr} {vs : List Nat} {F0 G : Hp} {Da : Addr}
theorem lc_loop {J : It} {xs ys zs : List D} {F1 H1 : Hp} {σ : L2.St} {ρ ρ' : List Sl} {acc0 : List V} {Qd : Hp → Prop} (yl : Yl X.K J F1 xs) (lc : LC X scope tg ifs elt vs xs ρ ys ρ') (k1 : Ok X.K (lessD F0 Da) (upd G Da (.lst acc0)) F1 H1 (wipe σ vs) ρ) (r0 : Rps X.K F1 acc0 zs) (hz : (zs ++ ys).length < 1000000)
    (fin : ∀ F H acc, Ok X.K (lessD F0 Da) (upd G Da (.lst acc)) F H (wipe σ vs) ρ' → Same F1 F → Rps X.K F acc (zs ++ ys) → Qd H) :
    ∃ W : Nat → Nat → Hp → Prop, (∃ m, W 0 m H1) ∧ ∀ i m H, W i m H →
      (J.stop i H ∧ Qd H) ∨ (J.go i H ∧ ∃ Nx : Hp → Prop, (∀ H', Nx H' → ∃ m', m' < m ∧ W (i + 1) m' H') ∧ ∀ x H', J.yld i H x H' → bG X scope tg x (wipe σ vs) H' fun σ2 H2 => wipe σ2 vs = wipe σ vs ∧ bTs X scope ifs σ2 H2 fun b H3 =>
        if b = true then bE X scope elt σ2 H3 fun y H4 => ∃ acc, H4 Da = some (.lst acc) ∧ acc.length < sizeLine ∧ Nx (upd H4 Da (.lst (acc ++ [y]))) else Nx H3) := by
  refine ⟨fun i m H => m = xs.length - i ∧ i ≤ xs.length ∧ ∃ F ρi acc zs1 ys1, Ok X.K (lessD F0 Da) (upd G Da (.lst acc)) F H (wipe σ vs) ρi ∧ Same F1 F ∧ Rps X.K F acc zs1 ∧ LC X scope tg ifs elt vs (xs.drop i) ρi ys1 ρ' ∧ zs1 ++ ys1 = zs ++ ys, ⟨_, rfl, Nat.zero_le _, F1, ρ, acc0, zs, ys, k1, Same.refl _, r0, lc, rfl⟩, ?_⟩
  rintro i m H ⟨rfl, hle, F, ρi, acc, zs1, ys1, k, f, r, lc, e⟩
  by_cases hlt : i < xs.length
  · rw [List.drop_eq_getElem_cons hlt] at lc
    have hx : xs[i]? = some xs[i] := List.getElem?_eq_getElem hlt
    refine .inr ⟨yl.go i H (f.trans k.fh) hlt, _, fun H' w => ⟨xs.length - (i + 1), by omega, w⟩, fun x H' hy => ?_⟩
    obtain ⟨F3, gr, r3⟩ := yl.yld i H x H' F f k.fh hy _ hx
    have k3 := k.gr gr
    cases lc with
    | take g1 sub t1 e1 l1 =>
      intro s H0 C cl fp
      refine g1 s H0 C cl fp _ _ F3 H' (wipe σ vs) x k3 r3 _ fun σ4 k4 hl4 n4 => ⟨?_, ?_⟩
      · rw [wipe_ext (vs := vs) hl4 fun i hi => n4 i fun z => hi (sub i z)]
        exact wipe_wipe σ fun _ z => z
      · have hw : wipe σ4 vs = wipe σ vs := by
          rw [wipe_ext (vs := vs) hl4 fun i hi => n4 i fun z => hi (sub i z)]
          exact wipe_wipe σ fun _ z => z
        intro s H0 C cl fp
        refine t1 s H0 C cl fp _ _ F3 H' σ4 k4 _ fun F5 H5 k5 f5 => ?_
        rw [if_pos rfl]
        intro s H0 C cl fp
        refine e1 s H0 C cl fp _ _ F5 H5 σ4 k5 _ fun y F6 H6 k6 f6 r6 => ⟨acc, k6.atD.1, ?_, rfl, hlt, F6, _, acc ++ [y], _, _, ?_, ((f.trans gr.f).trans f5).trans f6, Rps.append (rps_mono ((gr.f.trans f5).trans f6) _ _ r) (.cons r6 .nil), l1, ?_⟩
        · rw [Rps.length r]
          have : zs1.length ≤ (zs ++ ys).length := by rw [← e, List.length_append]; omega
          exact Nat.lt_of_lt_of_le (Nat.lt_of_le_of_lt this hz) (by decide)
        · rw [← hw]
          exact k6.putD.wipe vs
        · rw [List.append_assoc]; exact e
    | skip g1 sub t1 l1 =>
      intro s H0 C cl fp
      refine g1 s H0 C cl fp _ _ F3 H' (wipe σ vs) x k3 r3 _ fun σ4 k4 hl4 n4 => ⟨?_, ?_⟩
      · rw [wipe_ext (vs := vs) hl4 fun i hi => n4 i fun z => hi (sub i z)]
        exact wipe_wipe σ fun _ z => z
      · have hw : wipe σ4 vs = wipe σ vs := by
          rw [wipe_ext (vs := vs) hl4 fun i hi => n4 i fun z => hi (sub i z)]
          exact wipe_wipe σ fun _ z => z
        intro s H0 C cl fp
        refine t1 s H0 C cl fp _ _ F3 H' σ4 k4 _ fun F5 H5 k5 f5 => ?_
        rw [if_neg Bool.false_ne_true]
        refine ⟨rfl, hlt, F5, _, acc, _, _, ?_, (f.trans gr.f).trans f5, rps_mono (gr.f.trans f5) _ _ r, l1, e⟩
        rw [← hw]
        exact k5.wipe vs
  · have hi : i = xs.length := by omega
    subst hi
    rw [List.drop_length] at lc
    cases lc
    rw [List.append_nil] at e
    subst e
    exact .inl ⟨yl.stop H (f.trans k.fh), fin F H acc k f r⟩
/-- [elt for tg in iter if ..], a new list of one's own -/
theorem xo_lc {own : List (Str × Nat)} {pos : Pos} {ρ ρ0 ρ' : List Sl} {xs ys : List D} (hc : X.calm = true) (hN : X.N.Nodup) (hi : XI X tg iter ρ xs ρ0) (ok : BlkOk X.N X.env.scope scope own) (lc : LC X scope tg ifs elt (own.map (·.2)) xs (wipeS ρ0 (own.map (·.2))) ys ρ') (hz : ys.length < 1000000)
    (hs : ∀ x, foldedSetIterable iter X.env x = pure x := by intro _; rfl) : XO X (.ListComp elt [⟨tg, iter, ifs, 0⟩] scope pos) ρ ys (backS ρ0 ρ' (own.map (·.2))) := by
  have h := pe_lc (elt := elt) (tg := tg) (iter := iter) (ifs := ifs) (pos := pos) (g := bG X scope tg) (tt := bTs X scope ifs) (te := bE X scope elt) hc hN (pcI tg iter) ok
    (fun s H C cl fp => ⟨fun pins s' σ H' v u Q I r h => h s H C cl fp pins s' u I r⟩) (fun s H C cl fp => ⟨fun pins s' σ H' Q I h => h s H C cl fp pins s' I⟩) (fun s H C cl fp => ⟨fun pins s' σ H' Q I h => h s H C cl fp pins s' I⟩) hs
  intro F0 G F H σ k Q q pins s I
  refine h.run pins s σ H Q I (hi F0 G F H σ k _ fun J F1 H1 k1 f1 yl D hD => ?_)
  obtain ⟨k2, gD⟩ := k1.begin (o := .lst []) hD
  refine lc_loop (zs := []) yl lc (k2.wipe _) .nil (by simpa using hz) fun F2 H2 acc k3 f3 r3 => ?_
  obtain ⟨h1, h2⟩ := k3.atD
  obtain ⟨k4, ap⟩ := k3.endD gD
  refine q D acc F2 H2 (k1.back f3 k4) (f1.trans f3) h1 h2 gD (fun i s ys e o => ?_) r3
  have hl : (backS ρ0 ρ' (own.map (·.2))).length = ρ'.length := backS_len _ _ _
  by_cases hi : i ∈ own.map (·.2)
  · have hlt : i < ρ'.length := by
      have := (List.getElem?_eq_some_iff.mp e).1
      rwa [backS_len] at this
    rw [backS_at hi hlt] at e
    cases e
    exfalso
    cases qq : ρ0[i]? with
    | none => rw [qq] at o; cases o
    | some s => rw [qq] at o; cases s <;> cases o
  · rw [backS_out hi] at e
    have := ap i s ys e o
    rw [wipe_out hi] at this
    exact this
end
end DL
set_option Elab.async false
set_option linter.all false
set_option maxRecDepth 100000
set_option maxHeartbeats 2000000
namespace DL
open PySem PySem.Spec PyProof.Rows L2
/-! ### a def by its body -/
/-- the context of a def's body -/
abbrev fX (P : Program) (w : World) (K : PySem.W.Frag) (mg : Str → Option Value) (base : Heap) (N : List Str) (qual : Str) (st : Stmt) (f : Addr) (cdv : Value) (A : Around) (outer : List Env) (s : Shared) (H : Hp) (E : XK) : Cx :=
  (cxOf CX0 P w K mg base N qual (defScope st) f cdv A outer s H E).nox
/-- how a body may end with the value d -/
inductive Fin (d : D) : Out → List Sl → Prop
  | rt {ρ : List Sl} : Fin d (.rt d ρ) ρ
  | nx {ρ : List Sl} : d = .none → Fin d (.nx ρ) ρ
theorem start_at {N : List Str} {vs : List V} {i : Nat} {v : V} (h : vs[i]? = some v) : (L2.start N vs)[i]? = some (some v) := by
  unfold L2.start
  have hl : i < (vs.map some).length := by
    rw [List.length_map]
    exact (List.getElem?_eq_some_iff.mp h).1
  rw [List.getElem?_append_left hl, List.getElem?_map, h]
  rfl
def args (ds : List D) : List Sl := ds.map .d
def startS (n : Nat) (ss : List Sl) : List Sl := ss ++ List.replicate (n - ss.length) .u
theorem startS_at {n : Nat} {ss : List Sl} {i : Nat} {s : Sl} (h : (startS n ss)[i]? = some s) : ss[i]? = some s ∨ s = .u := by
  unfold startS at h
  by_cases hi : i < ss.length
  · rw [List.getElem?_append_left hi] at h
    exact .inl h
  · rw [List.getElem?_append_right (by omega)] at h
    obtain ⟨_, e⟩ := List.getElem?_eq_some_iff.mp h
    rw [List.getElem_replicate] at e
    exact .inr e.symm
section
variable {P : Program} {w : World} {K : PySem.W.Frag} {mg : Str → Option Value} {base : Heap} {x qual : Str} {st : Stmt} {f : Addr} {fd : FuncData} {N ps : List Str} {k : Nat}
theorem fn_D {R : List D → D → Prop} (F : Fun K x qual st f fd) (S : FnScope N ps (defScope st)) (hps : ps.length ≤ N.length)
    (hb : ∀ (cdv : Value) (A : Around) (outer : List Env) (s : Shared) (H : Hp) (E : XK) (ds : List D) (d : D), ds.length = ps.length → Room k (A.deeper (envOfC qual (defScope st) s.heap.objs.size f cdv)) → R ds d →
      ∃ o ρ, Fin d o ρ ∧ XSs (fX P w K mg base N qual st f cdv A outer s H E) (defBody st) (startS N.length (args ds)) o) :
    FnOk P w K mg base CX0 (k + 1) f fd ps (spD K ps.length R) := by
  refine F.ok S (fun vs H Q E h => ?_) fun cdv A outer s H vs Q E hr h => ?_
  · obtain ⟨_, _, _, h, _⟩ := h
    exact h
  · obtain ⟨F1, ds, d, hl, fh, rs, hR, q⟩ := h
    have hld : ds.length = ps.length := by rw [← Rps.length rs, hl]
    obtain ⟨o, ρ, hfin, hx⟩ := hb cdv A outer s H E ds d hld hr hR
    refine ⟨_, pcSs _, hx F1 H F1 H (L2.start N vs) ⟨?_, fh, Same.refl _, fun _ _ => rfl, fun i y e => ?_, fun i a' xs e => ?_, fun i t xs e o' => ?_, fun i j t t' xs ys a h1 h2 _ _ _ _ => ?_⟩ _ ?_⟩
    · unfold L2.start startS args
      simp [hl, hld]
    · rcases startS_at e with e | e
      · unfold args at e
        rw [List.getElem?_map, Option.map_eq_some_iff] at e
        obtain ⟨z, e1, e2⟩ := e
        cases e2
        obtain ⟨v, e3, e4⟩ := Rps.get rs e1
        exact ⟨v, start_at e3, e4⟩
      · cases e
    · rcases startS_at e with e | e
      · unfold args at e
        rw [List.getElem?_map, Option.map_eq_some_iff] at e
        obtain ⟨z, e1, e2⟩ := e
        cases e2
      · cases e
    · rcases startS_at e with e | e
      · unfold args at e
        rw [List.getElem?_map, Option.map_eq_some_iff] at e
        obtain ⟨z, e1, e2⟩ := e
        subst e2
        cases o'
      · subst e
        cases o'
    · rcases startS_at h1 with e | e
      · unfold args at e
        rw [List.getElem?_map, Option.map_eq_some_iff] at e
        obtain ⟨z, e1, e2⟩ := e
        subst e2
        cases h2
      · subst e
        cases h2
    · cases hfin with
      | rt => exact fun v σ' F' H' k' f' r' => q v F' H' ⟨f', k'.gh, k'.fh, fun b hb => k'.g0 b hb⟩ r'
      | nx e =>
        subst e
        exact fun σ' F' H' k' f' => q .non F' H' ⟨f', k'.gh, k'.fh, fun b hb => k'.g0 b hb⟩ .non
theorem fn_B {R : List D → List D → D → List D → Prop} (F : Fun K x qual st f fd) (S : FnScope N ps (defScope st)) (hps : ps.length ≤ N.length)
    (hb : ∀ (cdv : Value) (A : Around) (outer : List Env) (s : Shared) (H : Hp) (E : XK) (a : Addr) (rs ds : List D) (d : D) (rs' : List D), ds.length + 1 = ps.length → Room k (A.deeper (envOfC qual (defScope st) s.heap.objs.size f cdv)) → R rs ds d rs' →
      ∃ o ρ, Fin d o ρ ∧ ρ[0]? = some (.b a rs') ∧ XSs (fX P w K mg base N qual st f cdv A outer s H E) (defBody st) (startS N.length (.b a rs :: args ds)) o) :
    FnOk P w K mg base CX0 (k + 1) f fd ps (spB K ps.length R) := by
  refine F.ok S (fun vs H Q E h => ?_) fun cdv A outer s H vs Q E hr h => ?_
  · obtain ⟨_, _, _, _, _, _, _, _, h, _⟩ := h
    exact h
  · obtain ⟨F1, a, rv, vs', rs, ds, d, rs', hl, rfl, fh, fa, ha, r1, r2, hR, q⟩ := h
    have hld : ds.length + 1 = ps.length := by rw [← Rps.length r2, ← hl, List.length_cons]
    obtain ⟨o, ρ, hfin, h0, hx⟩ := hb cdv A outer s H E a rs ds d rs' hld hr hR
    have low : ∀ {i : Nat} {t : Sl}, (startS N.length (.b a rs :: args ds))[i]? = some t → (i = 0 ∧ t = .b a rs) ∨ (∃ z, t = .d z ∧ ∃ j, i = j + 1 ∧ ds[j]? = some z) ∨ t = .u := fun {i t} e => by
      rcases startS_at e with e | e
      · cases i with
        | zero => simp at e; exact .inl ⟨rfl, e.symm⟩
        | succ j =>
          rw [List.getElem?_cons_succ] at e
          unfold args at e
          rw [List.getElem?_map, Option.map_eq_some_iff] at e
          obtain ⟨z, e1, e2⟩ := e
          exact .inr (.inl ⟨z, e2.symm, j, rfl, e1⟩)
      · exact .inr (.inr e)
    have s0 : (L2.start N (V.ref a :: vs'))[0]? = some (some (V.ref a)) := start_at rfl
    have fin : ∀ {σ' : L2.St} {F' H' : Hp} {v : V}, Ok K F1 (fun b => if b = a then none else H b) F' H' σ' ρ → Same F1 F' → Rp K F' v d → Q v H' := fun {σ' F' H' v} k' f' r' => by
      obtain ⟨a', rv', q1, q2, q3, q4, q5⟩ := k'.own 0 _ rs' h0 rfl
      have e0 := k'.bor 0 a rs' h0
      rw [e0] at q1
      cases q1
      refine q v F' H' rv' f' k'.fh (fun b o hb e => k'.gh b o (by rw [if_neg hb]; exact e)) (fun b hb => ?_) q2 q5 r'
      by_cases hba : b = a
      · rw [hba, q3, fa]
      · exact k'.g0 b (by rw [if_neg hba]; exact hb)
    refine ⟨_, pcSs _, hx F1 (fun b => if b = a then none else H b) F1 H (L2.start N (V.ref a :: vs')) ⟨?_, fh, fun b o e => ?_, fun _ _ => rfl, fun i y e => ?_, fun i a' xs e => ?_, fun i t xs e o' => ?_, fun i j t t' xs ys c h1 h2 h3 h4 _ _ => ?_⟩ _ ?_⟩
    · unfold L2.start startS args
      have : vs'.length = ds.length := Rps.length r2
      simp only [List.length_append, List.length_map, List.length_replicate, List.length_cons]
      omega
    · by_cases hb : b = a
      · rw [if_pos hb] at e; cases e
      · rw [if_neg hb] at e; exact e
    · rcases low e with ⟨_, q1⟩ | ⟨z, q1, j, q2, ej⟩ | q1
      · cases q1
      · cases q1
        subst q2
        obtain ⟨v, e3, e4⟩ := Rps.get r2 ej
        exact ⟨v, start_at (by rw [List.getElem?_cons_succ]; exact e3), e4⟩
      · cases q1
    · rcases low e with ⟨q2, q1⟩ | ⟨z, q1, _⟩ | q1
      · cases q1; subst q2; exact s0
      · cases q1
      · cases q1
    · rcases low e with ⟨q2, q1⟩ | ⟨z, q1, _⟩ | q1
      · subst q1
        subst q2
        cases o'
        exact ⟨a, _, s0, ha, fa, if_pos rfl, rv, rfl, r1⟩
      · subst q1; cases o'
      · subst q1; cases o'
    · rcases low h1 with ⟨q2, q1⟩ | ⟨z, q1, _⟩ | q1
      · rcases low h3 with ⟨q3, q4⟩ | ⟨z, q4, _⟩ | q4
        · rw [q2, q3]
        · subst q4; cases h4
        · subst q4; cases h4
      · subst q1; cases h2
      · subst q1; cases h2
    · cases hfin with
      | rt => exact fun v σ' F' H' k' f' r' => fin k' f' r'
      | nx e =>
        subst e
        exact fun σ' F' H' k' f' => fin k' f' .non
end
end DL
set_option Elab.async false
set_option linter.all false
set_option maxRecDepth 100000
set_option maxHeartbeats 4000000
/-! set(xs) of a list of ints, told so that sorted can walk it -/
namespace DL
open PySem PySem.Spec PyProof.Rows L2
abbrev noSet (w : World) : Obj := { cls := .type "set", dict := none, data := .set #[] 0 (.fresh 0 0 (!w.params.followText "set-order")) }
abbrev itOf (l : Addr) : Obj := { cls := .type "list_iterator", data := .fields #[.ref l, .int 0 0] }
section
variable {P : Program} {w : World} {A : Around} {E : Value → Shared → Prop} {s : Shared}
/-- what stands behind it -/
def SetMade (w : World) (s : Shared) (ns : List Int) (s2 : Shared) : Prop := ∃ h' tk c, s2 = { s with heap := h', toks := tk } ∧ SetR w h' s.heap.objs.size (fun j => decide (j ∈ ns)) c ∧ c ≤ ns.length ∧ ∀ b o, s.heap.get? b = some o → h'.get? b = some o
/-- the loop that fills it -/
theorem fill_set {l : Addr} {items : Array Value} (ns : List Int) {A' : Around} (hh : A'.in1.handled = none) (hl : s.heap.IsList l items) (hi : IntsAre items.toList ns) (hb : ns.length + 1 < scanBound) {R : Result → Shared → Prop}
    (h : ∀ s2, SetMade w s ns s2 → R (.ok (.ret .none)) s2) :
    codeAny (model P w) A' (.builtin "set.update.loop" ⟨[.ref s.heap.objs.size, .ref (s.heap.push (noSet w)).objs.size], []⟩) R { s with heap := (s.heap.push (noSet w)).push (itOf l) } := by
  have hn : items.size = ns.length := by
    rw [← Array.length_toList]
    exact hi.length
  have below : ∀ {b o}, s.heap.get? b = some o → b < s.heap.objs.size := fun e => Heap.lt_size e
  obtain ⟨ol, hol, _⟩ := id hl
  have hls := below hol
  have z1 : (s.heap.push (noSet w)).objs.size = s.heap.objs.size + 1 := Heap.size_push ..
  have ne1 : l ≠ (s.heap.push (noSet w)).objs.size := by rw [z1]; exact Nat.ne_of_lt (Nat.lt_succ_of_lt hls)
  have nin : s.heap.objs.size ∉ [(s.heap.push (noSet w)).objs.size, l] := by
    simp only [List.mem_cons, List.not_mem_nil, or_false, not_or]
    exact ⟨by rw [z1]; exact Nat.ne_of_lt (Nat.lt_succ_self _), Nat.ne_of_gt hls⟩
  have gS : ((s.heap.push (noSet w)).push (itOf l)).get? s.heap.objs.size = some (noSet w) := Heap.get?_push_of_some _ (Heap.get?_push_size _ rfl)
  refine set_update_ints ((Walks.list hh _ l ne1 items).toS) _ nin ns hn hb (fun i v hv => ?_) items.size 0 _ rfl (Nat.zero_le _) ⟨⟨_, Heap.get?_push_size _ rfl, rfl, rfl⟩, (hl.push _).push _⟩ ⟨0, Nat.le_refl 0, setR_new_at gS⟩ fun s2 c hm hc hS => ?_
  · have lt : i < ns.length := by
      rw [← hn]
      exact (Array.getElem?_eq_some_iff.mp hv).1
    obtain ⟨t, e⟩ := IntsAre.int_at hi i v (by rw [Array.getElem?_toList]; exact hv)
    refine ⟨ns[i], t, List.getElem?_eq_getElem lt, ?_⟩
    rw [e, List.getD_eq_getElem?_getD, List.getElem?_eq_getElem lt] <;> rfl
  · obtain ⟨h2, g2, d2, t2, o2⟩ := s2
    obtain rfl : g2 = s.gens := hm.gens
    obtain rfl : d2 = s.drawn := hm.drawn
    obtain rfl : o2 = s.os := hm.os
    refine h _ ⟨h2, t2, c, rfl, hS, by omega, fun b o e => hm.heap b o ?_ (Heap.get?_push_of_some _ (Heap.get?_push_of_some _ e))⟩
    have hlt := below e
    simp only [List.mem_cons, List.not_mem_nil, or_false, not_or]
    exact ⟨Nat.ne_of_lt hlt, by rw [z1]; exact Nat.ne_of_lt (Nat.lt_succ_of_lt hlt)⟩
set_option maxHeartbeats 8000000 in
theorem set_of_list {l : Addr} {items : Array Value} (ns : List Int) {Q : Value → Shared → Prop} (hh : A.handled = none) (hl : s.heap.IsList l items) (hi : IntsAre items.toList ns) (hb : ns.length + 1 < scanBound)
    (h : ∀ s2, SetMade w s ns s2 → Q (.ref s.heap.objs.size) s2) : wpAny (model P w) A (call (.type "set") [.ref l]) Q E s := by
  obtain ⟨c, tl, hmro⟩ := F.called_set.mro
  have a1 := F.called_set.made
  have a2 := F.called_set.sub
  refine wpAny_call (codeAny_of_tree ?_)
  show wpAny _ _ (callAny (.type "set") _) _ _ _
  refine wpAny_pure ⟨Code.quiet_builtin _ (by decide +kernel), codeAny_builtin F.entry_type_call ?_⟩
  rw [Around.under_plain (weight_type_call_type "set" [.ref l] []) rfl]
  have a3 := F.called_set.notType
  have a4 := F.called_set.canCreate
  have a5 := F.typeCall_set_1 (.ref l)
  repeat (any_goals (first | assumption | wp_step))
  refine codeAny_mono (code_set_led1 (.ref l) (E := E) (Q₁ := fun v t => v = .ref s.heap.objs.size ∧ t = { s with heap := s.heap.push (noSet w) }) ⟨rfl, rfl⟩) fun r s1 hr => ?_
  rcases r with e | fl
  · exact hr
  · cases fl with
    | ret v =>
      obtain ⟨rfl, rfl⟩ := hr
      have b1 : (s.heap.push (noSet w)).get? s.heap.objs.size = some (noSet w) := Heap.get?_push_size _ rfl
      have b2 : Shared.TypeIs { s with heap := s.heap.push (noSet w) } (.ref s.heap.objs.size) "set" := ⟨_, b1, rfl⟩
      have b3 := F.called_set.init.lookup
      have b4 := F.called_set.init.bind (.ref s.heap.objs.size)
      repeat (any_goals (first | assumption | wp_step))
      refine codeAny_mono (codeAny_call_builtin (R := wants (fun r t => r = .none ∧ SetMade w s ns t) E) F.called_set.init.plain F.entry_set_init (check_set_init_1 b2 ?_)) fun r2 s2 hr2 => ?_
      · obtain ⟨⟨oc, od, oda, osl⟩, q1, q2, nl, q3⟩ := id hl
        obtain rfl : oc = .type "list" := q2
        obtain rfl : oda = .seq items nl := q3
        have c1 := Heap.get?_push_of_some (noSet w) q1
        have c2 := F.sub_list_set
        have c3 := F.sub_list_frozenset
        have c4 : (Value.type "list" == Value.type "dict") = false := by decide
        have c5 : (s.heap.push (noSet w)).IsList l items := hl.push _
        unfold Builtin.«set.__init__» noKeywords Builtin.Frozenset.updateFrom
        generalize e0 : pyIter = PI
        wp_walk
        subst e0
        refine wpAny_pyIter_list c5 (wpAny_bind (wpAny_runValue ?_))
        refine fill_set ns (by simp [hh]) hl hi hb fun s3 hs3 => ?_
        show wpAny _ _ _ _ _ _
        refine wpAny_pure ?_
        show wpAny _ _ (ret Value.none) _ _ _
        exact wpAny_pure ⟨rfl, hs3⟩
      · rcases r2 with e2 | fl2
        · exact hr2
        · cases fl2 with
          | ret r =>
            obtain ⟨rfl, h', tk, c', rfl, d1, d2, d3⟩ := hr2
            repeat (any_goals (first | assumption | wp_step))
            exact h _ ⟨h', tk, c', rfl, d1, d2, d3⟩
          | _ => exact hr2.elim
    | _ => exact hr.elim
end
section
variable {X : Cx}
def rSetL (w : World) (K : PySem.W.Frag) : List V → Hp → VK → Prop := fun xs H Q => ∃ (l : Addr) (ns : List Int), xs = [V.ref l] ∧ SqL K H l (ns.map V.int) ∧ ns.length < 64 ∧ ∀ a c, H a = none → c ≤ ns.length → Q (.ref a) (upd H a (SetO w a (fun j => decide (j ∈ ns)) c))
theorem cr_setL (hc : X.calm = true) : CallR X (.type "set") (rSetL X.w X.K) := by
  intro pins s σ H xs us Q I r h
  obtain ⟨l, ns, rfl, hl, hn, q⟩ := h
  rw [Vals.ref1 r]
  obtain ⟨its, rv, pl, hz⟩ := I.list hl
  have hi : IntsAre its ns := Vals.ints rv
  refine set_of_list ns (I.ok.hd hc) pl.isList (by simpa using hi) (by unfold scanBound; omega) fun s2 hs2 => ?_
  obtain ⟨h', tk, c, rfl, R, hc', k⟩ := hs2
  exact ⟨.ref s.heap.objs.size, upd H s.heap.objs.size (SetO X.w s.heap.objs.size _ c), I.laid (t' := tk) k (Nat.le_refl _) (setO_new R), rfl, q _ c (I.hok.fresh (Nat.le_refl _)) hc'⟩
end
end DL
set_option Elab.async false
set_option linter.all false
set_option maxRecDepth 100000
set_option maxHeartbeats 4000000
/-! {elt for t0 in i0 if .. for t1 in i1 if ..} of ints -/
namespace DL
open PySem PySem.Spec PyProof.Rows L2
section
variable (elt t0 i0 t1 i1 : Expr) (fs0 fs1 : List Expr) (scope : Scope) (pos : Pos)
/-- the expression -/
abbrev sc2 : Expr := .SetComp elt [⟨t0, i0, fs0, 0⟩, ⟨t1, i1, fs1, 0⟩] scope pos
/-- all the tests of a clause -/
abbrev testsGo (fs : List Expr) (env : Env) : Sem Bool := forIn fs true fun c r => if r = true then do let ok ← isTrue c env (eval c env); pure (ForInStep.yield ok) else pure (ForInStep.yield r)
theorem sc2_turn0 (it acc : Value) (env : Env) : compTurn (sc2 elt t0 i0 t1 i1 fs0 fs1 scope pos) 0 it acc env = (do
    standAt i0.pos
    match ← pyNext it with
    | none => pure (.done .next)
    | some v =>
      letOwnedTupleGo t0 it v
      assign t0 env v
      let ok ← testsGo fs0 env
      if ok then
        let x ← eval i1 env
        standAt i1.pos
        let x ← foldedSetIterable i1 env x
        let _ ← runOwn (.compStart (sc2 elt t0 i0 t1 i1 fs0 fs1 scope pos) 1 (← holding [x] (pyIter x)) acc env) env
      again (.compLoop (sc2 elt t0 i0 t1 i1 fs0 fs1 scope pos) 0 it acc env)) := by rfl
theorem sc2_turn1 (it acc : Value) (env : Env) : compTurn (sc2 elt t0 i0 t1 i1 fs0 fs1 scope pos) 1 it acc env = (do
    standAt i1.pos
    match ← pyNext it with
    | none => pure (.done .next)
    | some v =>
      letOwnedTupleGo t1 it v
      assign t1 env v
      let ok ← testsGo fs1 env
      if ok then
        (do let v ← eval elt env; standAt elt.pos; let _ ← call (.builtin "set.add") [acc, v])
      again (.compLoop (sc2 elt t0 i0 t1 i1 fs0 fs1 scope pos) 1 it acc env)) := by rfl
end
section
variable {P : Program} {w : World} {A : Around} {R : Result → Shared → Prop} {s : Shared} {elt t0 i0 t1 i1 : Expr} {fs0 fs1 : List Expr} {scope : Scope} {pos : Pos} {it acc : Value} {env : Env}
/-- nothing is raised within -/
abbrev qu (P : Program) (w : World) (A : Around) {α : Type} (t : Sem α) (Q : α → Shared → Prop) (s : Shared) : Prop := wpAny (model P w) A t Q (fun _ _ => False) s
theorem qu_up {α : Type} {t : Sem α} {Q Q' : α → Shared → Prop} {E : Value → Shared → Prop} (h : qu P w A t Q s) (f : ∀ a s, Q a s → Q' a s) : wpAny (model P w) A t Q' E s := wpAny_mono h f fun _ _ z => z.elim
theorem sc2_loop1 (I : Nat → Shared → Prop)
    (turn : ∀ n s, I n s → qu P w A (pyNext it) (fun r s1 => match r with
      | none => R (.ok .next) s1
      | some v => qu P w A (letOwnedTupleGo t1 it v) (fun _ s2 => qu P w A (assign t1 env v) (fun _ s3 => qu P w A (testsGo fs1 env) (fun ok s4 =>
          if ok = true then qu P w A (eval elt env) (fun x s5 => qu P w A (call (.builtin "set.add") [acc, x]) (fun _ s6 => ∃ m, m < n ∧ I m s6) s5) s4
          else ∃ m, m < n ∧ I m s4) s3) s2) s1) s) (n : Nat) (h : I n s) :
    codeAny (model P w) A (.compLoop (sc2 elt t0 i0 t1 i1 fs0 fs1 scope pos) 1 it acc env) R s := by
  refine codeAny_loop rfl I (fun n s hI => ?_) n h
  show wpAny _ A ((compTurn (sc2 elt t0 i0 t1 i1 fs0 fs1 scope pos) 1 it acc env).onRaise (fun x => do noteFrame x env; theTreesLotGoes x)) _ _ s
  refine wpAny_noted ?_
  rw [sc2_turn1]
  refine wpAny_bind (wpAny_standAt (wpAny_bind (qu_up (turn n s hI) fun r s1 h1 => ?_)))
  cases r with
  | none => exact wpAny_pure h1
  | some v =>
    refine wpAny_bind (qu_up h1 fun _ s2 h2 => wpAny_bind (qu_up h2 fun _ s3 h3 => wpAny_bind (qu_up h3 fun ok s4 h4 => ?_)))
    cases ok with
    | false => exact wpAny_pure ⟨rfl, h4⟩
    | true => exact wpAny_bind (wpAny_bind (qu_up h4 fun x s5 h5 => wpAny_bind (wpAny_standAt (wpAny_bind (qu_up h5 fun _ s6 h6 => wpAny_pure (wpAny_pure ⟨rfl, h6⟩))))))
theorem sc2_loop0 (hs : ∀ x, foldedSetIterable i1 env x = pure x) (I : Nat → Shared → Prop)
    (turn : ∀ n s, I n s → qu P w A (pyNext it) (fun r s1 => match r with
      | none => R (.ok .next) s1
      | some v => qu P w A (letOwnedTupleGo t0 it v) (fun _ s2 => qu P w A (assign t0 env v) (fun _ s3 => qu P w A (testsGo fs0 env) (fun ok s4 =>
          if ok = true then qu P w A (eval i1 env) (fun x s5 => qu P w A (pyIter x) (fun it1 s6 =>
            codeAny (model P w) A (.compStart (sc2 elt t0 i0 t1 i1 fs0 fs1 scope pos) 1 it1 acc env) (fun r s' => match r with
              | .ok _ => ∃ m, m < n ∧ I m s'
              | .error _ => False) s6) s5) s4
          else ∃ m, m < n ∧ I m s4) s3) s2) s1) s) (n : Nat) (h : I n s) :
    codeAny (model P w) A (.compLoop (sc2 elt t0 i0 t1 i1 fs0 fs1 scope pos) 0 it acc env) R s := by
  refine codeAny_loop rfl I (fun n s hI => ?_) n h
  show wpAny _ A ((compTurn (sc2 elt t0 i0 t1 i1 fs0 fs1 scope pos) 0 it acc env).onRaise (fun x => do noteFrame x env; theTreesLotGoes x)) _ _ s
  refine wpAny_noted ?_
  rw [sc2_turn0]
  refine wpAny_bind (wpAny_standAt (wpAny_bind (qu_up (turn n s hI) fun r s1 h1 => ?_)))
  cases r with
  | none => exact wpAny_pure h1
  | some v =>
    refine wpAny_bind (qu_up h1 fun _ s2 h2 => wpAny_bind (qu_up h2 fun _ s3 h3 => wpAny_bind (qu_up h3 fun ok s4 h4 => ?_)))
    cases ok with
    | false => exact wpAny_pure ⟨rfl, h4⟩
    | true =>
      refine wpAny_bind (qu_up h4 fun x s5 h5 => wpAny_bind (wpAny_standAt (wpAny_bind (wpAny_of_eq (hs x) (wpAny_bind (wpAny_holding (qu_up h5 fun it1 s6 h6 => ?_)))))))
      refine wpAny_bind (wpAny_runOwn ?_)
      rw [Around.mark_none]
      refine codeAny_mono h6 fun r s' hr => ?_
      cases r with
      | ok f => first | exact wpAny_pure ⟨rfl, hr⟩ | exact wpAny_bind (wpAny_pure (wpAny_pure ⟨rfl, hr⟩))
      | error e => exact hr.elim
/-- a clause's start, over what is an iterator already -/
theorem sc2_start {k : Nat} (hk : k = 0 ∨ k = 1) (h0 : codeAny (model P w) A (.compLoop (sc2 elt t0 i0 t1 i1 fs0 fs1 scope pos) k it acc env) R s) (hi : ∀ (Q : Value → Shared → Prop) (E : Value → Shared → Prop), Q it s → wpAny (model P w) A (pyIter it) Q E s) :
    codeAny (model P w) A (.compStart (sc2 elt t0 i0 t1 i1 fs0 fs1 scope pos) k it acc env) R s := by
  refine codeAny_of_tree ?_
  show wpAny _ A ((compStart (sc2 elt t0 i0 t1 i1 fs0 fs1 scope pos) k it acc env).onRaise (fun x => do noteFrame x env; standAt theWindowsPlace)) _ _ s
  refine wpAny_notedAt ?_
  rcases hk with rfl | rfl
  all_goals
    unfold compStart
    show wpAny _ _ (ask >>= _) _ _ s
    refine wpAny_bind (wpAny_askSetting (wpAny_ite ?_))
    split
    · first
        | exact wpAny_bind (wpAny_pure (wpAny_pure (And.intro rfl h0)))
        | exact wpAny_pure (And.intro rfl h0)
    · first
        | exact wpAny_bind (wpAny_rule (wpAny_bind (wpAny_standAt (wpAny_bind (hi _ _ (wpAny_pure (And.intro rfl h0)))))))
        | (refine wpAny_bind (wpAny_rule ?_); show wpAny _ _ (standAt _ >>= _) _ _ s; exact wpAny_bind (wpAny_standAt (wpAny_bind (hi _ _ (wpAny_pure (And.intro rfl h0))))))
end
end DL
set_option Elab.async false
set_option linter.all false
set_option maxRecDepth 100000
set_option maxHeartbeats 4000000
namespace DL
open PySem PySem.Spec PyProof.Rows L2
section
variable {X : Cx}
/-- one more int in the set at D -/
def addS (w : World) (D : Addr) (y : V) (H : Hp) (N : Hp → Prop) : Prop := ∃ (S : Int → Bool) (n : Nat) (k : Int), y = .int k ∧ H D = some (SetO w D S n) ∧ n + 1 < scanBound ∧ N (upd H D (SetO w D (fun j => S j || decide (j = k)) (if S k = true then n else n + 1)))
theorem addS_ok {pins : List (Addr × Obj)} {σ : L2.St} {H : Hp} {s : Shared} {D : Addr} {y : V} {v : Value} {N : Hp → Prop} {E : Value → Shared → Prop} {Q : Value → Shared → Prop} (I : Inv X pins σ H s) (r : RelV y v) (h : addS X.w D y H N) (q : ∀ s' H', Inv X pins σ H' s' → N H' → Q .none s') :
    wpAny (model X.prog X.w) X.A (call (.builtin "set.add") [.ref D, v]) Q E s := by
  obtain ⟨S, n, k, rfl, hD, hn, hN⟩ := h
  obtain ⟨t, rfl⟩ := r
  have R : SetR X.w s.heap D S n := setO_get I hD
  refine setR_add R hn fun h' sb R' => ?_
  obtain ⟨o, _, _, _, ho, _⟩ := id R'
  exact q _ _ (I.write (e := D) (t' := s.toks + 1) (by rw [hD]; trivial) (.inl rfl) (fun b u hb hu => (sb.2 b hb).trans hu) ⟨o, ho⟩ (setO_new R')) hN
/-- the reading of a set comprehension of two clauses -/
def tSc2 (w : World) (wi : TI) (g : TG) (tt : TT) (wi1 : TI) (g1 : TG) (tt1 : TT) (te : TE) (vs vs1 : List Nat) : TE := fun σ H Q => wi σ H fun J H1 => ∀ D, H1 D = none → ∃ W : Nat → Nat → Hp → Prop, (∃ m, W 0 m (upd H1 D (SetO w D (fun _ => false) 0))) ∧ ∀ i m H, W i m H →
  (J.stop i H ∧ Q (.ref D) H) ∨ (J.go i H ∧ ∃ N0 : Hp → Prop, (∀ H', N0 H' → ∃ m', m' < m ∧ W (i + 1) m' H') ∧ ∀ x H', J.yld i H x H' → g x (wipe σ vs) H' fun σ2 H2 => wipe σ2 vs = wipe σ vs ∧ tt σ2 H2 fun b H3 =>
    if b = true then wi1 σ2 H3 fun J1 H4 => ∃ W1 : Nat → Nat → Hp → Prop, (∃ m, W1 0 m H4) ∧ ∀ j k H, W1 j k H →
      (J1.stop j H ∧ N0 H) ∨ (J1.go j H ∧ ∃ N1 : Hp → Prop, (∀ H', N1 H' → ∃ k', k' < k ∧ W1 (j + 1) k' H') ∧ ∀ x H', J1.yld j H x H' → g1 x (wipe σ2 vs1) H' fun σ3 H5 => wipe σ3 vs1 = wipe σ2 vs1 ∧ tt1 σ3 H5 fun b H6 =>
        if b = true then te σ3 H6 fun y H7 => addS w D y H7 N1 else N1 H6)
    else N0 H3)
variable {elt t0 i0 t1 i1 : Expr} {fs0 fs1 : List Expr} {scope : Scope} {pos : Pos} {own : List (Str × Nat)} {vs1 : List Nat} {wi wi1 : TI} {g g1 : TG} {tt tt1 : TT} {te : TE}
/-- the context of its block -/
abbrev kX (X : Cx) (scope : Scope) (s : Shared) (H : Hp) (C : Addr) (cl : List (Str × Addr)) (fp : List Addr) : Cx := X.blk s H scope (compEnvC scope cl C X.env) fp
theorem pe_sc2 (hc : X.calm = true) (hN : X.N.Nodup) (hi : PI X t0 i0 wi) (ok : BlkOk X.N X.env.scope scope own) (hv : ∀ i ∈ vs1, i ∈ own.map (·.2))
    (hg : ∀ s H C cl fp, PG (kX X scope s H C cl fp) t0 g) (ht : ∀ s H C cl fp, PTs (kX X scope s H C cl fp) fs0 tt) (hi1 : ∀ s H C cl fp, PI (kX X scope s H C cl fp) t1 i1 wi1)
    (hg1 : ∀ s H C cl fp, PG (kX X scope s H C cl fp) t1 g1) (ht1 : ∀ s H C cl fp, PTs (kX X scope s H C cl fp) fs1 tt1) (he : ∀ s H C cl fp, PE (kX X scope s H C cl fp) elt te)
    (hs : ∀ x, foldedSetIterable i0 X.env x = pure x := by intro _; rfl) (hs1 : ∀ env x, foldedSetIterable i1 env x = pure x := by intro _ _; rfl) :
    PE X (sc2 elt t0 i0 t1 i1 fs0 fs1 scope pos) (tSc2 X.w wi g tt wi1 g1 tt1 te (own.map (·.2)) vs1) := by
  refine ⟨fun pins s σ H Q I h => ?_⟩
  rw [arm_eval_SetComp]
  have fr : ∀ y ∈ scope.names, y.2 = .free → ∃ c, X.env.cells.lookup y.1 = some c := fun y hy e => (ok.free y hy e).elim (fun k => I.ok.has _ (.inl k)) fun k => I.ok.has _ (.inr k)
  refine wpAny_comprehension_free (use := none) rfl hs (closure_ok fr) ok.kind (fun y hy e => by rw [ok.uniq y hy, e]) (thn (hi.run pins s σ H _ I h) fun xv s1 hx => thn hx fun itv s2 h2 => ?_)
  obtain ⟨it, fp, tn, J, H2, rfl, I2, T, st2, f2, q⟩ := h2
  refine wpAny_newSet_raw fun led hled => newEnv_comp ?_
  subst hled
  obtain ⟨D, hD⟩ : ∃ D, s2.heap.objs.size = D := ⟨_, rfl⟩
  rw [hD]
  have dn : H2 D = none := I2.hok.fresh (Nat.le_of_eq hD)
  obtain ⟨W, ⟨m0, w0⟩, turn⟩ := q D dn
  obtain ⟨s3, hs3⟩ : ∃ s3 : Shared, s3 = { s2 with heap := s2.heap.push (noSet X.w) } := ⟨_, rfl⟩
  have h3 : s3.heap = s2.heap.push (noSet X.w) := by rw [hs3]
  obtain ⟨H3, hH3⟩ : ∃ H3, H3 = upd H2 D (SetO X.w D (fun _ => false) 0) := ⟨_, rfl⟩
  have up : ∀ b o, s2.heap.get? b = some o → s3.heap.get? b = some o := fun b o e => by rw [h3]; exact Heap.get?_push_of_some _ e
  have I3 : Inv X pins σ H3 s3 := by
    rw [hH3, hs3]
    refine I2.laid (t' := s2.toks) (fun b o e => Heap.get?_push_of_some _ e) (Nat.le_of_eq hD) (setO_new ?_)
    rw [← hD]
    exact setR_fresh X.w
  have low : ∀ b ∈ fp, b < s2.heap.objs.size := fun b hb => (T.obj _ _ st2 b hb).elim fun o e => Heap.lt_size e.1
  have f3 : ∀ b ∈ fp, FpOk X pins H3 b ∧ b < s3.heap.objs.size := fun b hb => by
    refine ⟨⟨?_, (f2 b hb).2⟩, by rw [h3, Heap.size_push]; exact Nat.lt_succ_of_lt (low b hb)⟩
    rw [hH3, upd_ne (by rw [← hD]; exact Nat.ne_of_lt (low b hb))]
    exact (f2 b hb).1
  have st3 : tn 0 s3.heap := T.keep _ _ _ st2 fun b _ o e => up b o e
  have I4 := block_start I3 ok hN f3
  obtain ⟨cl, hcl⟩ : ∃ cl, cl = cellsFrom (s3.heap.objs.size + 1) scope.names (cloFrom X.env.cells scope.names []) := ⟨_, rfl⟩
  obtain ⟨s4, hs4⟩ : ∃ s4 : Shared, s4 = { s3 with heap := pushCells (s3.heap.push { cls := .type "dict", data := .dict #[] }) scope.names } := ⟨_, rfl⟩
  rw [← hcl, ← hs4] at I4
  have st4 : tn 0 s4.heap := T.keep _ _ _ st3 fun b _ o e => by rw [hs4]; exact pushCells_keeps _ _ _ _ (Heap.get?_push_of_some _ e)
  obtain ⟨ce, hce⟩ : ∃ ce, ce = compEnvC scope cl s3.heap.objs.size X.env := ⟨_, rfl⟩
  have pg := hg s3 H3 s3.heap.objs.size cl fp
  have pt := ht s3 H3 s3.heap.objs.size cl fp
  have pe := he s3 H3 s3.heap.objs.size cl fp
  have pi1 := hi1 s3 H3 s3.heap.objs.size cl fp
  have pg1 := hg1 s3 H3 s3.heap.objs.size cl fp
  have pt1 := ht1 s3 H3 s3.heap.objs.size cl fp
  have goal : codeAny (model X.prog X.w) X.A (.compStart (sc2 elt t0 i0 t1 i1 fs0 fs1 scope pos) 0 (.ref it) (.ref D) ce) (compPost (model X.prog X.w) X.A X.xe none (EP X pins σ Q) (.ref D) s3.heap.objs.size) s4 := by
    unfold kX at pg pt pe pi1 pg1 pt1
    rw [← hce] at I4 pg pt pe pi1 pg1 pt1
    have cL : ce.locals = s3.heap.objs.size := by rw [hce]; rfl
    rw [← hH3] at w0
    have away : ∀ {σ' : L2.St} {H' : Hp} {s' : Shared}, Inv (X.blk s3 H3 scope ce fp) [] σ' H' s' → (∀ b ∈ fp, H' b = none) → ∀ b ∈ fp, FpOk (X.blk s3 H3 scope ce fp) [] H' b := fun {σ' H' s'} I' hn b hb =>
      ⟨hn b hb, (I'.ok.exf b hb).1, I'.ok.exfs b hb, .inl hb, fun x c e => (I'.ok.exf b hb).2 x c e, fun p hp => by simp at hp⟩
    refine sc2_start (.inl rfl) ?_ (fun Q E h => T.self X.A 0 _ _ _ st4 h)
    refine sc2_loop0 (hs1 ce) (fun n s' => ∃ i H', Inv (X.blk s3 H3 scope ce fp) [] (wipe σ (own.map (·.2))) H' s' ∧ tn i s'.heap ∧ (∀ b ∈ fp, H' b = none) ∧ W i n H') (fun n s5 hI => ?_) m0 ⟨0, H3, I4, st4, fun b hb => (f3 b hb).1.1, w0⟩
    obtain ⟨i, H5, I5, st5, n5, w5⟩ := hI
    rcases turn i n H5 w5 with ⟨stop, qq⟩ | ⟨go, N0, hN0, step⟩
    · refine qu_up (T.done (X.blk s3 H3 scope ce fp) rfl rfl rfl hc i [] s5 _ H5 (fun _ _ => False) I5 (away I5 n5) st5 stop) fun r s6 hr => ?_
      obtain ⟨rfl, I6⟩ := hr
      have I7 : Inv X pins σ H5 s6 := I3.call' (ch := fp) I6.os I6.base I6.hok I6.bare fun b hb => ⟨(f3 b hb).1.2.2.2.1, (f3 b hb).1.2.1, (f3 b hb).1.2.2.2.2.1, (f3 b hb).1.2.2.2.2.2⟩
      have nC : H5 s3.heap.objs.size = none := cL ▸ I6.free
      obtain ⟨m, hn, _⟩ := I6.loc
      obtain ⟨g0, g1, g2, g3, g4, g5⟩ := I3.fpOk (Nat.le_refl _) nC
      refine ⟨m, cL ▸ hn, fun h'' sb => ⟨.ref D, H5, I7.turned (t' := s6.toks) (fun b o hb e => (sb.2 b hb).trans e) g0 g1 g3 g4 g5, rfl, qq⟩⟩
    · refine qu_up (T.item (X.blk s3 H3 scope ce fp) rfl rfl rfl hc i [] s5 _ H5 (fun _ _ => False) I5 (away I5 n5) st5 go) fun r s6 hr => ?_
      obtain ⟨u, rfl, h6⟩ := hr
      refine qu_up h6 fun _ s7 h7 => ?_
      obtain ⟨x, H7, I7, r7, y7, st7, n7⟩ := h7
      have I7' := I7.pinned (away I7 n7) (T.obj _ _ st7)
      refine qu_up (pg.run _ s7 _ H7 x u _ I7' r7 (step x H7 y7)) fun _ s8 h8 => ?_
      obtain ⟨σ8, H8, I8, e8, q8⟩ := h8
      refine qu_up (pt.run _ s8 σ8 H8 _ I8 q8) fun b s9 h9 => ?_
      obtain ⟨H9, I9, q9⟩ := h9
      have len8 : (wipe σ (own.map (·.2))).length = σ8.length := by rw [← e8, wipe_length]
      have back : ∀ {τ : L2.St} {s' : Shared} {H' : Hp}, Inv (X.blk s3 H3 scope ce fp) ([] ++ pinsAt fp s7.heap) τ H' s' → (wipe σ (own.map (·.2))).length = τ.length → (∀ (j : Nat) v, (wipe σ (own.map (·.2)))[j]? = some (some v) → τ[j]? = some (some v)) → N0 H' →
          ∃ m, m < n ∧ ∃ i H', Inv (X.blk s3 H3 scope ce fp) [] (wipe σ (own.map (·.2))) H' s' ∧ tn i s'.heap ∧ (∀ b ∈ fp, H' b = none) ∧ W i m H' := fun {τ s' H'} I' hl hk nx => by
        obtain ⟨m', hm, w'⟩ := hN0 H' nx
        have stay : ∀ b ∈ fp, ∀ o, s7.heap.get? b = some o → s'.heap.get? b = some o ∧ H' b = none := fun b hb o e => by
          have z := I'.pin (b, o) (List.mem_append_right _ (List.mem_append_right _ (mem_pinsAt hb e)))
          exact ⟨z.1, z.2.1⟩
        refine ⟨m', hm, i + 1, H', (I'.unpinned (pins := [])).weak hl hk, T.keep _ _ _ st7 fun b hb o e => (stay b hb o e).1, fun b hb => ?_, w'⟩
        obtain ⟨o, e, _⟩ := T.obj _ _ st7 b hb
        exact (stay b hb o e).2
      have know8 : ∀ (j : Nat) v, (wipe σ (own.map (·.2)))[j]? = some (some v) → σ8[j]? = some (some v) := fun j v e => (wipe_some (by rw [e8]; exact e)).1
      cases b with
      | false =>
        rw [if_neg Bool.false_ne_true] at q9
        rw [if_neg Bool.false_ne_true]
        exact back I9 len8 know8 q9
      | true =>
        rw [if_pos rfl] at q9
        rw [if_pos rfl]
        refine qu_up (pi1.run _ s9 σ8 H9 _ I9 q9) fun xv s10 hx => qu_up hx fun itv s11 h11 => ?_
        obtain ⟨it1, fp1, tn1, J1, H11, rfl, I11, T1, st11, f11, W1, ⟨m1, w1⟩, turn1⟩ := h11
        have away1 : ∀ {H' : Hp}, (∀ b ∈ fp1, H' b = none) → ∀ b ∈ fp1, FpOk (X.blk s3 H3 scope ce fp) ([] ++ pinsAt fp s7.heap) H' b := fun hn b hb => ⟨hn b hb, (f11 b hb).2⟩
        have know9 : ∀ (j : Nat) v, (wipe σ (own.map (·.2)))[j]? = some (some v) → (wipe σ8 vs1)[j]? = some (some v) := fun j v e => by
          obtain ⟨q1, q2⟩ := wipe_some (by rw [e8]; exact e)
          rw [wipe_out fun z => q2 (hv j z)]
          exact q1
        refine sc2_start (.inr rfl) ?_ (fun Q E h => T1.self X.A 0 _ _ _ st11 h)
        refine sc2_loop1 (fun k s' => ∃ j H', Inv (X.blk s3 H3 scope ce fp) ([] ++ pinsAt fp s7.heap) (wipe σ8 vs1) H' s' ∧ tn1 j s'.heap ∧ (∀ b ∈ fp1, H' b = none) ∧ W1 j k H') (fun k s12 hI => ?_) m1 ⟨0, H11, I11.weak (wipe_length _ _) (fun j v e => (wipe_some e).1), st11, fun b hb => (f11 b hb).1, w1⟩
        obtain ⟨j, H12, I12, st12, n12, w12⟩ := hI
        rcases turn1 j k H12 w12 with ⟨stop1, nx1⟩ | ⟨go1, N1, hN1, step1⟩
        · refine qu_up (T1.done (X.blk s3 H3 scope ce fp) rfl rfl rfl hc j _ s12 _ H12 (fun _ _ => False) I12 (away1 n12) st12 stop1) fun r s13 hr => ?_
          obtain ⟨rfl, I13⟩ := hr
          exact back I13 (len8.trans (wipe_length σ8 vs1).symm) know9 nx1
        · refine qu_up (T1.item (X.blk s3 H3 scope ce fp) rfl rfl rfl hc j _ s12 _ H12 (fun _ _ => False) I12 (away1 n12) st12 go1) fun r s13 hr => ?_
          obtain ⟨u1, rfl, h13⟩ := hr
          refine qu_up h13 fun _ s14 h14 => ?_
          obtain ⟨x1, H14, I14, r14, y14, st14, n14⟩ := h14
          refine qu_up (pg1.run _ s14 _ H14 x1 u1 _ (I14.pinned (away1 n14) (T1.obj _ _ st14)) r14 (step1 x1 H14 y14)) fun _ s15 h15 => ?_
          obtain ⟨σ15, H15, I15, e15, q15⟩ := h15
          refine qu_up (pt1.run _ s15 σ15 H15 _ I15 q15) fun b1 s16 h16 => ?_
          obtain ⟨H16, I16, q16⟩ := h16
          have back1 : ∀ {s' : Shared} {H' : Hp}, Inv (X.blk s3 H3 scope ce fp) (([] ++ pinsAt fp s7.heap) ++ pinsAt fp1 s14.heap) σ15 H' s' → N1 H' → ∃ m, m < k ∧ ∃ j H', Inv (X.blk s3 H3 scope ce fp) ([] ++ pinsAt fp s7.heap) (wipe σ8 vs1) H' s' ∧ tn1 j s'.heap ∧ (∀ b ∈ fp1, H' b = none) ∧ W1 j m H' := fun {s' H'} I' nx => by
            obtain ⟨m', hm, w'⟩ := hN1 H' nx
            have stay : ∀ b ∈ fp1, ∀ o, s14.heap.get? b = some o → s'.heap.get? b = some o ∧ H' b = none := fun b hb o e => by
              have z := I'.pin (b, o) (List.mem_append_right _ (List.mem_append_right _ (mem_pinsAt hb e)))
              exact ⟨z.1, z.2.1⟩
            refine ⟨m', hm, j + 1, H', I'.unpinned.weak (by rw [← e15, wipe_length]) (fun j v e => (wipe_some (by rw [e15]; exact e)).1), T1.keep _ _ _ st14 fun b hb o e => (stay b hb o e).1, fun b hb => ?_, w'⟩
            obtain ⟨o, e, _⟩ := T1.obj _ _ st14 b hb
            exact (stay b hb o e).2
          cases b1 with
          | false =>
            rw [if_neg Bool.false_ne_true] at q16
            rw [if_neg Bool.false_ne_true]
            exact back1 I16 q16
          | true =>
            rw [if_pos rfl] at q16
            rw [if_pos rfl]
            refine qu_up (pe.run _ s16 σ15 H16 _ I16 q16) fun z s17 h17 => ?_
            obtain ⟨y, H17, I17, r17, q17⟩ := h17
            exact addS_ok (X := X.blk s3 H3 scope ce fp) I17 r17 q17 fun s18 H18 I18 nx => back1 I18 nx
  rw [hce, hcl, hs4, hs3] at goal
  exact goal
end
end DL
set_option Elab.async false
set_option linter.all false
set_option maxRecDepth 100000
set_option maxHeartbeats 4000000
namespace DL
open PySem PySem.Spec PyProof.Rows L2
/-! ### sorted sets of ints -/
/-- the ascending list without repeats -/
def setI (ns : List Int) : List Int := sortI ns.eraseDups
theorem mem_eraseDups {ns : List Int} {k : Int} : k ∈ ns.eraseDups ↔ k ∈ ns := List.mem_eraseDups
theorem nodup_eraseDups : ∀ (ns : List Int), ns.eraseDups.Nodup := fun ns => by
  induction h : ns.length using Nat.strongRecOn generalizing ns with
  | ind n ih =>
    cases ns with
    | nil => simp
    | cons x xs =>
      rw [List.eraseDups_cons, List.nodup_cons]
      refine ⟨fun hm => ?_, ih _ ?_ _ rfl⟩
      · rw [List.mem_eraseDups, List.mem_filter] at hm
        simp at hm
      · rw [← h, List.length_cons]
        exact Nat.lt_succ_of_le (List.length_filter_le _ _)
theorem mem_setI {ns : List Int} {k : Int} : k ∈ setI ns ↔ k ∈ ns := by
  unfold setI
  rw [(sortI_perm _).mem_iff, mem_eraseDups]
theorem setI_lt (ns : List Int) : (setI ns).Pairwise (· < ·) := by
  have h1 := sortI_sorted ns.eraseDups
  have h2 : (sortI ns.eraseDups).Nodup := (sortI_perm _).nodup_iff.mpr (nodup_eraseDups ns)
  exact (h1.and h2).imp fun ⟨a, b⟩ => by omega
theorem lt_one {xs ys : List Int} (hx : xs.Pairwise (· < ·)) (hy : ys.Pairwise (· < ·)) (h : ∀ k, k ∈ xs ↔ k ∈ ys) : xs = ys := by
  have p : xs.Perm ys := (List.perm_ext_iff_of_nodup (hx.imp fun h => by omega) (hy.imp fun h => by omega)).mpr h
  exact sorted_one p (hx.imp fun h => by omega) (hy.imp fun h => by omega)
theorem setI_one {xs ns : List Int} (hx : xs.Pairwise (· < ·)) (h : ∀ k, k ∈ xs ↔ k ∈ ns) : xs = setI ns := lt_one hx (setI_lt ns) fun k => by rw [mem_setI]; exact h k
theorem setI_of_lt {xs : List Int} (hx : xs.Pairwise (· < ·)) : setI xs = xs := (setI_one hx fun _ => Iff.rfl).symm
theorem setI_congr {xs ys : List Int} (h : ∀ k, k ∈ xs ↔ k ∈ ys) : setI xs = setI ys := lt_one (setI_lt _) (setI_lt _) fun k => by rw [mem_setI, mem_setI]; exact h k
section
variable {X : Cx} {e : Expr} {ρ ρ1 : List Sl} {pos p1 p2 pp : Pos}
/-- the reading of sorted(s), s a set at hand -/
theorem sorted_end {H : Hp} {Q : VK} {a : Addr} {S : Int → Bool} {n : Nat} {ns : List Int} (ha : H a = some (SetO X.w a S n)) (hn : n < 64) (hS : ∀ k, S k = true ↔ k ∈ ns) (q : ∀ p, H p = none → Q (.ref p) (upd H p (.lst ((setI ns).map V.int)))) : rSortedSet X.w [.ref a] H Q :=
  ⟨a, S, n, rfl, ha, hn, fun ms p hlt hm _ hp => by
    have e : ms = setI ns := setI_one hlt fun k => by rw [hm, hS]
    rw [e]
    exact q p hp⟩
/-- sorted(set(e)) -/
theorem xo_sortset {nm1 nm2 : Str} {ns : List Int} (hc : X.calm = true) (h : XE X e ρ (.list (ns.map .int)) ρ1) (hn : ns.length < 64) (hg : Gl X nm1) (hm : X.mg nm1 = none) (hv : bootBuiltins nm1 = some (.builtin "sorted")) (hg2 : Gl X nm2) (hm2 : X.mg nm2 = none) (hv2 : bootBuiltins nm2 = some (.type "set")) (e1 : nm1 = "sorted" := by rfl) (e2 : nm2 = "set" := by rfl)
    (q1 : starEach [e] X.env = (false, eval e X.env) :: starEach [] X.env := by rfl) (q2 : ((backTo pp (starEach [] X.env)).any fun x => x.fst) = false := by rfl) (q3 : starEach [.Call (.Name nm2 p2) [e] [] pp] X.env = (false, eval (.Call (.Name nm2 p2) [e] [] pp) X.env) :: starEach [] X.env := by rfl) (q4 : ((backTo pos (starEach [] X.env)).any fun x => x.fst) = false := by rfl) :
    XO X (.Call (.Name nm1 p1) [.Call (.Name nm2 p2) [e] [] pp] [] pos) ρ ((setI ns).map .int) ρ1 := by
  subst e1 e2
  refine .of (pe_callB (cr_sortedSet hc) hg hm hv (pa_cons (pe_callTy (cr_setL hc) hg2 hm2 hv2 (pa_cons (pcE e) pa_nil q1) (by decide) (by decide) q1 q2) pa_nil q3) (by decide) (by decide) q3 q4) fun F0 G F H σ k Q q => ?_
  refine h F0 G F H σ k _ fun v F1 H1 k1 f1 d1 => ?_
  cases d1 with
  | @lst l vs _ s r =>
    have ev := Rps.ints r
    subst ev
    refine ⟨l, ns, rfl, .of (k1.fh _ _ s), hn, fun a c ha hcn => ?_⟩
    refine sorted_end (ns := ns) upd_same (by omega) (fun k => by simp) fun p hp => ?_
    exact q p _ F1 _ (k1.loose ha) f1 hp (Rps.of_ints _)
/-- a set's turns: what is known of its members -/
def SetAt (w : World) (Da : Addr) (zs : List Int) (o : HO) : Prop := ∃ S n, o = SetO w Da S n ∧ n ≤ zs.length ∧ ∀ k, S k = true ↔ k ∈ zs
/-- one clause's turns over a set of ints that is filled: W and its turns -/
theorem sc_loop {scope : Scope} {tg elt : Expr} {ifs : List Expr} {vs : List Nat} {F0 G : Hp} {Da : Addr} {J : It} {xs : List D} {ys zs : List Int} {F1 H1 : Hp} {σ : L2.St} {ρ ρ' : List Sl} {o0 : HO} {Qd : Hp → Prop} (yl : Yl X.K J F1 xs) (lc : LC X scope tg ifs elt vs xs ρ (ys.map .int) ρ') (k1 : Ok X.K (lessD F0 Da) (upd G Da o0) F1 H1 (wipe σ vs) ρ) (r0 : SetAt X.w Da zs o0) (hz : (zs ++ ys).length < 64)
    (fin : ∀ F H o, Ok X.K (lessD F0 Da) (upd G Da o) F H (wipe σ vs) ρ' → Same F1 F → SetAt X.w Da (zs ++ ys) o → Qd H) :
    ∃ W : Nat → Nat → Hp → Prop, (∃ m, W 0 m H1) ∧ ∀ i m H, W i m H →
      (J.stop i H ∧ Qd H) ∨ (J.go i H ∧ ∃ Nx : Hp → Prop, (∀ H', Nx H' → ∃ m', m' < m ∧ W (i + 1) m' H') ∧ ∀ x H', J.yld i H x H' → bG X scope tg x (wipe σ vs) H' fun σ2 H2 => wipe σ2 vs = wipe σ vs ∧ bTs X scope ifs σ2 H2 fun b H3 =>
        if b = true then bE X scope elt σ2 H3 fun y H4 => addS X.w Da y H4 Nx else Nx H3) := by
  refine ⟨fun i m H => m = xs.length - i ∧ i ≤ xs.length ∧ ∃ (F : Hp) (ρi : List Sl) (o : HO) (zs1 ys1 : List Int), Ok X.K (lessD F0 Da) (upd G Da o) F H (wipe σ vs) ρi ∧ Same F1 F ∧ SetAt X.w Da zs1 o ∧ LC X scope tg ifs elt vs (xs.drop i) ρi (ys1.map .int) ρ' ∧ zs1 ++ ys1 = zs ++ ys, ⟨_, rfl, Nat.zero_le _, F1, ρ, o0, zs, ys, k1, Same.refl _, r0, lc, rfl⟩, ?_⟩
  rintro i m H ⟨rfl, hle, F, ρi, o, zs1, ys1, k, f, r, lc, e⟩
  by_cases hlt : i < xs.length
  · rw [List.drop_eq_getElem_cons hlt] at lc
    have hx : xs[i]? = some xs[i] := List.getElem?_eq_getElem hlt
    refine .inr ⟨yl.go i H (f.trans k.fh) hlt, _, fun H' w => ⟨xs.length - (i + 1), by omega, w⟩, fun x H' hy => ?_⟩
    obtain ⟨F3, gr, r3⟩ := yl.yld i H x H' F f k.fh hy _ hx
    have k3 := k.gr gr
    generalize hys : ys1.map PyData.int = yd at lc
    cases lc with
    | @take _ y _ ydr ws _ ρ1 ρ2 ρ3 _ g1 sub t1 e1 l1 =>
      obtain ⟨z, yr, rfl, hzr, hyr⟩ : ∃ z yr, ys1 = z :: yr ∧ .int z = y ∧ yr.map PyData.int = ydr := by
        cases ys1 with
        | nil => cases hys
        | cons z yr =>
          simp only [List.map_cons, List.cons.injEq] at hys
          exact ⟨z, yr, rfl, hys.1, hys.2⟩
      subst hzr hyr
      intro s H0 C cl fp
      refine g1 s H0 C cl fp _ _ F3 H' (wipe σ vs) x k3 r3 _ fun σ4 k4 hl4 n4 => ?_
      have hw : wipe σ4 vs = wipe σ vs := by
        rw [wipe_ext (vs := vs) hl4 fun i hi => n4 i fun z => hi (sub i z)]
        exact wipe_wipe σ fun _ z => z
      refine ⟨hw, fun s H0 C cl fp => t1 s H0 C cl fp _ _ F3 H' σ4 k4 _ fun F5 H5 k5 f5 => ?_⟩
      rw [if_pos rfl]
      intro s H0 C cl fp
      refine e1 s H0 C cl fp _ _ F5 H5 σ4 k5 _ fun v F6 H6 k6 f6 r6 => ?_
      cases r6
      obtain ⟨S, n, rfl, hn, hS⟩ := r
      have hlen : zs1.length + (yr.length + 1) < 64 := by
        have := hz
        rw [← e, List.length_append, List.length_cons] at this
        exact this
      refine ⟨S, n, z, rfl, k6.atD.1, by unfold scanBound; omega, rfl, hlt, F6, _, SetO X.w Da (fun j => S j || decide (j = z)) (if S z = true then n else n + 1), zs1 ++ [z], yr, ?_, ((f.trans gr.f).trans f5).trans f6, ⟨_, _, rfl, ?_, fun j => ?_⟩, l1, ?_⟩
      · rw [← hw]
        exact k6.putD.wipe vs
      · rw [List.length_append, List.length_singleton]
        split <;> omega
      · rw [Bool.or_eq_true, hS, decide_eq_true_iff, List.mem_append, List.mem_singleton]
      · rw [List.append_assoc]; exact e
    | skip g1 sub t1 l1 =>
      subst hys
      intro s H0 C cl fp
      refine g1 s H0 C cl fp _ _ F3 H' (wipe σ vs) x k3 r3 _ fun σ4 k4 hl4 n4 => ?_
      have hw : wipe σ4 vs = wipe σ vs := by
        rw [wipe_ext (vs := vs) hl4 fun i hi => n4 i fun z => hi (sub i z)]
        exact wipe_wipe σ fun _ z => z
      refine ⟨hw, fun s H0 C cl fp => t1 s H0 C cl fp _ _ F3 H' σ4 k4 _ fun F5 H5 k5 f5 => ?_⟩
      rw [if_neg Bool.false_ne_true]
      refine ⟨rfl, hlt, F5, _, o, _, _, ?_, (f.trans gr.f).trans f5, r, l1, e⟩
      rw [← hw]
      exact k5.wipe vs
  · have hi : i = xs.length := by omega
    subst hi
    rw [List.drop_length] at lc
    have : ys1 = [] := by
      cases ys1 with
      | nil => rfl
      | cons z yr => cases lc
    subst this
    cases lc
    rw [List.append_nil] at e
    subst e
    exact .inl ⟨yl.stop H (f.trans k.fh), fin F H o k f r⟩
/-- two clauses: the first one's items, the slots, what all gives, the slots behind -/
inductive LC2 (X : Cx) (scope : Scope) (t0 : Expr) (fs0 : List Expr) (t1 i1 : Expr) (fs1 : List Expr) (elt : Expr) (vs vs1 : List Nat) : List D → List Sl → List D → List Sl → Prop
  | nil {ρ : List Sl} : LC2 X scope t0 fs0 t1 i1 fs1 elt vs vs1 [] ρ [] ρ
  | take {x : D} {xs xs1 ys ys' : List D} {ws : List Nat} {ρ ρ1 ρ2 ρ3 ρ4 ρ' : List Sl} : (∀ s H C cl fp, XG (bX X scope s H C cl fp) t0 ws x ρ ρ1) → (∀ i ∈ ws, i ∈ vs) → (∀ s H C cl fp, XTs (bX X scope s H C cl fp) fs0 ρ1 true ρ2) → (∀ s H C cl fp, XI (bX X scope s H C cl fp) t1 i1 ρ2 xs1 ρ3) →
      LC X scope t1 fs1 elt vs1 xs1 (wipeS ρ3 vs1) ys ρ4 → LC2 X scope t0 fs0 t1 i1 fs1 elt vs vs1 xs (wipeS ρ4 vs) ys' ρ' → LC2 X scope t0 fs0 t1 i1 fs1 elt vs vs1 (x :: xs) ρ (ys ++ ys') ρ'
  | skip {x : D} {xs ys : List D} {ws : List Nat} {ρ ρ1 ρ2 ρ' : List Sl} : (∀ s H C cl fp, XG (bX X scope s H C cl fp) t0 ws x ρ ρ1) → (∀ i ∈ ws, i ∈ vs) → (∀ s H C cl fp, XTs (bX X scope s H C cl fp) fs0 ρ1 false ρ2) → LC2 X scope t0 fs0 t1 i1 fs1 elt vs vs1 xs (wipeS ρ2 vs) ys ρ' → LC2 X scope t0 fs0 t1 i1 fs1 elt vs vs1 (x :: xs) ρ ys ρ'
theorem map_split {ys : List Int} {a b : List D} (h : ys.map PyData.int = a ++ b) : ∃ y1 y2, ys = y1 ++ y2 ∧ a = y1.map .int ∧ b = y2.map .int :=
  let ⟨y1, y2, e, e1, e2⟩ := List.map_eq_append_iff.mp h
  ⟨y1, y2, e, e1.symm, e2.symm⟩
/-- sorted({elt for t0 in i0 if .. for t1 in i1 if ..}) -/
theorem xo_sortsc2 {elt t0 i0 t1 i1 : Expr} {fs0 fs1 : List Expr} {scope : Scope} {own : List (Str × Nat)} {vs1 : List Nat} {nm1 : Str} {xs : List D} {ys : List Int} {ρ0 ρ' : List Sl} (hc : X.calm = true) (hN : X.N.Nodup) (hi : XI X t0 i0 ρ xs ρ0) (ok : BlkOk X.N X.env.scope scope own) (hv : ∀ i ∈ vs1, i ∈ own.map (·.2))
    (lc : LC2 X scope t0 fs0 t1 i1 fs1 elt (own.map (·.2)) vs1 xs (wipeS ρ0 (own.map (·.2))) (ys.map .int) ρ') (hz : ys.length < 64) (hg : Gl X nm1) (hm : X.mg nm1 = none) (hvb : bootBuiltins nm1 = some (.builtin "sorted")) (e1 : nm1 = "sorted" := by rfl)
    (hs : ∀ x, foldedSetIterable i0 X.env x = pure x := by intro _; rfl) (hs1 : ∀ env x, foldedSetIterable i1 env x = pure x := by intro _ _; rfl)
    (q3 : starEach [sc2 elt t0 i0 t1 i1 fs0 fs1 scope pp] X.env = (false, eval (sc2 elt t0 i0 t1 i1 fs0 fs1 scope pp) X.env) :: starEach [] X.env := by rfl) (q4 : ((backTo pos (starEach [] X.env)).any fun x => x.fst) = false := by rfl) :
    XO X (.Call (.Name nm1 p1) [sc2 elt t0 i0 t1 i1 fs0 fs1 scope pp] [] pos) ρ ((setI ys).map .int) (backS ρ0 ρ' (own.map (·.2))) := by
  subst e1
  have h := pe_sc2 (elt := elt) (t0 := t0) (i0 := i0) (t1 := t1) (i1 := i1) (fs0 := fs0) (fs1 := fs1) (pos := pp) (g := bG X scope t0) (tt := bTs X scope fs0) (wi1 := bI X scope t1 i1) (g1 := bG X scope t1) (tt1 := bTs X scope fs1) (te := bE X scope elt) hc hN (pcI t0 i0) ok hv
    (fun s H C cl fp => ⟨fun pins s' σ H' v u Q I r h => h s H C cl fp pins s' u I r⟩) (fun s H C cl fp => ⟨fun pins s' σ H' Q I h => h s H C cl fp pins s' I⟩) (fun s H C cl fp => ⟨fun pins s' σ H' R I h => h s H C cl fp pins s' I⟩)
    (fun s H C cl fp => ⟨fun pins s' σ H' v u Q I r h => h s H C cl fp pins s' u I r⟩) (fun s H C cl fp => ⟨fun pins s' σ H' Q I h => h s H C cl fp pins s' I⟩) (fun s H C cl fp => ⟨fun pins s' σ H' Q I h => h s H C cl fp pins s' I⟩) hs hs1
  intro F0 G F H σ k Q q pins s I
  refine (pe_callB (cr_sortedSet hc) hg hm hvb (pa_cons h pa_nil q3) (by decide) (by decide) q3 q4).run pins s σ H Q I (hi F0 G F H σ k _ fun J F1 H1 k1 f1 yl Da hD => ?_)
  obtain ⟨k2, gD⟩ := k1.begin (o := SetO X.w Da (fun _ => false) 0) hD
  have ln : (ρ0.length) = σ.length := k1.len.symm
  generalize hvs : own.map (·.2) = vs at *
  refine ⟨fun i m H => m = xs.length - i ∧ i ≤ xs.length ∧ ∃ (F : Hp) (ρi : List Sl) (o : HO) (zs1 ys1 : List Int), Ok X.K (lessD F0 Da) (upd G Da o) F H (wipe σ vs) ρi ∧ Same F1 F ∧ SetAt X.w Da zs1 o ∧ LC2 X scope t0 fs0 t1 i1 fs1 elt vs vs1 (xs.drop i) ρi (ys1.map .int) ρ' ∧ zs1 ++ ys1 = ys, ⟨_, rfl, Nat.zero_le _, F1, _, _, [], ys, k2.wipe vs, Same.refl _, ⟨_, _, rfl, Nat.le_refl _, fun k => by simp⟩, lc, rfl⟩, ?_⟩
  rintro i m H2 ⟨rfl, hle, F2, ρi, o, zs1, ys1, k3, f3, r, lc, e⟩
  by_cases hlt : i < xs.length
  · rw [List.drop_eq_getElem_cons hlt] at lc
    have hx : xs[i]? = some xs[i] := List.getElem?_eq_getElem hlt
    refine .inr ⟨yl.go i H2 (f3.trans k3.fh) hlt, _, fun H' w => ⟨xs.length - (i + 1), by omega, w⟩, fun x H' hy => ?_⟩
    obtain ⟨F4, gr, r4⟩ := yl.yld i H2 x H' F2 f3 k3.fh hy _ hx
    have k4 := k3.gr gr
    generalize hys : ys1.map PyData.int = yd at lc
    cases lc with
    | @take _ _ xs1 ya yb ws _ ρ1 ρ2 ρ3 ρ4 _ g1 sub ts1 ii l1 l2 =>
      obtain ⟨y1, y2, e2, rfl, rfl⟩ := map_split hys
      intro s H0 C cl fp
      refine g1 s H0 C cl fp _ _ F4 H' (wipe σ vs) x k4 r4 _ fun σ5 k5 hl5 n5 => ?_
      have hw : wipe σ5 vs = wipe σ vs := by
        rw [wipe_ext (vs := vs) hl5 fun i hi => n5 i fun z => hi (sub i z)]
        exact wipe_wipe σ fun _ z => z
      refine ⟨hw, fun s H0 C cl fp => ts1 s H0 C cl fp _ _ F4 H' σ5 k5 _ fun F6 H6 k6 f6 => ?_⟩
      rw [if_pos rfl]
      intro s H0 C cl fp
      refine ii s H0 C cl fp _ _ F6 H6 σ5 k6 _ fun J1 F7 H7 k7 f7 yl1 => ?_
      refine sc_loop (ys := y1) (zs := zs1) yl1 l1 (k7.wipe vs1) r ?_ fun F8 H8 o8 k8 f8 r8 => ⟨rfl, hlt, F8, _, o8, zs1 ++ y1, y2, ?_, (((f3.trans gr.f).trans f6).trans f7).trans f8, r8, l2, by rw [List.append_assoc, ← e2]; exact e⟩
      · have : (zs1 ++ y1).length ≤ ys.length := by rw [← e, e2]; simp only [List.length_append]; omega
        omega
      · have := k8.wipe vs
        rw [wipe_wipe σ5 hv, hw] at this
        exact this
    | skip g1 sub ts1 l1 =>
      subst hys
      intro s H0 C cl fp
      refine g1 s H0 C cl fp _ _ F4 H' (wipe σ vs) x k4 r4 _ fun σ5 k5 hl5 n5 => ?_
      have hw : wipe σ5 vs = wipe σ vs := by
        rw [wipe_ext (vs := vs) hl5 fun i hi => n5 i fun z => hi (sub i z)]
        exact wipe_wipe σ fun _ z => z
      refine ⟨hw, fun s H0 C cl fp => ts1 s H0 C cl fp _ _ F4 H' σ5 k5 _ fun F6 H6 k6 f6 => ?_⟩
      rw [if_neg Bool.false_ne_true]
      refine ⟨rfl, hlt, F6, _, o, zs1, ys1, ?_, (f3.trans gr.f).trans f6, r, l1, e⟩
      rw [← hw]
      exact k6.wipe vs
  · have hi' : i = xs.length := by omega
    subst hi'
    rw [List.drop_length] at lc
    generalize hys : ys1.map PyData.int = yd at lc
    cases lc
    have : ys1 = [] := by
      cases ys1 with
      | nil => rfl
      | cons z yr => cases hys
    subst this
    rw [List.append_nil] at e
    subst e
    refine .inl ⟨yl.stop H2 (f3.trans k3.fh), ?_⟩
    obtain ⟨S, n, rfl, hn, hS⟩ := r
    obtain ⟨h1, h2⟩ := k3.atD
    obtain ⟨k5, ap⟩ := k3.endD gD
    refine sorted_end h1 (by omega) hS fun p hp => ?_
    have k6 := k1.back f3 k5
    refine q p _ F2 _ (k6.loose hp) (f1.trans f3) upd_same ?_ ?_ (fun i s ys e o z => ?_) (Rps.of_ints _)
    · cases e : F2 p with
      | none => rfl
      | some u => rw [k6.fh p u e] at hp; cases hp
    · cases e : G p with
      | none => rfl
      | some u => rw [k6.gh p u e] at hp; cases hp
    · obtain ⟨a, ws, q1, q2, _⟩ := k6.has i s ys e o
      rw [q1] at z
      cases z
      rw [hp] at q2
      cases q2
end
end DL
set_option Elab.async false
set_option linter.all false
set_option maxRecDepth 100000
set_option maxHeartbeats 4000000
namespace DL
open PySem PySem.Spec PyProof.Rows L2
section
variable {X : Cx} {e : Expr} {ρ ρ1 : List Sl} {pos p1 p2 pp : Pos}
/-- name = [elt for tg in iter if ..] on one line, the list one's own -/
theorem xs_setLc (n : Nat) {nm : Str} {py spos : Pos} {tg elt iter : Expr} {ifs : List Expr} {scope : Scope} {own : List (Str × Nat)} {ρ0 ρ' : List Sl} {xs ys : List D} (hc : X.calm = true) (hN : X.N.Nodup) (hi : XI X tg iter ρ xs ρ0) (ok : BlkOk X.N X.env.scope scope own) (lc : LC X scope tg ifs elt (own.map (·.2)) xs (wipeS ρ0 (own.map (·.2))) ys ρ') (hz : ys.length < 1000000)
    (hy : X.N[n]? = some nm := by rfl) (hyl : X.env.scope.names.lookup nm = some .local := by rfl) (hsw : swapsWith (.ListComp elt [⟨tg, iter, ifs, 0⟩] scope pos) (some (.Name nm py)) spos.line X.env = pure true := by exact sw_true rfl rfl rfl (by decide +kernel))
    (hs : ∀ x, foldedSetIterable iter X.env x = pure x := by intro _; rfl) : XS X (.Assign [.Name nm py] (.ListComp elt [⟨tg, iter, ifs, 0⟩] scope pos) spos) ρ (.nx ((backS ρ0 ρ' (own.map (·.2))).set n (.o ys))) := by
  have h := ps_setLc (elt := elt) (tg := tg) (iter := iter) (ifs := ifs) (pos := pos) (spos := spos) (py := py) (g := bG X scope tg) (tt := bTs X scope ifs) (te := bE X scope elt) hc hN hy hyl hsw (pcI tg iter) ok
    (fun s H C cl fp => ⟨fun pins s' σ H' v u Q I r h => h s H C cl fp pins s' u I r⟩) (fun s H C cl fp => ⟨fun pins s' σ H' Q I h => h s H C cl fp pins s' I⟩) (fun s H C cl fp => ⟨fun pins s' σ H' Q I h => h s H C cl fp pins s' I⟩) hs
  intro F0 G F H σ k Dn q pins s I
  refine h.run pins s σ H Dn I (hi F0 G F H σ k _ fun J F1 H1 k1 f1 yl Da hD => ?_)
  obtain ⟨k2, gD⟩ := k1.begin (o := .lst []) hD
  refine lc_loop (zs := []) yl lc (k2.wipe _) .nil (by simpa using hz) fun F2 H2 acc k3 f3 r3 => ?_
  obtain ⟨h1, h2⟩ := k3.atD
  obtain ⟨k4, ap⟩ := k3.endD gD
  refine q _ F2 H2 ((k1.back f3 k4).setO h1 h2 gD (fun i s ys e o => ?_) r3) (f1.trans f3)
  by_cases hi : i ∈ own.map (·.2)
  · have hlt : i < ρ'.length := by
      have := (List.getElem?_eq_some_iff.mp e).1
      rwa [backS_len] at this
    rw [backS_at hi hlt] at e
    cases e
    exfalso
    cases qq : ρ0[i]? with
    | none => rw [qq] at o; cases o
    | some s => rw [qq] at o; cases s <;> cases o
  · rw [backS_out hi] at e
    have := ap i s ys e o
    rw [wipe_out hi] at this
    exact this
/-- [elt for t0 in i0 if .. for t1 in i1 if ..] -/
theorem xo_lc2 {elt t0 i0 t1 i1 : Expr} {fs0 fs1 : List Expr} {scope : Scope} {own : List (Str × Nat)} {vs1 : List Nat} {xs ys : List D} {ρ0 ρ' : List Sl} (hc : X.calm = true) (hN : X.N.Nodup) (hi : XI X t0 i0 ρ xs ρ0) (ok : BlkOk X.N X.env.scope scope own) (hv : ∀ i ∈ vs1, i ∈ own.map (·.2))
    (lc : LC2 X scope t0 fs0 t1 i1 fs1 elt (own.map (·.2)) vs1 xs (wipeS ρ0 (own.map (·.2))) ys ρ') (hz : ys.length < 1000000) (hs : ∀ x, foldedSetIterable i0 X.env x = pure x := by intro _; rfl) (hs1 : ∀ env x, foldedSetIterable i1 env x = pure x := by intro _ _; rfl) :
    XO X (.ListComp elt [⟨t0, i0, fs0, 0⟩, ⟨t1, i1, fs1, 0⟩] scope pos) ρ ys (backS ρ0 ρ' (own.map (·.2))) := by
  have h := pe_lc2 (elt := elt) (tg := t0) (iter := i0) (tg1 := t1) (iter1 := i1) (ifs := fs0) (ifs1 := fs1) (pos := pos) (g := bG X scope t0) (tt := bTs X scope fs0) (wi1 := bI X scope t1 i1) (g1 := bG X scope t1) (tt1 := bTs X scope fs1) (te := bE X scope elt) hc hN (pcI t0 i0) ok hv
    (fun s H C cl fp => ⟨fun pins s' σ H' v u Q I r h => h s H C cl fp pins s' u I r⟩) (fun s H C cl fp => ⟨fun pins s' σ H' Q I h => h s H C cl fp pins s' I⟩) (fun s H C cl fp => ⟨fun pins s' σ H' R I h => h s H C cl fp pins s' I⟩)
    (fun s H C cl fp => ⟨fun pins s' σ H' v u Q I r h => h s H C cl fp pins s' u I r⟩) (fun s H C cl fp => ⟨fun pins s' σ H' Q I h => h s H C cl fp pins s' I⟩) (fun s H C cl fp => ⟨fun pins s' σ H' Q I h => h s H C cl fp pins s' I⟩) hs hs1
  intro F0 G F H σ k Q q pins s I
  refine h.run pins s σ H Q I (hi F0 G F H σ k _ fun J F1 H1 k1 f1 yl Da hD => ?_)
  obtain ⟨k2, gD⟩ := k1.begin (o := .lst []) hD
  generalize hvs : own.map (·.2) = vs at *
  refine ⟨fun i m H => m = xs.length - i ∧ i ≤ xs.length ∧ ∃ (F : Hp) (ρi : List Sl) (acc : List V) (zs1 ys1 : List D), Ok X.K (lessD F0 Da) (upd G Da (.lst acc)) F H (wipe σ vs) ρi ∧ Same F1 F ∧ Rps X.K F acc zs1 ∧ LC2 X scope t0 fs0 t1 i1 fs1 elt vs vs1 (xs.drop i) ρi ys1 ρ' ∧ zs1 ++ ys1 = ys, ⟨_, rfl, Nat.zero_le _, F1, _, [], [], ys, k2.wipe vs, Same.refl _, .nil, lc, rfl⟩, ?_⟩
  rintro i m H2 ⟨rfl, hle, F2, ρi, acc, zs1, ys1, k3, f3, r, lc, e⟩
  by_cases hlt : i < xs.length
  · rw [List.drop_eq_getElem_cons hlt] at lc
    have hx : xs[i]? = some xs[i] := List.getElem?_eq_getElem hlt
    refine .inr ⟨yl.go i H2 (f3.trans k3.fh) hlt, _, fun H' w => ⟨xs.length - (i + 1), by omega, w⟩, fun x H' hy => ?_⟩
    obtain ⟨F4, gr, r4⟩ := yl.yld i H2 x H' F2 f3 k3.fh hy _ hx
    have k4 := k3.gr gr
    cases lc with
    | @take _ _ xs1 y1 y2 ws _ ρ1 ρ2 ρ3 ρ4 _ g1 sub ts1 ii l1 l2 =>
      intro s H0 C cl fp
      refine g1 s H0 C cl fp _ _ F4 H' (wipe σ vs) x k4 r4 _ fun σ5 k5 hl5 n5 => ?_
      have hw : wipe σ5 vs = wipe σ vs := by
        rw [wipe_ext (vs := vs) hl5 fun i hi => n5 i fun z => hi (sub i z)]
        exact wipe_wipe σ fun _ z => z
      refine ⟨hw, fun s H0 C cl fp => ts1 s H0 C cl fp _ _ F4 H' σ5 k5 _ fun F6 H6 k6 f6 => ?_⟩
      rw [if_pos rfl]
      intro s H0 C cl fp
      refine ii s H0 C cl fp _ _ F6 H6 σ5 k6 _ fun J1 F7 H7 k7 f7 yl1 => ?_
      refine lc_loop (ys := y1) (zs := zs1) yl1 l1 (k7.wipe vs1) (rps_mono ((gr.f.trans f6).trans f7) _ _ r) ?_ fun F8 H8 o8 k8 f8 r8 => ⟨rfl, hlt, F8, _, o8, zs1 ++ y1, y2, ?_, (((f3.trans gr.f).trans f6).trans f7).trans f8, r8, l2, by rw [List.append_assoc]; exact e⟩
      · have : (zs1 ++ y1).length ≤ ys.length := by rw [← e]; simp only [List.length_append]; omega
        omega
      · have := k8.wipe vs
        rw [wipe_wipe σ5 hv, hw] at this
        exact this
    | skip g1 sub ts1 l1 =>
      intro s H0 C cl fp
      refine g1 s H0 C cl fp _ _ F4 H' (wipe σ vs) x k4 r4 _ fun σ5 k5 hl5 n5 => ?_
      have hw : wipe σ5 vs = wipe σ vs := by
        rw [wipe_ext (vs := vs) hl5 fun i hi => n5 i fun z => hi (sub i z)]
        exact wipe_wipe σ fun _ z => z
      refine ⟨hw, fun s H0 C cl fp => ts1 s H0 C cl fp _ _ F4 H' σ5 k5 _ fun F6 H6 k6 f6 => ?_⟩
      rw [if_neg Bool.false_ne_true]
      refine ⟨rfl, hlt, F6, _, acc, zs1, ys1, ?_, (f3.trans gr.f).trans f6, rps_mono (gr.f.trans f6) _ _ r, l1, e⟩
      rw [← hw]
      exact k6.wipe vs
  · have hi' : i = xs.length := by omega
    subst hi'
    rw [List.drop_length] at lc
    cases lc
    rw [List.append_nil] at e
    subst e
    refine .inl ⟨yl.stop H2 (f3.trans k3.fh), ?_⟩
    obtain ⟨h1, h2⟩ := k3.atD
    obtain ⟨k5, ap⟩ := k3.endD gD
    refine q Da acc F2 H2 (k1.back f3 k5) (f1.trans f3) h1 h2 gD (fun i s ys e o => ?_) r
    by_cases hi : i ∈ vs
    · have hlt : i < ρ'.length := by
        have := (List.getElem?_eq_some_iff.mp e).1
        rwa [backS_len] at this
      rw [backS_at hi hlt] at e
      cases e
      exfalso
      cases qq : ρ0[i]? with
      | none => rw [qq] at o; cases o
      | some s => rw [qq] at o; cases s <;> cases o
    · rw [backS_out hi] at e
      have := ap i s ys e o
      rw [wipe_out hi] at this
      exact this
end
end DL
set_option Elab.async false
set_option linter.all false
set_option maxRecDepth 100000
set_option maxHeartbeats 4000000
namespace DL
open PySem PySem.Spec PyProof.Rows L2
section
variable {P : Program} {w : World} {A : Around} {E : Value → Shared → Prop} {s : Shared}
/-- sorted(t) of a tuple of ints -/
theorem sorted_tup {t : Addr} {items : Array Value} {ns : List Int} {Q : Value → Shared → Prop} (ht : IsTup s.heap t items) (hi : IntsAre items.toList ns) (hz : items.size ≤ sizeLine)
    (h : ∀ (h1 h' : Heap) (p : Addr) (out : List Value) (c : Nat) (ms : List Int), (∀ b o, s.heap.get? b = some o → h1.get? b = some o) → (∀ b o, h1.get? b = some o → h'.get? b = some o) → h1.objs.size ≤ p → h'.get? p = some (seqObj "list" out.toArray c) → IntsAre out ms → ms.Perm ns → ms.Pairwise (· ≤ ·) → Q (.ref p) { s with heap := h' }) :
    wpAny (model P w) A (call (.builtin "sorted") [.ref t]) Q E s := by
  obtain ⟨o, ho, hc, n, hd⟩ := id ht
  refine Calls.call_function_entry kind_sorted plain_sorted entry_sorted (args_sorted1 _) ?_
  unfold Builtin.«sorted»
  refine wpAny_bind (m := checkCount "sorted" 1 1 _) (wpAny_pure ?_)
  refine wpAny_bind (wpAny_collect_seq (T := "tuple") t (.inr rfl) ho hc hd (fun h1 k1 => ?_) hz)
  refine wpAny_bind (wpAny_newList ?_ (by rw [Array.length_toList]; exact hz))
  have e1 : (h1.push (seqObj "list" items.toList.toArray 0)).get? h1.objs.size = some (seqObj "list" items.toList.toArray 0) := Heap.get?_push_size _ rfl
  refine wpAny_bind (wpAny_holding (wpAny_call_entry slot_list_sort ⟨_, e1, rfl⟩ entry_list_sort (SrtO.list_sort_ord SrtO.swo_int e1 (by rw [Array.length_toList]; exact hz) (fun h2 => SrtO.ints_sortable hi h2) fun out g1 g2 => ⟨_, rfl, ?_⟩) (args_list_sort _)))
  obtain ⟨q1, q2, q3⟩ := SrtO.ints_out hi g1 g2
  obtain ⟨c, hc'⟩ := sortedHeap_at (vs := items.toList) (out := out.toArray) e1
  refine wpAny_pure ⟨_, rfl, h h1 _ h1.objs.size out c (out.map SrtO.iv) k1 (fun b u e2 => ?_) (Nat.le_refl _) hc' q1 q2 q3⟩
  have hlt := Heap.lt_size e2
  show (sortedHeap (h1.push (seqObj "list" items.toList.toArray 0)) h1.objs.size items.toList out.toArray).get? b = some u
  rw [sortedHeap_old (Nat.ne_of_lt hlt) (by rw [size_push']; exact Nat.lt_succ_of_lt hlt)]
  exact Heap.get?_push_of_some _ e2
end
section
variable {X : Cx}
def rSortedTu (K : PySem.W.Frag) : List V → Hp → VK → Prop := fun vs H Q => ∃ (a : Addr) (ns : List Int), vs = [V.ref a] ∧ SqT K H a (ns.map V.int) ∧
  ∀ (ms : List Int) (p : Addr), ms.Perm ns → ms.Pairwise (· ≤ ·) → H p = none → Q (.ref p) (upd H p (.lst (ms.map V.int)))
theorem cr_sortedTu : CallR X (.builtin "sorted") (rSortedTu X.K) := by
  intro pins s σ H vs us Q I r h
  obtain ⟨a, ns, rfl, hs, q⟩ := h
  obtain ⟨its, rv, ht, hz⟩ := I.tuple hs
  rw [Vals.ref1 r]
  refine sorted_tup (ns := ns) ht (by simpa using rv.ints) (by rw [List.size_toArray, ← rv.length]; exact hz) fun h1 h' p out c ms k1 k hp hg hi pm so => ?_
  have hlen : (ms.map V.int).length ≤ sizeLine := by
    rw [List.length_map, pm.length_eq]
    rw [List.length_map] at hz
    exact hz
  have I1 : Inv X pins σ H { s with heap := h1 } := I.kept (t' := s.toks) k1
  exact ⟨.ref p, upd H p (.lst (ms.map V.int)), I1.laid (t' := s.toks) k hp ⟨hlen, out, c, vals_of_ints hi, hg⟩, rfl, q ms p pm so (I1.hok.fresh hp)⟩
theorem cro_sortedT {ns : List Int} : CRO X (.builtin "sorted") [.tuple (ns.map .int)] ((sortI ns).map .int) := ⟨_, cr_sortedTu, fun F H vs Q fh h q => by
  obtain ⟨v, rfl, h1⟩ := rps1 h
  cases h1 with
  | tup s r =>
    have e := Rps.ints r
    subst e
    refine ⟨_, ns, rfl, sqT_mono fh s, fun ms p pm so hp => ?_⟩
    have e : ms = sortI ns := sorted_one (pm.trans (sortI_perm ns).symm) so (sortI_sorted ns)
    subst e
    exact q p _ F H (.refl fh) hp (Rps.of_ints _)⟩
end
end DL
set_option Elab.async false
set_option linter.all false
set_option maxRecDepth 100000
set_option maxHeartbeats 4000000
namespace DL
open PySem PySem.Spec PyProof.Rows L2
/-! what the built-in names hold -/
theorem b_len : bootBuiltins "len" = some (.builtin "len") := by decide +kernel
theorem b_sorted : bootBuiltins "sorted" = some (.builtin "sorted") := by decide +kernel
theorem b_all : bootBuiltins "all" = some (.builtin "all") := by decide +kernel
theorem b_any : bootBuiltins "any" = some (.builtin "any") := by decide +kernel
theorem b_min : bootBuiltins "min" = some (.builtin "min") := by decide +kernel
theorem b_max : bootBuiltins "max" = some (.builtin "max") := by decide +kernel
theorem b_sum : bootBuiltins "sum" = some (.builtin "sum") := by decide +kernel
theorem b_isinstance : bootBuiltins "isinstance" = some (.builtin "isinstance") := by decide +kernel
theorem b_abs : bootBuiltins "abs" = some (.builtin "abs") := by decide +kernel
theorem b_set : bootBuiltins "set" = some (.type "set") := by decide +kernel
theorem b_list : bootBuiltins "list" = some (.type "list") := by decide +kernel
theorem b_tuple : bootBuiltins "tuple" = some (.type "tuple") := by decide +kernel
theorem b_int : bootBuiltins "int" = some (.type "int") := by decide +kernel
theorem b_range : bootBuiltins "range" = some (.type "range") := by decide +kernel
theorem b_enumerate : bootBuiltins "enumerate" = some (.type "enumerate") := by decide +kernel
theorem b_zip : bootBuiltins "zip" = some (.type "zip") := by decide +kernel
theorem b_dict : bootBuiltins "dict" = some (.type "dict") := by decide +kernel
theorem b_str : bootBuiltins "str" = some (.type "str") := by decide +kernel
theorem b_bool : bootBuiltins "bool" = some (.type "bool") := by decide +kernel
theorem b_reversed : bootBuiltins "reversed" = some (.type "reversed") := by decide +kernel
section
variable {X : Cx} {scope : Scope} {tg elt iter : Expr} {ifs : List Expr} {vs ws : List Nat} {ρ : List Sl}
/-- a clause that changes nothing but its own names -/
theorem lc_pure {α : Type} {enc : α → D} {p : α → Bool} {f : α → D} {g : α → List Sl} (sub : ∀ i ∈ ws, i ∈ vs) : ∀ (as : List α),
    (∀ a ∈ as, ∀ s H C cl fp, XG (bX X scope s H C cl fp) tg ws (enc a) ρ (g a) ∧ XTs (bX X scope s H C cl fp) ifs (g a) (p a) (g a) ∧ (p a = true → XE (bX X scope s H C cl fp) elt (g a) (f a) (g a))) → (∀ a ∈ as, wipeS (g a) vs = ρ) →
    LC X scope tg ifs elt vs (as.map enc) ρ ((as.filter p).map f) ρ
  | [], _, _ => .nil
  | a :: as, h, hw => by
    have h1 := h a List.mem_cons_self
    have ih := lc_pure sub as (fun b hb => h b (List.mem_cons_of_mem _ hb)) fun b hb => hw b (List.mem_cons_of_mem _ hb)
    have e := hw a List.mem_cons_self
    cases hp : p a with
    | true =>
      rw [List.filter_cons_of_pos hp, List.map_cons, List.map_cons]
      refine .take (fun s H C cl fp => (h1 s H C cl fp).1) sub (fun s H C cl fp => ?_) (fun s H C cl fp => (h1 s H C cl fp).2.2 hp) ?_
      · have := (h1 s H C cl fp).2.1
        rw [hp] at this
        exact this
      · rw [e]; exact ih
    | false =>
      rw [List.filter_cons_of_neg (by rw [hp]; exact Bool.false_ne_true), List.map_cons]
      refine .skip (ρ2 := g a) (fun s H C cl fp => (h1 s H C cl fp).1) sub (fun s H C cl fp => ?_) ?_
      · have := (h1 s H C cl fp).2.1
        rw [hp] at this
        exact this
      · rw [e]; exact ih
/-- .. without tests -/
theorem lc_map {α : Type} {enc : α → D} {f : α → D} {g : α → List Sl} (sub : ∀ i ∈ ws, i ∈ vs) (as : List α)
    (h : ∀ a ∈ as, ∀ s H C cl fp, XG (bX X scope s H C cl fp) tg ws (enc a) ρ (g a) ∧ XE (bX X scope s H C cl fp) elt (g a) (f a) (g a)) (hw : ∀ a ∈ as, wipeS (g a) vs = ρ) :
    LC X scope tg [] elt vs (as.map enc) ρ (as.map f) ρ := by
  have := lc_pure (X := X) (scope := scope) (tg := tg) (elt := elt) (ifs := []) (p := fun _ => true) (f := f) sub as (fun a ha s H C cl fp => ⟨(h a ha s H C cl fp).1, xts_nil, fun _ => (h a ha s H C cl fp).2⟩) hw
  rw [List.filter_eq_self.mpr fun _ _ => rfl] at this
  exact this
/-- two clauses -/
theorem lc2_pure {α : Type} {enc : α → D} {t1 i1 : Expr} {fs1 : List Expr} {vs1 : List Nat} {g : α → List Sl} {its ys : α → List D} {ρ4 : α → List Sl} (sub : ∀ i ∈ ws, i ∈ vs) : ∀ (as : List α),
    (∀ a ∈ as, ∀ s H C cl fp, XG (bX X scope s H C cl fp) tg ws (enc a) ρ (g a) ∧ XI (bX X scope s H C cl fp) t1 i1 (g a) (its a) (g a)) → (∀ a ∈ as, LC X scope t1 fs1 elt vs1 (its a) (wipeS (g a) vs1) (ys a) (ρ4 a)) → (∀ a ∈ as, wipeS (ρ4 a) vs = ρ) →
    LC2 X scope tg [] t1 i1 fs1 elt vs vs1 (as.map enc) ρ (as.flatMap ys) ρ
  | [], _, _, _ => .nil
  | a :: as, h, hl, hw => by
    have h1 := h a List.mem_cons_self
    have ih := lc2_pure sub as (fun b hb => h b (List.mem_cons_of_mem _ hb)) (fun b hb => hl b (List.mem_cons_of_mem _ hb)) fun b hb => hw b (List.mem_cons_of_mem _ hb)
    have e := hw a List.mem_cons_self
    rw [List.flatMap_cons, List.map_cons]
    refine .take (fun s H C cl fp => (h1 s H C cl fp).1) sub (fun s H C cl fp => xts_nil) (fun s H C cl fp => (h1 s H C cl fp).2) (hl a List.mem_cons_self) ?_
    rw [e]
    exact ih
/-- a for whose turns carry a state -/
theorem lr_fold {α β : Type} {enc : α → D} {body : List Stmt} {sl : β → List Sl} {step : β → α → β} {P : β → Prop} : ∀ (as : List α) (b : β), P b → (∀ a ∈ as, ∀ b, P b → P (step b a) ∧ ∃ vs ρ1, XG X tg vs (enc a) (sl b) ρ1 ∧ XSs X body ρ1 (.nx (sl (step b a)))) →
    LR X tg body (as.map enc) (sl b) (.nx (sl (as.foldl step b)))
  | [], _, _, _ => .nil
  | a :: as, b, hb, h => by
    obtain ⟨h1, vs, ρ1, h2, h3⟩ := h a List.mem_cons_self b hb
    exact .next h2 h3 (lr_fold as _ h1 fun c hc => h c (List.mem_cons_of_mem _ hc))
end
section
variable {X : Cx} {a b c e : Expr} {ρ : List Sl} {x z : D} {pos : Pos} {rest : List Expr}
/-! nothing changed on the way -/
theorem xo_lcp {tg elt iter : Expr} {ifs : List Expr} {scope : Scope} {own : List (Str × Nat)} {xs ys : List D} (hc : X.calm = true) (hN : X.N.Nodup) (ok : BlkOk X.N X.env.scope scope own) (hi : XI X tg iter ρ xs ρ) (lc : LC X scope tg ifs elt (own.map (·.2)) xs (wipeS ρ (own.map (·.2))) ys (wipeS ρ (own.map (·.2)))) (hz : ys.length < 1000000) (hb : backS ρ (wipeS ρ (own.map (·.2))) (own.map (·.2)) = ρ := by rfl)
    (hs : ∀ x, foldedSetIterable iter X.env x = pure x := by intro _; rfl) : XO X (.ListComp elt [⟨tg, iter, ifs, 0⟩] scope pos) ρ ys ρ := by
  have h := xo_lc (pos := pos) hc hN hi ok lc hz hs
  rw [hb] at h
  exact h
theorem xo_lc2p {elt t0 i0 t1 i1 : Expr} {fs0 fs1 : List Expr} {scope : Scope} {own : List (Str × Nat)} {vs1 : List Nat} {xs ys : List D} (hc : X.calm = true) (hN : X.N.Nodup) (ok : BlkOk X.N X.env.scope scope own) (hv : ∀ i ∈ vs1, i ∈ own.map (·.2)) (hi : XI X t0 i0 ρ xs ρ)
    (lc : LC2 X scope t0 fs0 t1 i1 fs1 elt (own.map (·.2)) vs1 xs (wipeS ρ (own.map (·.2))) ys (wipeS ρ (own.map (·.2)))) (hz : ys.length < 1000000) (hb : backS ρ (wipeS ρ (own.map (·.2))) (own.map (·.2)) = ρ := by rfl) (hs : ∀ x, foldedSetIterable i0 X.env x = pure x := by intro _; rfl) (hs1 : ∀ env x, foldedSetIterable i1 env x = pure x := by intro _ _; rfl) :
    XO X (.ListComp elt [⟨t0, i0, fs0, 0⟩, ⟨t1, i1, fs1, 0⟩] scope pos) ρ ys ρ := by
  have h := xo_lc2 (pos := pos) hc hN hi ok hv lc hz hs hs1
  rw [hb] at h
  exact h
theorem xo_sortsc2p {elt t0 i0 t1 i1 : Expr} {fs0 fs1 : List Expr} {scope : Scope} {own : List (Str × Nat)} {vs1 : List Nat} {nm1 : Str} {xs : List D} {ys : List Int} {p1 pp : Pos} (hc : X.calm = true) (hN : X.N.Nodup) (ok : BlkOk X.N X.env.scope scope own) (hv : ∀ i ∈ vs1, i ∈ own.map (·.2)) (hi : XI X t0 i0 ρ xs ρ)
    (lc : LC2 X scope t0 fs0 t1 i1 fs1 elt (own.map (·.2)) vs1 xs (wipeS ρ (own.map (·.2))) (ys.map .int) (wipeS ρ (own.map (·.2)))) (hz : ys.length < 64) (hg : Gl X nm1) (hm : X.mg nm1 = none) (hvb : bootBuiltins nm1 = some (.builtin "sorted")) (hb : backS ρ (wipeS ρ (own.map (·.2))) (own.map (·.2)) = ρ := by rfl) (e1 : nm1 = "sorted" := by rfl)
    (hs : ∀ x, foldedSetIterable i0 X.env x = pure x := by intro _; rfl) (hs1 : ∀ env x, foldedSetIterable i1 env x = pure x := by intro _ _; rfl)
    (q3 : starEach [sc2 elt t0 i0 t1 i1 fs0 fs1 scope pp] X.env = (false, eval (sc2 elt t0 i0 t1 i1 fs0 fs1 scope pp) X.env) :: starEach [] X.env := by rfl) (q4 : ((backTo pos (starEach [] X.env)).any fun x => x.fst) = false := by rfl) :
    XO X (.Call (.Name nm1 p1) [sc2 elt t0 i0 t1 i1 fs0 fs1 scope pp] [] pos) ρ ((setI ys).map .int) ρ := by
  have h := xo_sortsc2 (pos := pos) (p1 := p1) hc hN hi ok hv lc hz hg hm hvb e1 hs hs1 q3 q4
  rw [hb] at h
  exact h

theorem xe_ifp {bb : Bool} (hc : XT X c ρ bb ρ) (h1 : bb = true → XE X a ρ z ρ) (h2 : bb = false → XE X b ρ z ρ) : XE X (.IfExp c a b pos) ρ z ρ := xe_if hc h1 h2
theorem xt_andp {b1 b2 : Bool} (h1 : XT X a ρ b1 ρ) (h2 : b1 = true → XT X b ρ b2 ρ) : XT X (.BoolOp .And [a, b] pos) ρ (b1 && b2) ρ := xt_and h1 h2 fun _ => rfl
theorem xt_orp {b1 b2 : Bool} (h1 : XT X a ρ b1 ρ) (h2 : b1 = false → XT X b ρ b2 ρ) : XT X (.BoolOp .Or [a, b] pos) ρ (b1 || b2) ρ := xt_or h1 h2 fun _ => rfl
theorem xe_andp {b1 b2 : Bool} (h1 : XE X a ρ (.bool b1) ρ) (h2 : b1 = true → XE X (.BoolOp .And (b :: rest) pos) ρ (.bool b2) ρ) : XE X (.BoolOp .And (a :: b :: rest) pos) ρ (.bool (b1 && b2)) ρ := by
  cases b1 with
  | true => exact xe_and h1 h2 (fun h => by cases h)
  | false => exact xe_and h1 (fun h => by cases h) fun _ => ⟨rfl, rfl⟩
theorem xe_orp {b1 b2 : Bool} (h1 : XE X a ρ (.bool b1) ρ) (h2 : b1 = false → XE X (.BoolOp .Or (b :: rest) pos) ρ (.bool b2) ρ) : XE X (.BoolOp .Or (a :: b :: rest) pos) ρ (.bool (b1 || b2)) ρ := by
  cases b1 with
  | false => exact xe_or h1 h2 (fun h => by cases h)
  | true => exact xe_or h1 (fun h => by cases h) fun _ => ⟨rfl, rfl⟩
end
end DL
set_option Elab.async false
set_option linter.all false
set_option maxRecDepth 100000
set_option maxHeartbeats 4000000
/-! enumerate(t) of a tuple; isinstance of data -/
namespace DL
open PySem PySem.Spec PyProof.Rows L2
abbrev tupIt (t : Addr) : Obj := { cls := .type "tuple_iterator", data := .fields #[.ref t, .int 0 0] }
abbrev enumOf (it : Addr) : Obj := { cls := .type "enumerate", data := .fields #[.none, .bool false, .ref it, rawInt 0, .none, .none] }
theorem meets_enumT (t : Addr) (items : Array Value) :
    Meets (Builtin.«enumerate.__new__» ⟨[.type "enumerate", .ref t], []⟩) (fun _ R s => s.heap.IsTuple t items ∧
      R (.ok (.ret (.ref (s.heap.push (tupIt t)).objs.size))) { s with heap := (s.heap.push (tupIt t)).push (enumOf s.heap.objs.size) }) :=
  .of_wp fun prog w A R s h => by
    obtain ⟨hp, g, d, tk, os⟩ := s
    obtain ⟨ht, h⟩ := h
    have a0 := sub_enumerate
    have q1 : ∀ {A' : Around} {E : Value → Shared → Prop} {Q : Value → Shared → Prop}, Q (.ref hp.objs.size) ⟨hp.push (tupIt t), g, d, tk, os⟩ → wpAny (model prog w) A' (pyIter (.ref t)) Q E ⟨hp, g, d, tk, os⟩ :=
      fun q => wpAny_pyIter_tuple (s := ⟨hp, g, d, tk, os⟩) ht q
    wp_walk using q1
    refine wpAny_stack_any fun st => wpAny_pure ?_
    split
    · rename_i c _ _ _ _ _
      cases (c == Value.type "enumerate") <;> (wp_walk using q1; exact ⟨_, rfl, h⟩)
    · wp_walk using q1
      exact ⟨_, rfl, h⟩
theorem enum_tup {P : Program} {w : World} {A : Around} {E : Value → Shared → Prop} {s : Shared} {t : Addr} {items : Array Value} {Q : Value → Shared → Prop} (ht : s.heap.IsTuple t items)
    (h : ∀ h', IsEnum h' (s.heap.objs.size + 1) s.heap.objs.size 0 .none → h'.IsTupleIter s.heap.objs.size t 0 → (∀ b o, s.heap.get? b = some o → h'.get? b = some o) → Q (.ref (s.heap.objs.size + 1)) { s with heap := h' }) :
    wpAny (model P w) A (call (.type "enumerate") [.ref t]) Q E s := by
  refine callType_new F.called_enumerate (by decide) (F.typeCall_enumerate_1 _) (F.newCall_enumerate_1 _) (fun obj => F.args_object_init_2 obj _) F.entry_enumerate_new (meets_enumT t items) ⟨ht, ?_⟩
  have z : (s.heap.push (tupIt t)).objs.size = s.heap.objs.size + 1 := Heap.size_push ..
  show _ ∧ _
  rw [z]
  have he : IsEnum ((s.heap.push (tupIt t)).push (enumOf s.heap.objs.size)) (s.heap.objs.size + 1) s.heap.objs.size 0 .none := by
    have q := Heap.get?_push_size (s.heap.push (tupIt t)) (o := enumOf s.heap.objs.size) rfl
    rw [z] at q
    exact q
  exact ⟨⟨_, he, rfl⟩, h _ he ⟨_, Heap.get?_push_of_some _ (Heap.get?_push_size _ rfl), rfl, rfl⟩ fun b o x => Heap.get?_push_of_some _ (Heap.get?_push_of_some _ x)⟩
/-- the tuple at a with numbers: new pairs -/
def IteT (K : PySem.W.Frag) (a : Addr) : It :=
  ⟨fun i H => ∃ (xs : List V) (x : V), SqT K H a xs ∧ xs[i]? = some x, fun i H v H' => ∃ T x, v = .ref T ∧ H T = none ∧ H' = upd H T (.tup [.int (i : Nat), x]) ∧ ∀ xs, SqT K H a xs → xs[i]? = some x, fun i H => ∃ xs : List V, SqT K H a xs ∧ xs.length = i⟩
theorem turn_enumT {P : Program} {w : World} {K : PySem.W.Frag} {elts : List Expr} {kk : Nat} {tpos : Pos} (a e it : Addr) :
    Turn P w K (.Tuple elts kk tpos) (IteT K a) [e, it] e (fun i h => (∃ old, IsEnum h e it ((i : Nat) : Int) old) ∧ h.IsTupleIter it a i ∧ e ≠ it) where
  mem := List.mem_cons_self
  obj := fun i h st b hb => by
    obtain ⟨⟨old, he⟩, ⟨o, ho, hc, hd⟩, _⟩ := st
    rcases List.mem_cons.mp hb with z | z
    · rw [z]; exact ⟨_, he, fun v q => by cases q⟩
    · rw [List.mem_singleton.mp z]; exact ⟨o, ho, fun v q => by rw [hd] at q; cases q⟩
  keep := fun i h h' st k => let ⟨⟨old, he⟩, hi, hne⟩ := st; ⟨⟨old, k e List.mem_cons_self _ he⟩, hi.at fun o q => k it (List.mem_cons_of_mem _ List.mem_cons_self) o q, hne⟩
  item := by
    intro X hP hw hK hc i pins s σ H E I hf st hg
    subst hP hw hK
    obtain ⟨⟨old, he⟩, hit, hne⟩ := st
    obtain ⟨xs, x, hq, hx⟩ := hg
    obtain ⟨its, rv, p, hz⟩ := I.tuple hq
    obtain ⟨u, hu, ru⟩ := rv.get hx
    have lt_e : e < s.heap.objs.size := Heap.lt_size he
    have lt_it : it < s.heap.objs.size := by obtain ⟨_, q, _⟩ := id hit; exact Heap.lt_size q
    have nf : ∀ b ∈ [e, it], ∀ o, H b = some o → False := fun b hb o q => by rw [(hf b hb).1] at q; cases q
    have apart : ∀ b ∈ [e, it], b ≠ a := fun b hb z => by
      subst z
      have tup : ∃ o, s.heap.get? b = some o ∧ o.cls = .type "tuple" := by
        obtain ⟨o, ho, hc, _⟩ := p
        exact ⟨o, ho, hc⟩
      obtain ⟨o, ho, hc⟩ := tup
      rcases List.mem_cons.mp hb with z | z
      · subst z
        have he' : s.heap.get? b = some _ := he
        rw [he'] at ho
        rw [← Option.some.inj ho] at hc
        exact absurd hc (by simp)
      · obtain ⟨o', ho', hc', _⟩ := hit
        rw [List.mem_singleton.mp z] at ho
        rw [ho'] at ho
        rw [← Option.some.inj ho, hc'] at hc
        exact absurd hc (by simp)
    have hlt : i < its.toArray.size := by
      rw [List.size_toArray]
      exact (List.getElem?_eq_some_iff.mp hu).1
    have W := GoesN.enumFrom (prog := X.prog) (w := X.w) (A := X.A) (elts := elts) (x1 := kk) (pos := tpos) 0 (Draws.tuple (prog := X.prog) (w := X.w) (A := X.A.in1) (I.ok.hd hc) it a (Ne.symm (apart it (by simp))) its.toArray) e hne (by simp only [List.mem_cons, List.not_mem_nil, or_false, not_or]; exact ⟨hne, apart e (by simp)⟩) (by simp)
    refine W.goes i s _ E hlt ⟨⟨old, by rw [Int.zero_add]; exact he⟩, hit, p⟩ fun v h' tk hY st' hk htk => ?_
    obtain ⟨T, t, y, rfl, hT, hy, hTup⟩ := hY
    have ey : y = u := by
      have q : its.toArray[i]? = some y := hy
      rw [List.getElem?_toArray, hu] at q
      exact (Option.some.inj q).symm
    subst ey
    have new : ObjOk X.prog X.w (upd H T (.tup [.int (i : Nat), x])) h' T (.tup [.int (i : Nat), x]) :=
      ⟨by show 2 ≤ sizeLine; decide, [.int (0 + (i : Nat)) t, y], .cons ⟨t, by rw [Int.zero_add]⟩ (.cons ru .nil), hTup⟩
    have I1 : Inv X pins σ (upd H T (.tup [.int (i : Nat), x])) { s with heap := h', toks := tk } := I.turnedNew (ch := [e, it]) hk hf hT new
    obtain ⟨⟨old', he'⟩, hit', _⟩ := st'
    refine ⟨.ref T, _, I1, rfl, ⟨T, x, rfl, I.hok.fresh hT, rfl, fun ys hys => by rw [I.tuple_inj hys hq]; exact hx⟩, ⟨⟨old', ?_⟩, hit', hne⟩, fun b hb => ?_⟩
    · rw [Int.zero_add] at he'
      exact he'
    · have hb' : b < s.heap.objs.size := by
        rcases List.mem_cons.mp hb with z | z
        · rw [z]; exact lt_e
        · rw [List.mem_singleton.mp z]; exact lt_it
      rw [upd_ne (Nat.ne_of_lt (Nat.lt_of_lt_of_le hb' hT))]
      exact (hf b hb).1
  done := by
    intro X hP hw hK hc i pins s σ H E I hf st hg
    subst hP hw hK
    obtain ⟨⟨old, he⟩, hit, hne⟩ := st
    obtain ⟨xs, hq, hx⟩ := hg
    obtain ⟨its, rv, p, hz⟩ := I.tuple hq
    have hn : its.toArray.size = i := by rw [List.size_toArray, ← rv.length, hx]
    obtain ⟨f0, f1, f2, f3, f4, f5⟩ := hf it (by simp)
    have nit : a ≠ it := fun z => by
      obtain ⟨o, ho, hc, _⟩ := p
      obtain ⟨o', ho', hc', _⟩ := hit
      rw [z, ho'] at ho
      rw [← Option.some.inj ho, hc'] at hc
      exact absurd hc (by simp)
    exact wpAny_pyNext_enum_endD (Draws.tuple (prog := X.prog) (w := X.w) (A := X.A.in1) (I.ok.hd hc) it a nit its.toArray) he ⟨by rw [hn]; exact hit, p⟩ fun h' eb => ⟨rfl, I.turned (t' := s.toks) (fun b o hb q => eb b o hb q) f0 f1 f3 f4 f5⟩
  self := fun A i s Q E st h => let ⟨⟨_, he⟩, _⟩ := st; wpAny_pyIter_enum he h
def iEnumT (K : PySem.W.Frag) (ta : TA) : TI := fun σ H R => ta σ H fun vs H1 => ∃ a xs, vs = [.ref a] ∧ SqT K H1 a xs ∧ R (IteT K a) H1
theorem pi_enumT {X : Cx} {e : Expr} {ta : TA} {p pos tpos : Pos} {elts : List Expr} {kk : Nat} (hg : Gl X "enumerate") (hm : X.mg "enumerate" = none) (ha : PA X [e] ta) (hs : starEach [e] X.env = [(false, eval e X.env)] := by rfl) :
    PI X (.Tuple elts kk tpos) (.Call (.Name "enumerate" p) [e] [] pos) (iEnumT X.K ta) := by
  refine ⟨fun pins s σ H R I h => ?_⟩
  refine Call_ (ld_blt I hg hm boot_enumerate (PyProof.Rows.callWith_type1 (thn (ha.run pos pins s σ H _ I h) fun us s1 ⟨vs, H1, I1, r1, q1⟩ => ?_) hs rfl))
  obtain ⟨a, xs, rfl, hq, q⟩ := q1
  rw [Vals.ref1 r1]
  obtain ⟨its, rv, p', hz⟩ := I1.tuple hq
  refine enum_tup (show s1.heap.IsTuple a its.toArray from p') fun h' he hit hk => wpAny_pyIter_enum he ?_
  refine ⟨s1.heap.objs.size + 1, [s1.heap.objs.size + 1, s1.heap.objs.size], _, _, H1, rfl, I1.kept (t' := s1.toks) hk, turn_enumT a (s1.heap.objs.size + 1) s1.heap.objs.size, ⟨⟨.none, he⟩, hit, Nat.succ_ne_self _⟩, fun b hb => ?_, q⟩
  have le : s1.heap.objs.size ≤ b := by
    rcases List.mem_cons.mp hb with z | z
    · rw [z]; exact Nat.le_add_right _ _
    · rw [List.mem_singleton.mp z]; exact Nat.le_refl _
  exact I1.fpOk le (I1.hok.fresh le)
/-- the numbered items -/
def enumD (xs : List D) : List D := xs.mapIdx fun i x => .tuple [.int (i : Nat), x]
theorem enumD_at {xs : List D} {i : Nat} {d : D} (h : (enumD xs)[i]? = some d) : ∃ x, xs[i]? = some x ∧ d = .tuple [.int (i : Nat), x] := by
  unfold enumD at h
  rw [List.getElem?_mapIdx, Option.map_eq_some_iff] at h
  obtain ⟨x, h1, h2⟩ := h
  exact ⟨x, h1, h2.symm⟩
theorem enumD_len (xs : List D) : (enumD xs).length = xs.length := List.length_mapIdx
section
variable {X : Cx} {e : Expr} {ρ ρ1 : List Sl} {pos : Pos} {ds : List D} {x : D}
theorem new_pair {K : PySem.W.Frag} {F H : Hp} {T : Addr} {x : V} {i : Int} {d : D} (fh : Same F H) (hT : H T = none) (r : Rp K F x d) : ∃ F2, Gr F H F2 (upd H T (.tup [.int i, x])) ∧ Rp K F2 (.ref T) (.tuple [.int i, d]) := by
  have gr : Gr F H (upd F T (.tup [.int i, x])) (upd H T (.tup [.int i, x])) := .laid fh hT
  exact ⟨_, gr, .tup upd_same (.cons (.int i) (.cons (rp_mono gr.f _ _ r) .nil))⟩
theorem xi_enumT {p tpos : Pos} {elts : List Expr} {kk : Nat} (hg : Gl X "enumerate") (hm : X.mg "enumerate" = none) (h : XE X e ρ (.tuple ds) ρ1) (hs : starEach [e] X.env = [(false, eval e X.env)] := by rfl) (hst : starEach [e] X.env = (false, eval e X.env) :: starEach [] X.env := by rfl) :
    XI X (.Tuple elts kk tpos) (.Call (.Name "enumerate" p) [e] [] pos) ρ (enumD ds) ρ1 :=
  .of (pi_enumT hg hm (pa_cons (pcE e) pa_nil hst) hs) fun F0 G F H σ k R q => h F0 G F H σ k _ fun v F1 H1 k1 f1 d1 => by
    cases d1 with
    | @tup a vs _ s r =>
      refine ⟨a, vs, rfl, sqT_mono k1.fh s, q _ F1 H1 k1 f1 ⟨fun i H2 f2 hi => ?_, fun H2 f2 => ⟨vs, sqT_mono f2 s, by rw [Rps.length r, enumD_len]⟩, fun i H2 x H3 F2 f2 f3 hy d hd => ?_⟩⟩
      · rw [enumD_len] at hi
        obtain ⟨y, hy⟩ := atN (xs := vs) (i := i) (by rw [Rps.length r]; exact hi)
        exact ⟨vs, y, sqT_mono f2 s, hy⟩
      · obtain ⟨T, y, rfl, hT, rfl, hy⟩ := hy
        obtain ⟨z, e1, rfl⟩ := enumD_at hd
        obtain ⟨w, e2, e3⟩ := Rps.get r e1
        have := hy vs (sqT_mono (f2.trans f3) s)
        rw [e2] at this
        cases this
        exact new_pair f3 hT (rp_mono f2 _ _ e3)
theorem xi_enumL {p tpos : Pos} {elts : List Expr} {kk : Nat} (hg : Gl X "enumerate") (hm : X.mg "enumerate" = none) (h : XE X e ρ (.list ds) ρ1) (hs : starEach [e] X.env = [(false, eval e X.env)] := by rfl) (hst : starEach [e] X.env = (false, eval e X.env) :: starEach [] X.env := by rfl) :
    XI X (.Tuple elts kk tpos) (.Call (.Name "enumerate" p) [e] [] pos) ρ (enumD ds) ρ1 :=
  .of (pi_enum hg hm (pa_cons (pcE e) pa_nil hst) hs) fun F0 G F H σ k R q => h F0 G F H σ k _ fun v F1 H1 k1 f1 d1 => by
    cases d1 with
    | @lst a vs _ s r =>
      refine ⟨a, vs, rfl, .of (k1.fh _ _ s), q _ F1 H1 k1 f1 ⟨fun i H2 f2 hi => ?_, fun H2 f2 => ⟨vs, .of (f2 _ _ s), by rw [Rps.length r, enumD_len]; exact Nat.le_refl _⟩, fun i H2 x H3 F2 f2 f3 hy d hd => ?_⟩⟩
      · rw [enumD_len] at hi
        obtain ⟨y, hy⟩ := atN (xs := vs) (i := i) (by rw [Rps.length r]; exact hi)
        exact ⟨vs, y, .of (f2 _ _ s), hy⟩
      · obtain ⟨T, y, rfl, hT, rfl, hy⟩ := hy
        obtain ⟨z, e1, rfl⟩ := enumD_at hd
        obtain ⟨w, e2, e3⟩ := Rps.get r e1
        have := hy vs (.of (f3 _ _ (f2 _ _ s)))
        rw [e2] at this
        cases this
        exact new_pair f3 hT (rp_mono f2 _ _ e3)
/-! ### isinstance -/
/-- the class of data -/
def tyD : D → String
  | .none => "NoneType"
  | .bool _ => "bool"
  | .int _ => "int"
  | .str _ => "str"
  | .list _ => "list"
  | .tuple _ => "tuple"
  | .dict _ => "list"
/-- a dict as data -/
def dctB : D → Bool
  | .dict ((.bool _, _) :: _) => true
  | _ => false
theorem ty_rp {K : PySem.W.Frag} {F H : Hp} (fh : Same F H) {v : V} (h : Rp K F v x) (hx : dctB x = false := by rfl) : TyX K H v (.type (tyD x)) := by
  cases h with
  | non => exact .base .non
  | bl b => exact .base (.bl b)
  | int i => exact .base (.int i)
  | str s => exact .base (.str s)
  | lst s r => exact .base (.lst (fh _ _ s))
  | dct s _ _ => cases hx
  | tup s r => exact .base (.tup (fh _ _ s))
  | scr s r =>
    rcases sqL_mono fh s with (s | ⟨o, s⟩) | ⟨o, its, n, s, c, _⟩
    · exact .base (.lst s)
    · exact .base (.frz s)
    · exact .kList s c
theorem xe_isi {nm nm2 : Str} {T : String} {bb : Bool} {p p2 : Pos} (h : XE X e ρ x ρ1) (hk : kitB (tyD x) T = some bb) (hg : Gl X nm) (hm : X.mg nm = none) (hv : bootBuiltins nm = some (.builtin "isinstance")) (hg2 : Gl X nm2) (hm2 : X.mg nm2 = none) (hv2 : bootBuiltins nm2 = some (.type T)) (hn : nm ≠ "__name__" := by decide) (hdb : (nm == ("__debug__" : Str)) = false := by decide) (hn2 : nm2 ≠ "__name__" := by decide) (hdb2 : (nm2 == ("__debug__" : Str)) = false := by decide)
    (q1 : starEach [e, .Name nm2 p2] X.env = (false, eval e X.env) :: starEach [.Name nm2 p2] X.env := by rfl) (q2 : starEach [.Name nm2 p2] X.env = (false, eval (.Name nm2 p2) X.env) :: starEach [] X.env := by rfl) (q3 : ((backTo pos (starEach [.Name nm2 p2] X.env)).any fun x => x.fst) = false := by rfl) (hx : dctB x = false := by rfl) :
    XE X (.Call (.Name nm p) [e, .Name nm2 p2] [] pos) ρ (.bool bb) ρ1 :=
  .of (pe_callB call_isi hg hm hv (pa_cons (pcE e) (pa_cons (pe_bltn (v := .ty T) hg2 hm2 hv2 rfl hn2 hdb2) pa_nil q2) q1) hn hdb q1 q3) fun F0 G F H σ k Q q => h F0 G F H σ k _ fun v F1 H1 k1 f1 d1 =>
    ⟨v, .ty T, _, _, bb, rfl, .ty T, ty_rp k1.fh d1 hx, kit_ty hk, q _ F1 H1 k1 f1 (.bl _)⟩
/-- a < b < c as a test -/
theorem xt_chain {a b c : Expr} {ρ2 : List Sl} {y z : D} {op op' : CmpOp} {k1 k2 : Bool} (h : BR X (compareOp op) x y (.bool k1)) (h' : BR X (compareOp op') y z (.bool k2)) (ha : XE X a ρ x ρ1) (hb : XE X b ρ1 y ρ2) (hc : XE X c ρ2 z ρ2) (hm2 : lastMarks [op, op'] [b, c] = false := by with_unfolding_all rfl) :
    XT X (.Compare a [op, op'] [b, c] pos) ρ (k1 && k2) ρ2 := by
  obtain ⟨r, o, g⟩ := h
  obtain ⟨r', o', g'⟩ := h'
  exact .of (pt_chain o o' (pcE a) (pcE b) (pcE c) hm2) fun F0 G F H σ k Q q => ha F0 G F H σ k _ fun v F1 H1 kk1 f1 d1 => hb F0 G F1 H1 σ kk1 _ fun w F2 H2 kk2 f2 d2 =>
    g F2 H2 v w _ kk2.fh (rp_mono f2 _ _ d1) d2 fun u F3 H3 gr d3 => by
      cases d3
      refine ⟨k1, rfl, ?_⟩
      cases k1 with
      | true =>
        rw [if_pos rfl]
        refine hc F0 G F3 H3 σ (kk2.gr gr) _ fun u F4 H4 kk4 f4 d4 => ?_
        exact g' F4 H4 w u _ kk4.fh (rp_mono (gr.f.trans f4) _ _ d2) d4 fun u F5 H5 gr5 d5 => by
          cases d5
          exact ⟨_, rfl, q F5 H5 (kk4.gr gr5) ((((f1.trans f2).trans gr.f).trans f4).trans gr5.f)⟩
      | false =>
        rw [if_neg Bool.false_ne_true]
        exact ⟨_, rfl, q F3 H3 (kk2.gr gr) ((f1.trans f2).trans gr.f)⟩
/-! ### set(t) of a tuple of ints -/
def rSetT (w : World) (K : PySem.W.Frag) : List V → Hp → VK → Prop := fun xs H Q => ∃ (l : Addr) (ns : List Int), xs = [V.ref l] ∧ SqT K H l (ns.map V.int) ∧ ns.length < 64 ∧ ∀ a c, H a = none → c ≤ ns.length → Q (.ref a) (upd H a (SetO w a (fun j => decide (j ∈ ns)) c))
theorem cr_setT (hc : X.calm = true) : CallR X (.type "set") (rSetT X.w X.K) := by
  intro pins s σ H xs us Q I r h
  obtain ⟨l, ns, rfl, hl, hn, q⟩ := h
  rw [Vals.ref1 r]
  obtain ⟨its, rv, pl, hz⟩ := I.tuple hl
  refine call_set_tupI ns (I.ok.hd hc) (show s.heap.IsTuple l its.toArray from pl) (by simpa using Vals.ints rv) (by unfold scanBound; omega) fun h' tk c R hc' k => ?_
  exact ⟨.ref s.heap.objs.size, upd H s.heap.objs.size (SetO X.w s.heap.objs.size _ c), I.laid (t' := tk) k (Nat.le_refl _) (setO_new R), rfl, q _ c (I.hok.fresh (Nat.le_refl _)) hc'⟩
/-- sorted(set(t)), t a tuple of ints -/
theorem xo_sortsetT {p1 p2 pp : Pos} {nm1 nm2 : Str} {ns : List Int} (hc : X.calm = true) (h : XE X e ρ (.tuple (ns.map .int)) ρ1) (hn : ns.length < 64) (hg : Gl X nm1) (hm : X.mg nm1 = none) (hv : bootBuiltins nm1 = some (.builtin "sorted")) (hg2 : Gl X nm2) (hm2 : X.mg nm2 = none) (hv2 : bootBuiltins nm2 = some (.type "set")) (e1 : nm1 = "sorted" := by rfl) (e2 : nm2 = "set" := by rfl)
    (q1 : starEach [e] X.env = (false, eval e X.env) :: starEach [] X.env := by rfl) (q2 : ((backTo pp (starEach [] X.env)).any fun x => x.fst) = false := by rfl) (q3 : starEach [.Call (.Name nm2 p2) [e] [] pp] X.env = (false, eval (.Call (.Name nm2 p2) [e] [] pp) X.env) :: starEach [] X.env := by rfl) (q4 : ((backTo pos (starEach [] X.env)).any fun x => x.fst) = false := by rfl) :
    XO X (.Call (.Name nm1 p1) [.Call (.Name nm2 p2) [e] [] pp] [] pos) ρ ((setI ns).map .int) ρ1 := by
  subst e1 e2
  refine .of (pe_callB (cr_sortedSet hc) hg hm hv (pa_cons (pe_callTy (cr_setT hc) hg2 hm2 hv2 (pa_cons (pcE e) pa_nil q1) (by decide) (by decide) q1 q2) pa_nil q3) (by decide) (by decide) q3 q4) fun F0 G F H σ k Q q => ?_
  refine h F0 G F H σ k _ fun v F1 H1 k1 f1 d1 => ?_
  cases d1 with
  | @tup l vs _ s r =>
    have ev := Rps.ints r
    subst ev
    refine ⟨l, ns, rfl, sqT_mono k1.fh s, hn, fun a c ha hcn => ?_⟩
    refine sorted_end (ns := ns) upd_same (by omega) (fun k => by simp) fun p hp => ?_
    exact q p _ F1 _ (k1.loose ha) f1 hp (Rps.of_ints _)
/-! ### lists of ints, equal or not -/
theorem shaped_ints (ns : List Int) : SeqAt.shaped (.list (ns.map .int)) = true := by
  have h1 : ∀ ns : List Int, PyData.canLayAll0 (ns.map .int) = true := by
    intro ns
    induction ns with
    | nil => simp [PyData.canLayAll0]
    | cons a l ih => simp [PyData.canLayAll0, PyData.canLay0, ih]
  unfold SeqAt.shaped
  rw [Bool.and_eq_true, decide_eq_true_iff]
  refine ⟨by simp only [PyData.canLay0]; exact h1 ns, ?_⟩
  have h2 : ∀ ns : List Int, PyData.depthAll (ns.map .int) ≤ 1 := by
    intro ns
    induction ns with
    | nil => simp [PyData.depthAll]
    | cons a l ih => simp only [List.map_cons, PyData.depthAll, PyData.depth]; omega
  have := h2 ns
  rw [PyData.depth]
  show _ ≤ 64
  omega
theorem eqv_ints : ∀ ns ms : List Int, PyData.eqv (.list (ns.map .int)) (.list (ms.map .int)) = decide (ns = ms)
  | [], [] => by simp [PyData.eqv, PyData.eqvAll]
  | [], _ :: _ => by simp [PyData.eqv, PyData.eqvAll]
  | _ :: _, [] => by simp [PyData.eqv, PyData.eqvAll]
  | a :: l, b :: m => by
    have ih := eqv_ints l m
    simp only [PyData.eqv, List.map_cons, PyData.eqvAll] at ih ⊢
    rw [ih]
    simp only [List.cons.injEq]
    by_cases h : a = b <;> by_cases h' : l = m <;> simp [h, h']
theorem br_eqL (hu : X.A.units + 64 < cLine) {ns ms : List Int} : BR X (compareOp .Eq) (.list (ns.map .int)) (.list (ms.map .int)) (.bool (decide (ns = ms))) := by
  have := br_eqD (X := X) hu (shaped_ints ns) (shaped_ints ms)
  rw [eqv_ints] at this
  exact this
theorem br_neL (hu : X.A.units + 64 < cLine) {ns ms : List Int} : BR X (compareOp .NotEq) (.list (ns.map .int)) (.list (ms.map .int)) (.bool (!decide (ns = ms))) := by
  have := br_neD (X := X) hu (shaped_ints ns) (shaped_ints ms)
  rw [eqv_ints] at this
  exact this
end
end DL
set_option Elab.async false
set_option linter.all false
set_option maxRecDepth 100000
set_option maxHeartbeats 2000000
/-! dicts of one's own, keys numbers (or texts) -/
namespace DL
open PySem PySem.Spec PyProof.Rows L2
/-- the dict as data: put, look up -/
def putD {κ : Type} [DecidableEq κ] (kvs : List (κ × D)) (k : κ) (v : D) : List (κ × D) :=
  if (kvs.any fun kv => decide (kv.1 = k)) = true then kvs.map (fun kv => if kv.1 = k then (kv.1, v) else kv) else kvs ++ [(k, v)]
def getD {κ : Type} [DecidableEq κ] (kvs : List (κ × D)) (k : κ) : Option D := (kvs.find? fun kv => decide (kv.1 = k)).map (·.2)
def kD : Key → D
  | .inl i => .int i
  | .inr x => .str x
section
variable {K : PySem.W.Frag} {F H : Hp}
theorem rp_kD : ∀ (k : Key), Rp K F (kV k) (kD k)
  | .inl i => .int i
  | .inr x => .str x
theorem kV_of_rp {k : Key} {v : V} (h : Rp K F v (kD k)) : v = kV k := by
  cases k with
  | inl i => cases h; rfl
  | inr x => cases h; rfl
theorem kvs_len {κ : Type} {vvs : List (κ × V)} {kvs : List (κ × D)} (h : vvs.map (·.1) = kvs.map (·.1)) : vvs.length = kvs.length := by
  have := congrArg List.length h
  simpa using this
theorem put_at {κ : Type} [DecidableEq κ] {v : V} {d : D} (r : Rp K F v d) (k : κ) {vvs : List (κ × V)} {kvs : List (κ × D)} (h1 : vvs.map (·.1) = kvs.map (·.1)) (h2 : Rps K F (vvs.map (·.2)) (kvs.map (·.2))) :
    (putK vvs k v).map (·.1) = (putD kvs k d).map (·.1) ∧ Rps K F ((putK vvs k v).map (·.2)) ((putD kvs k d).map (·.2)) := by
  have any : ∀ (vvs : List (κ × V)) (kvs : List (κ × D)), vvs.map (·.1) = kvs.map (·.1) → (vvs.any fun kv => decide (kv.1 = k)) = kvs.any fun kv => decide (kv.1 = k) := by
    intro vvs
    induction vvs with
    | nil =>
      intro kvs h
      cases kvs with
      | nil => rfl
      | cons b l => cases h
    | cons a l ih =>
      intro kvs h
      cases kvs with
      | nil => cases h
      | cons b m =>
        simp only [List.map_cons, List.cons.injEq] at h
        rw [List.any_cons, List.any_cons, h.1, ih m h.2]
  have mp : ∀ (vvs : List (κ × V)) (kvs : List (κ × D)), vvs.map (·.1) = kvs.map (·.1) → Rps K F (vvs.map (·.2)) (kvs.map (·.2)) →
      (vvs.map fun kv => if kv.1 = k then (kv.1, v) else kv).map (·.1) = (kvs.map fun kv => if kv.1 = k then (kv.1, d) else kv).map (·.1) ∧ Rps K F ((vvs.map fun kv => if kv.1 = k then (kv.1, v) else kv).map (·.2)) ((kvs.map fun kv => if kv.1 = k then (kv.1, d) else kv).map (·.2)) := by
    intro vvs
    induction vvs with
    | nil =>
      intro kvs h _
      cases kvs with
      | nil => exact ⟨rfl, .nil⟩
      | cons b l => cases h
    | cons a l ih =>
      intro kvs h r2
      cases kvs with
      | nil => cases h
      | cons b m =>
        simp only [List.map_cons, List.cons.injEq] at h
        cases r2 with
        | cons q1 q2 =>
          obtain ⟨i1, i2⟩ := ih m h.2 q2
          simp only [List.map_cons]
          rw [h.1]
          by_cases hk : b.1 = k
          · rw [if_pos hk, if_pos hk]
            exact ⟨by rw [i1], .cons r i2⟩
          · rw [if_neg hk, if_neg hk]
            exact ⟨by rw [i1, h.1], .cons q1 i2⟩
  unfold putK putD
  rw [any vvs kvs h1]
  split
  · exact mp vvs kvs h1 h2
  · refine ⟨by simp only [List.map_append, List.map_cons, List.map_nil, h1], ?_⟩
    rw [List.map_append, List.map_append]
    exact h2.append (.cons r .nil)
theorem get_at {κ : Type} [DecidableEq κ] (k : κ) : ∀ {vvs : List (κ × V)} {kvs : List (κ × D)}, vvs.map (·.1) = kvs.map (·.1) → Rps K F (vvs.map (·.2)) (kvs.map (·.2)) →
    (getD kvs k = none → valV vvs k = none) ∧ (∀ d, getD kvs k = some d → ∃ v, valV vvs k = some v ∧ Rp K F v d) := by
  intro vvs
  induction vvs with
  | nil =>
    intro kvs h _
    cases kvs with
    | nil => exact ⟨fun _ => rfl, fun d e => by cases e⟩
    | cons b l => cases h
  | cons a l ih =>
    intro kvs h r2
    cases kvs with
    | nil => cases h
    | cons b m =>
      simp only [List.map_cons, List.cons.injEq] at h
      cases r2 with
      | cons q1 q2 =>
        obtain ⟨i1, i2⟩ := ih h.2 q2
        unfold getD valV
        rw [List.find?_cons, List.find?_cons, h.1]
        by_cases hk : b.1 = k
        · rw [decide_eq_true hk]
          exact ⟨fun z => (by cases z), fun d e => (by cases e; exact ⟨_, rfl, q1⟩)⟩
        · rw [decide_eq_false hk]
          exact ⟨i1, i2⟩
theorem listD_at : ∀ {vvs : List (Key × V)} {kvs : List (Key × D)}, vvs.map (·.1) = kvs.map (·.1) → Rps K F (vvs.map fun kv => kV kv.1) (kvs.map fun kv => kD kv.1)
  | [], [], _ => .nil
  | [], _ :: _, h => by cases h
  | _ :: _, [], h => by cases h
  | a :: l, b :: m, h => by
    simp only [List.map_cons, List.cons.injEq] at h ⊢
    rw [h.1]
    exact .cons (rp_kD _) (listD_at h.2)
end
section
variable {X : Cx} {a b c e : Expr} {ρ ρ1 ρ2 : List Sl} {d x y z : D} {pos : Pos}
/-- the expression gives a new object of one's own -/
def XW (X : Cx) (e : Expr) (ρ : List Sl) (w : Own) (ρ' : List Sl) : Prop := ∀ (F0 G F H : Hp) (σ : L2.St), Ok X.K F0 G F H σ ρ → ∀ Q : VK,
  (∀ p ho F' H', Ok X.K F0 G F' H' σ ρ' → Same F F' → H' p = some ho → F' p = none → G p = none → (∀ (i : Nat) (s : Sl) (ys : Own), ρ'[i]? = some s → s.has = some ys → σ[i]? ≠ some (some (V.ref p))) → w.At X.K F' ho → Q (.ref p) H') → cE X e σ H Q
theorem XO.xw {xs : List D} (h : XO X e ρ xs ρ1) : XW X e ρ (.l xs) ρ1 := fun F0 G F H σ k Q q => h F0 G F H σ k Q fun p vs F' H' k' f' hp fp gp ap r => q p _ F' H' k' f' hp fp gp ap ⟨vs, rfl, r⟩
theorem XW.of {w : Own} {te : TE} (h : PE X e te) (t : ∀ (F0 G F H : Hp) (σ : L2.St), Ok X.K F0 G F H σ ρ → ∀ Q : VK, (∀ p ho F1 H1, Ok X.K F0 G F1 H1 σ ρ1 → Same F F1 → H1 p = none → w.At X.K F1 ho → Q (.ref p) (upd H1 p ho)) → te σ H Q) : XW X e ρ w ρ1 :=
  fun F0 G F H σ k Q q pins s I => h.run pins s σ H Q I (t F0 G F H σ k Q fun p vs F1 H1 k1 f1 hp dv => by
    refine q p vs F1 _ (k1.loose hp) f1 upd_same ?_ ?_ (fun i s ys e1 e2 z => ?_) dv
    · cases e : F1 p with
      | none => rfl
      | some u => rw [k1.fh p u e] at hp; cases hp
    · cases e : G p with
      | none => rfl
      | some u => rw [k1.gh p u e] at hp; cases hp
    · obtain ⟨a, ws, q1, q2, _⟩ := k1.has i s ys e1 e2
      rw [q1] at z
      cases z
      rw [hp] at q2
      cases q2)
/-- {} -/
theorem xw_dict : XW X (.Dict [] [] pos) ρ (.k []) ρ := .of pe_dnewK fun F0 G F H σ k Q q p hp => q p _ F H k (Same.refl _) hp ⟨[], rfl, rfl, .nil⟩
/-- x = {} -/
theorem xs_setM (n : Nat) {nm : Str} {pos' : Pos} {kvs : List (Key × D)} (hN : X.N.Nodup) (h : XW X e ρ (.k kvs) ρ1) (hi : X.N[n]? = some nm := by rfl) (hx : Loc X.env.scope nm := by first | exact Or.inl rfl | exact Or.inr rfl) (hs : swapsWith e (some (.Name nm pos')) pos.line X.env = pure false := by rfl)
    (hf : X.fn nm = true ∨ X.env.scope.names.lookup nm = some .local := by first | exact .inl rfl | exact .inr rfl | assumption) : XS X (.Assign [.Name nm pos'] e pos) ρ (.nx (ρ1.set n (.m kvs))) :=
  .of (ps_set hN hi hx (pcE e) hs hf) fun F0 G F H σ k Dn q => h F0 G F H σ k _ fun p vs F1 H1 k1 f1 hp fp gp ap dv => q _ F1 H1 (k1.setW hp fp gp ap dv rfl fun _ _ z => by cases z) f1
/-- d[k] = e, d a dict of one's own -/
theorem xs_putK (n : Nat) {nm : Str} {kvs : List (Key × D)} {k0 : Key} {p1 p2 : Pos} (hu : X.A.units + 1 < cLine) (h : XE X e ρ x ρ1) (hb : XE X b ρ1 (kD k0) ρ2) (h0 : ∃ kvs0, ρ1[n]? = some (.m kvs0)) (hr : ρ2[n]? = some (.m kvs)) (hz : kvs.length ≤ 1000000)
    (hN : X.N[n]? = some nm := by rfl) (hv : Vis X.env.scope nm := by first | exact Or.inl rfl | exact Or.inr (Or.inl rfl) | exact Or.inr (Or.inr rfl))
    (hd : (nm == ("__debug__" : Str)) = false := by decide) (hcd : (nm == ("__classdict__" : Str)) = false := by decide)
    (hg : ∀ (ta tb : TE), PE X (.Name nm p1) ta → PE X b tb → PG X (.Subscript (.Name nm p1) b p2) (gSub ta tb rSetD) := by exact fun _ _ h1 h2 => pg_sub h1 h2 (set_dict (by assumption)))
    (hs : swapsWithSole [.Subscript (.Name nm p1) b p2] e pos.line X.env = pure false := by rfl) (hw : swappedStores [.Subscript (.Name nm p1) b p2] e X.env = pure none := by rfl)
    (h1 : (assignEach [.Subscript (.Name nm p1) b p2] X.env).map (·.2) = [assign (.Subscript (.Name nm p1) b p2) X.env] := by rfl) : XS X (.Assign [.Subscript (.Name nm p1) b p2] e pos) ρ (.nx (ρ2.set n (.m (putD kvs k0 x)))) :=
  .of (ps_asg (pcE e) (hg _ _ (pe_var hN hv hd hcd) (pcE b)) hs hw h1) fun F0 G F H σ k Dn q => h F0 G F H σ k _ fun v F1 H1 k1 f1 d1 => by
    obtain ⟨kvs0, r0⟩ := h0
    obtain ⟨p, _, e0, _⟩ := k1.has n _ _ r0 rfl
    refine ⟨.ref p, e0, hb F0 G F1 H1 σ k1 _ fun w F2 H2 k2 f2 d2 => ?_⟩
    have := kV_of_rp d2
    subst this
    obtain ⟨p', ho, e1, e2, e3, e4, vvs, rfl, e5, e6⟩ := k2.has n _ _ hr rfl
    rw [e0] at e1
    cases e1
    have hl := kvs_len e5
    refine ⟨p, _, rfl, .inl ⟨vvs, k0, e2, rfl, by rw [hl]; exact Nat.lt_of_le_of_lt hz (by decide), rfl⟩, ?_⟩
    obtain ⟨q1, q2⟩ := put_at (rp_mono f2 _ _ d1) k0 e5 e6
    exact q σ F2 _ (k2.writeW hr rfl e0 rfl (fun _ _ z => by cases z) ⟨_, rfl, q1, q2⟩) (f1.trans f2)
/-- list(d) -/
theorem xo_listD (n : Nat) {nm nm0 : Str} {kvs : List (Key × D)} {p p0 : Pos} (hc : X.calm = true) (hr : ρ[n]? = some (.m kvs)) (hg : Gl X nm) (hm : X.mg nm = none) (hvb : bootBuiltins nm = some (.type "list"))
    (hN : X.N[n]? = some nm0 := by rfl) (hv : Vis X.env.scope nm0 := by first | exact Or.inl rfl | exact Or.inr (Or.inl rfl) | exact Or.inr (Or.inr rfl))
    (hd : (nm0 == ("__debug__" : Str)) = false := by decide) (hcd : (nm0 == ("__classdict__" : Str)) = false := by decide)
    (hn : nm ≠ "__name__" := by decide) (hdb : (nm == ("__debug__" : Str)) = false := by decide) (he : starEach [.Name nm0 p0] X.env = (false, eval (.Name nm0 p0) X.env) :: starEach [] X.env := by rfl) (hpl : ((backTo pos (starEach [] X.env)).any fun x => x.fst) = false := by rfl) :
    XO X (.Call (.Name nm p) [.Name nm0 p0] [] pos) ρ (kvs.map fun kv => kD kv.1) ρ :=
  .of (pe_callTy (call_listD hc) hg hm hvb (pa_cons (pe_var hN hv hd hcd) pa_nil he) hn hdb he hpl) fun F0 G F H σ k Q q => by
    obtain ⟨a, ho, e1, e2, e3, e4, vvs, rfl, e5, e6⟩ := k.has n _ _ hr rfl
    exact ⟨.ref a, e1, a, vvs, rfl, .of e2, fun l hl => q l _ F H k (Same.refl _) hl (listD_at e5)⟩
theorem xs_putKP (n : Nat) {nm : Str} (kvs : List (Key × D)) (k0 : Key) {ρ' : List Sl} {p1 p2 : Pos} (hu : X.A.units + 1 < cLine) (h : XE X e ρ x ρ1) (hb : XE X b ρ1 (kD k0) ρ2) (h0 : ∃ kvs0, ρ1[n]? = some (.m kvs0)) (hr : ρ2[n]? = some (.m kvs)) (hz : kvs.length ≤ 1000000) (hq : ρ2.set n (.m (putD kvs k0 x)) = ρ')
    (hN : X.N[n]? = some nm := by rfl) (hv : Vis X.env.scope nm := by first | exact Or.inl rfl | exact Or.inr (Or.inl rfl) | exact Or.inr (Or.inr rfl))
    (hd : (nm == ("__debug__" : Str)) = false := by decide) (hcd : (nm == ("__classdict__" : Str)) = false := by decide)
    (hg : ∀ (ta tb : TE), X.A.units + 1 < cLine → PE X (.Name nm p1) ta → PE X b tb → PG X (.Subscript (.Name nm p1) b p2) (gSub ta tb rSetD) := by exact fun _ _ hu h1 h2 => pg_sub h1 h2 (set_dict hu))
    (hs : swapsWithSole [.Subscript (.Name nm p1) b p2] e pos.line X.env = pure false := by rfl) (hw : swappedStores [.Subscript (.Name nm p1) b p2] e X.env = pure none := by rfl)
    (h1 : (assignEach [.Subscript (.Name nm p1) b p2] X.env).map (·.2) = [assign (.Subscript (.Name nm p1) b p2) X.env] := by rfl) : XS X (.Assign [.Subscript (.Name nm p1) b p2] e pos) ρ (.nx ρ') := by
  rw [← hq]
  exact xs_putK n hu h hb h0 hr hz hN hv hd hcd (fun _ _ h1 h2 => hg _ _ hu h1 h2) hs hw h1
theorem xs_setQ {i : Int} {ρ' : List Sl} (n m : Nat) (xs : List D) {nm : Str} {s : Sl} {p1 p2 : Pos} (h : XE X e ρ x ρ1) (hb : XE X b ρ1 (.int i) ρ2) (h0 : ∃ s0 xs0, ρ1[n]? = some s0 ∧ s0.own = some xs0) (hr : ρ2[n]? = some s) (ho : s.own = some xs) (hm : ixN xs.length i = some m) (hq : ρ2.set n (s.put (xs.set m x)) = ρ')
    (hN : X.N[n]? = some nm := by rfl) (hv : Vis X.env.scope nm := by first | exact Or.inl rfl | exact Or.inr (Or.inl rfl) | exact Or.inr (Or.inr rfl))
    (hd : (nm == ("__debug__" : Str)) = false := by decide) (hcd : (nm == ("__classdict__" : Str)) = false := by decide)
    (hg : ∀ (ta tb : TE), PE X (.Name nm p1) ta → PE X b tb → PG X (.Subscript (.Name nm p1) b p2) (gSub ta tb L2.rSetL) := by exact fun _ _ h1 h2 => pg_sub h1 h2 set_list)
    (hs : swapsWithSole [.Subscript (.Name nm p1) b p2] e pos.line X.env = pure false := by rfl) (hw : swappedStores [.Subscript (.Name nm p1) b p2] e X.env = pure none := by rfl)
    (h1 : (assignEach [.Subscript (.Name nm p1) b p2] X.env).map (·.2) = [assign (.Subscript (.Name nm p1) b p2) X.env] := by rfl) : XS X (.Assign [.Subscript (.Name nm p1) b p2] e pos) ρ (.nx ρ') := by
  rw [← hq]
  exact xs_setitem n m h hb hr ho hm h0 hN hv hd hcd hg hs hw h1
theorem XO.is {xs ys : List D} (h : XO X e ρ xs ρ1) (q : xs = ys) : XO X e ρ ys ρ1 := by rw [← q]; exact h
theorem ixN_pos {n : Nat} {i : Int} (h0 : 0 ≤ i) (h : i < n) : ixN n i = some i.toNat := by
  unfold ixN
  rw [if_pos h0, if_pos h]
/-- a for whose turns carry a state, told by their number too -/
theorem lr_foldN {tg : Expr} {body : List Stmt} {α β : Type} {enc : α → D} {sl : β → List Sl} {step : β → α → β} {P : Nat → β → Prop} : ∀ (as : List α) (i n : Nat) (b : β), i + as.length ≤ n → P i b → (∀ j, j < n → ∀ a ∈ as, ∀ b, P j b → P (j + 1) (step b a) ∧ ∃ vs ρ1, XG X tg vs (enc a) (sl b) ρ1 ∧ XSs X body ρ1 (.nx (sl (step b a)))) →
    LR X tg body (as.map enc) (sl b) (.nx (sl (as.foldl step b)))
  | [], _, _, _, _, _, _ => .nil
  | a :: as, i, n, b, hn, hb, h => by
    rw [List.length_cons] at hn
    obtain ⟨h1, vs, ρ1, h2, h3⟩ := h i (by omega) a List.mem_cons_self b hb
    exact .next h2 h3 (lr_foldN as (i + 1) n _ (by omega) h1 fun j hj c hc => h j hj c (List.mem_cons_of_mem _ hc))
theorem xs_appendP {ρ' : List Sl} (n : Nat) (xs : List D) {nm : Str} {s : Sl} {p1 p2 p3 : Pos} (h : XE X e ρ x ρ1) (h0 : ∃ s0 xs0, ρ[n]? = some s0 ∧ s0.own = some xs0) (hr : ρ1[n]? = some s) (ho : s.own = some xs) (hz : xs.length < 1000000) (hq : ρ1.set n (s.put (xs ++ [x])) = ρ')
    (hN : X.N[n]? = some nm := by rfl) (hv : Vis X.env.scope nm := by first | exact Or.inl rfl | exact Or.inr (Or.inl rfl) | exact Or.inr (Or.inr rfl))
    (hd : (nm == ("__debug__" : Str)) = false := by decide) (hcd : (nm == ("__classdict__" : Str)) = false := by decide) (q1 : starEach [e] X.env = (false, eval e X.env) :: starEach [] X.env := by rfl)
    (q2 : ∀ (ta te : TE), PE X (.Name nm p1) ta → PE X e te → PE X (.Call (.Attribute (.Name nm p1) "append" p2) [e] [] p3) (tBM X.K "list" rAppend ta (tCons te tNil)) := by exact fun _ _ h1 h2 => pe_bm PySem.F.plainAttrs_list PySem.F.slot_list_append PySem.F.type_list_append mt_append h1 (pa_cons h2 pa_nil))
    (q3 : swapsWith (.Call (.Attribute (.Name nm p1) "append" p2) [e] [] p3) none pos.line X.env = pure false := by rfl) : XS X (.Expr (.Call (.Attribute (.Name nm p1) "append" p2) [e] [] p3) pos) ρ (.nx ρ') := by
  rw [← hq]
  exact xs_append n h hr ho hz h0 hN hv hd hcd q1 q2 q3
end
end DL
set_option Elab.async false
set_option linter.all false
set_option maxRecDepth 100000
set_option maxHeartbeats 2000000
namespace DL
open PySem PySem.Spec PyProof.Rows L2
section
variable {X : Cx} {a b c e : Expr} {ρ ρ1 ρ2 : List Sl} {d x y z : D} {pos : Pos}
theorem kit_two {K : PySem.W.Frag} {t T1 T2 : String} {b1 b2 : Bool} (h1 : kitB t T1 = some b1) (h2 : kitB t T2 = some b2) : PySem.W.kitAny K (.type t) [.type T1, .type T2] = some (b1 || b2) := by
  have e1 := kit_ty (K := K) h1
  have e2 := kit_ty (K := K) h2
  cases b1 <;> cases b2 <;> simp [PySem.W.kitAny, e1, e2]
theorem xe_isi2 {nm n1 n2 : Str} {T1 T2 : String} {b1 b2 : Bool} {p p1 p2 tp : Pos} {k0 : Nat} (h : XE X e ρ x ρ1) (hk1 : kitB (tyD x) T1 = some b1) (hk2 : kitB (tyD x) T2 = some b2) (hg : Gl X nm) (hm : X.mg nm = none) (hv : bootBuiltins nm = some (.builtin "isinstance")) (hg1 : Gl X n1) (hm1 : X.mg n1 = none) (hv1 : bootBuiltins n1 = some (.type T1)) (hg2 : Gl X n2) (hm2 : X.mg n2 = none) (hv2 : bootBuiltins n2 = some (.type T2))
    (hn : nm ≠ "__name__" := by decide) (hdb : (nm == ("__debug__" : Str)) = false := by decide) (hn1 : n1 ≠ "__name__" := by decide) (hdb1 : (n1 == ("__debug__" : Str)) = false := by decide) (hn2 : n2 ≠ "__name__" := by decide) (hdb2 : (n2 == ("__debug__" : Str)) = false := by decide)
    (r1 : starEach [.Name n1 p1, .Name n2 p2] X.env = (false, eval (.Name n1 p1) X.env) :: starEach [.Name n2 p2] X.env := by rfl) (r2 : starEach [.Name n2 p2] X.env = (false, eval (.Name n2 p2) X.env) :: starEach [] X.env := by rfl)
    (q1 : starEach [e, .Tuple [.Name n1 p1, .Name n2 p2] k0 tp] X.env = (false, eval e X.env) :: starEach [.Tuple [.Name n1 p1, .Name n2 p2] k0 tp] X.env := by rfl) (q2 : starEach [.Tuple [.Name n1 p1, .Name n2 p2] k0 tp] X.env = (false, eval (.Tuple [.Name n1 p1, .Name n2 p2] k0 tp) X.env) :: starEach [] X.env := by rfl) (q3 : ((backTo pos (starEach [.Tuple [.Name n1 p1, .Name n2 p2] k0 tp] X.env)).any fun x => x.fst) = false := by rfl) (hx : dctB x = false := by rfl) :
    XE X (.Call (.Name nm p) [e, .Tuple [.Name n1 p1, .Name n2 p2] k0 tp] [] pos) ρ (.bool (b1 || b2)) ρ1 :=
  .of (pe_callB call_isiT hg hm hv (pa_cons (pcE e) (pa_cons (pe_tup (pa_cons (pe_bltn (v := .ty T1) hg1 hm1 hv1 rfl hn1 hdb1) (pa_cons (pe_bltn (v := .ty T2) hg2 hm2 hv2 rfl hn2 hdb2) pa_nil r2) r1)) pa_nil q2) q1) hn hdb q1 q3) fun F0 G F H σ k Q q => h F0 G F H σ k _ fun v F1 H1 k1 f1 d1 =>
    ⟨by show 2 ≤ sizeLine; decide, fun p hp => ⟨v, p, [.ty T1, .ty T2], _, _, _, rfl, upd_same, .cons (.ty _) (.cons (.ty _) .nil), ty_rp (k1.loose hp).fh d1 hx, kit_two hk1 hk2, q _ F1 _ (k1.loose hp) f1 (.bl _)⟩⟩
end
end DL
set_option Elab.async false
set_option linter.all false
set_option maxRecDepth 100000
set_option maxHeartbeats 2000000
namespace DL
open PySem PySem.Spec PyProof.Rows L2
section
variable {X : Cx} {a b c e : Expr} {ρ ρ1 ρ2 ρ3 : List Sl} {d x y z : D} {pos : Pos} {ds : List D}
theorem br_notB {i j : Bool} : BR X (compareOp .IsNot) (.bool i) (.bool j) (.bool (!decide (i = j))) :=
  ⟨_, op_notBl, fun F H v w Q fh h1 h2 q => by
    cases h1; cases h2
    exact ⟨i, j, rfl, rfl, q _ F H (.refl fh) (.bl _)⟩⟩
/-- t[:m] -/
theorem xe_cutT {m : Nat} {p2 : Pos} (h : XE X e ρ (.tuple ds) ρ1) (hb : XE X b ρ1 (.int (m : Nat)) ρ2) : XE X (.Subscript e (.Slice none (some b) none p2) pos) ρ (.tuple (ds.take m)) ρ2 :=
  .of (pe_slice sl_tupA (pcE e) po_none (po_some (pcE b))) fun F0 G F H σ k Q q => h F0 G F H σ k _ fun v F1 H1 k1 f1 d1 => by
    show cE X b σ H1 _
    refine hb F0 G F1 H1 σ k1 _ fun w F2 H2 k2 f2 d2 => ?_
    cases d1 with
    | @tup a xs _ s r =>
      cases d2
      have hl := Rps.length r
      have e1 : HT.sIx xs.length xs.length (some (m : Int)) = min m xs.length := by
        unfold HT.sIx
        simp only []
        rw [if_neg (by omega)]
        rw [Int.toNat_natCast]
      have e0 : HT.sIx xs.length 0 none = 0 := rfl
      refine ⟨_, rfl, a, xs, rfl, sqT_mono (f2.trans k2.fh) s, fun hw => ?_, fun hn p hp => ?_⟩
      · have hm : xs.length ≤ m := by
          have := hw.2
          rw [e1] at this
          omega
        rw [List.take_of_length_le (by omega)] at q
        exact q _ F2 H2 k2 (f1.trans f2) (.tup (f2 _ _ s) (rps_mono f2 _ _ r))
      · have e2 : cutV xs none (some (m : Int)) = xs.take m := by
          unfold cutV
          rw [e0, e1, List.drop_zero, Nat.sub_zero]
          by_cases hmx : m ≤ xs.length
          · rw [Nat.min_eq_left hmx]
          · rw [Nat.min_eq_right (by omega), List.take_length, List.take_of_length_le (by omega)]
        show Q (.ref p) (upd H2 p (.tup (cutV xs none (some (m : Int)))))
        rw [e2]
        have gr : Gr F2 H2 (upd F2 p (.tup (xs.take m))) (upd H2 p (.tup (xs.take m))) := .laid k2.fh hp
        refine q _ _ _ (k2.gr gr) ((f1.trans f2).trans gr.f) (.tup upd_same ?_)
        exact rps_mono gr.f _ _ (rps_mono f2 _ _ (Rps.take r m))
/-- range(n, -1, -1) -/
def downD (n : Nat) : List D := (List.range (n + 1)).map fun i => .int ((n : Int) + (i : Nat) * (-1))
theorem downD_len (n : Nat) : (downD n).length = n + 1 := by simp [downD]
theorem downD_at {n i : Nat} {d : D} (h : (downD n)[i]? = some d) : i < n + 1 ∧ d = .int ((n : Int) + (i : Nat) * (-1)) := by
  unfold downD at h
  rw [List.getElem?_map, Option.map_eq_some_iff] at h
  obtain ⟨k, h1, h2⟩ := h
  obtain ⟨h3, h4⟩ := List.getElem?_eq_some_iff.mp h1
  rw [List.length_range] at h3
  rw [List.getElem_range] at h4
  subst h4
  exact ⟨h3, h2.symm⟩
theorem yl_down {K : PySem.W.Frag} {F : Hp} {n : Nat} : Yl K (Itc n (-1) (n + 1)) F (downD n) :=
  ⟨fun i H _ hi => by rw [downD_len] at hi; exact hi, fun H _ => by rw [downD_len]; exact Nat.le_refl _, fun i H x H' F1 f1 f2 hy d hd => by
    obtain ⟨rfl, rfl⟩ := hy
    obtain ⟨h1, rfl⟩ := downD_at hd
    exact ⟨F1, .refl f2, .int _⟩⟩
theorem rgc_down {n : Nat} (h : n ≤ 100000) : RgC n (-1) (-1) (n + 1) := by
  have e : Builtin.Range.rangeSize (n : Int) (-1) (-1) = ((n + 1 : Nat) : Int) := by
    unfold Builtin.Range.rangeSize
    rw [if_neg (by decide), if_pos (by omega)]
    simp
  refine ⟨by decide, by decide, ?_, e⟩
  unfold Builtin.Range.small
  rw [e]
  have e3 : ¬ ((-1 : Int) > 0) := by decide
  simp only [Builtin.Range.rangeFitsLong, Bool.and_eq_true, Bool.or_eq_true, decide_eq_true_iff, if_neg e3]
  refine ⟨⟨⟨⟨⟨by omega, by omega⟩, by decide⟩, by decide⟩, by omega, by omega⟩, .inr (by decide)⟩
theorem xi_down {tg : Expr} {p : Pos} {n : Nat} (hn : n ≤ 100000) (hg : Gl X "range") (hm : X.mg "range" = none) (h : XE X a ρ (.int (n : Nat)) ρ1) (h2 : XE X b ρ1 (.int (-1)) ρ2) (h3 : XE X c ρ2 (.int (-1)) ρ3)
    (q1 : starEach [a, b, c] X.env = (false, eval a X.env) :: starEach [b, c] X.env := by rfl) (q2 : ((backTo pos (starEach [b, c] X.env)).any fun x => x.fst) = false := by rfl)
    (q3 : starEach [b, c] X.env = (false, eval b X.env) :: starEach [c] X.env := by rfl) (q4 : starEach [c] X.env = (false, eval c X.env) :: starEach [] X.env := by rfl) : XI X tg (.Call (.Name "range" p) [a, b, c] [] pos) ρ (downD n) ρ3 :=
  .of (pi_range3 hg hm (pa_cons (pcE a) (pa_cons (pcE b) (pa_cons (pcE c) pa_nil q4) q3) q1) q1 q2) fun F0 G F H σ k R q => h F0 G F H σ k _ fun v F1 H1 k1 f1 d1 => h2 F0 G F1 H1 σ k1 _ fun w F2 H2 k2 f2 d2 => h3 F0 G F2 H2 σ k2 _ fun u F3 H3 k3 f3 d3 => by
    cases d1
    cases d2
    cases d3
    exact ⟨n, -1, -1, n + 1, rfl, rgc_down hn, q _ F3 H3 k3 ((f1.trans f2).trans f3) yl_down⟩
end
end DL
set_option Elab.async false
set_option linter.all false
set_option maxRecDepth 100000
set_option maxHeartbeats 4000000
namespace DL
open PySem PySem.Spec PyProof.Rows L2
theorem rt {X : Cx} {body : List Stmt} {ρ ρ' : List Sl} {d : D} (h : XSs X body ρ (.rt d ρ')) : ∃ o ρ1, DL.Fin d o ρ1 ∧ XSs X body ρ o := ⟨_, _, .rt, h⟩
theorem ends {X : Cx} {body : List Stmt} {ρ ρ' : List Sl} (h : XSs X body ρ (.nx ρ')) : ∃ o ρ1, DL.Fin .none o ρ1 ∧ XSs X body ρ o := ⟨_, _, .nx rfl, h⟩
/-! a for whose turns may return -/
def encs {α : Type} (enc : Nat → α → D) : Nat → List α → List D
  | _, [] => []
  | i, a :: as => enc i a :: encs enc (i + 1) as
def runGo {α β : Type} (go : Nat → β → α → Sum β D) : Nat → List α → β → Sum β D
  | _, [], b => .inl b
  | i, a :: as, b => match go i b a with
    | .inl b' => runGo go (i + 1) as b'
    | .inr d => .inr d
theorem lr_run {X : Cx} {tg : Expr} {body : List Stmt} {α β : Type} {enc : Nat → α → D} {sl : β → List Sl} {P : β → Prop} {go : Nat → β → α → Sum β D} : ∀ (as : List α) (i : Nat) (b : β), P b →
    (∀ i, ∀ a ∈ as, ∀ b, P b → (∀ b', go i b a = .inl b' → P b' ∧ ∃ vs ρ1, XG X tg vs (enc i a) (sl b) ρ1 ∧ XSs X body ρ1 (.nx (sl b'))) ∧ (∀ d, go i b a = .inr d → ∃ vs ρ1 ρ2, XG X tg vs (enc i a) (sl b) ρ1 ∧ XSs X body ρ1 (.rt d ρ2))) →
    (∀ b', runGo go i as b = .inl b' → P b' ∧ LR X tg body (encs enc i as) (sl b) (.nx (sl b'))) ∧ (∀ d, runGo go i as b = .inr d → ∃ ρ, LR X tg body (encs enc i as) (sl b) (.rt d ρ))
  | [], i, b, hb, _ => ⟨fun b' e => (by cases e; exact ⟨hb, .nil⟩), fun d e => (by cases e)⟩
  | a :: as, i, b, hb, h => by
    obtain ⟨h1, h2⟩ := h i a List.mem_cons_self b hb
    unfold runGo
    cases e : go i b a with
    | inl b1 =>
      obtain ⟨p1, vs, ρ1, g1, x1⟩ := h1 b1 e
      obtain ⟨r1, r2⟩ := lr_run as (i + 1) b1 p1 fun j c hc => h j c (List.mem_cons_of_mem _ hc)
      exact ⟨fun b' q => ⟨(r1 b' q).1, .next g1 x1 (r1 b' q).2⟩, fun d q => (r2 d q).elim fun ρ l => ⟨ρ, .next g1 x1 l⟩⟩
    | inr d =>
      obtain ⟨vs, ρ1, ρ2, g1, x1⟩ := h2 d e
      exact ⟨fun b' q => (by cases q), fun d' q => (by cases q; exact ⟨ρ2, .ret g1 x1⟩)⟩
theorem enumD_encs {α : Type} (enc : α → D) (as : List α) : enumD (as.map enc) = encs (fun i a => .tuple [.int (i : Nat), enc a]) 0 as := by
  have : ∀ (as : List α) (i : Nat), (as.map enc).mapIdx (fun j x => PyData.tuple [.int ((j + i : Nat) : Int), x]) = encs (fun i a => .tuple [.int (i : Nat), enc a]) i as := by
    intro as
    induction as with
    | nil => intro i; rfl
    | cons a as ih =>
      intro i
      rw [List.map_cons, List.mapIdx_cons]
      unfold encs
      rw [← ih (i + 1), Nat.zero_add]
      congr 1
      apply List.ext_getElem?
      intro k
      rw [List.getElem?_mapIdx, List.getElem?_mapIdx]
      congr 1
      funext x
      rw [show k + 1 + i = k + (i + 1) by omega]
  exact this as 0
/-! reels as data -/
abbrev eT (xs : List Int) : D := .tuple (xs.map .int)
abbrev eL (xs : List Int) : D := .list (xs.map .int)
structure Reel where
  nexts : List (List Int)
  pics : List Int
abbrev eN (ns : List (List Int)) : D := .tuple (ns.map eT)
abbrev eReel (r : Reel) : D := .tuple [eN r.nexts, eT r.pics]
def eGap : Option Nat → D
  | none => .none
  | some g => .int g
abbrev eRows (rs : List (List Int)) : D := .list (rs.map eL)
/-- a reel as the document says it -/
structure Reel.Ok (r : Reel) : Prop where
  some : 1 ≤ r.nexts.length
  few : r.nexts.length ≤ 6
  pl : r.pics.length = r.nexts.length
  row : ∀ ns ∈ r.nexts, ns ≠ [] ∧ ns.Pairwise (· < ·) ∧ ∀ s ∈ ns, 0 ≤ s ∧ s < r.nexts.length
  pic : ∀ p ∈ r.pics, 0 ≤ p ∧ p ≤ 99
def GapOk : Option Nat → Prop
  | none => True
  | some g => g ≤ 20
/-- the states that may come next -/
def nx (ns : List (List Int)) (s : Int) : List Int := (ns[s.toNat]?).getD []
/-- one step more -/
def grow (ns : List (List Int)) (f : List Int) : List Int := setI (f ++ f.flatMap (nx ns))
def iter {α : Type} (f : α → α) : Nat → α → α
  | 0, x => x
  | n + 1, x => iter f n (f x)
def withinM (ns : List (List Int)) (states : List Int) (gap : Option Nat) : List Int := iter (grow ns) (gap.getD ns.length) (sortI states)
def leapsM (r : Reel) (gap : Option Nat) : List (List Int) := r.nexts.map (fun row => withinM r.nexts row gap) ++ [withinM r.nexts [0] gap]
/-- states that a reel of so many has -/
def In (n : Nat) (xs : List Int) : Prop := ∀ s ∈ xs, 0 ≤ s ∧ s < n
theorem nx_at {ns : List (List Int)} {s : Int} (h0 : 0 ≤ s) (h : s < ns.length) : ns[s.toNat]? = some (nx ns s) := by
  unfold nx
  have : s.toNat < ns.length := by omega
  rw [List.getElem?_eq_getElem this]
  rfl
theorem atI_map {α : Type} {f : α → D} {xs : List α} {i : Int} {x : α} (h0 : 0 ≤ i) (h : xs[i.toNat]? = some x) : atI (xs.map f) i = some (f x) := by
  have e : (i.toNat : Int) = i := by omega
  rw [← e]
  refine atI_nat ?_
  rw [List.getElem?_map, h]
  rfl
theorem lt_count : ∀ {xs : List Int} {a b : Int}, xs.Pairwise (· < ·) → (∀ s ∈ xs, a ≤ s ∧ s < b) → xs.length ≤ (b - a).toNat
  | [], _, _, _, _ => Nat.zero_le _
  | x :: xs, a, b, hp, h => by
    have hp' := List.pairwise_cons.mp hp
    have hx := h x List.mem_cons_self
    have ih := lt_count (a := x + 1) (b := b) hp'.2 fun s hs => ⟨hp'.1 s hs, (h s (List.mem_cons_of_mem _ hs)).2⟩
    rw [List.length_cons]
    omega
theorem lt_len {n : Nat} {xs : List Int} (hp : xs.Pairwise (· < ·)) (hi : In n xs) : xs.length ≤ n := by
  have := lt_count hp (a := 0) (b := n) hi
  omega
theorem grow_in {ns : List (List Int)} {n : Nat} (hn : ∀ r ∈ ns, In n r) {f : List Int} (h : In n f) : In n (grow ns f) := fun s hs => by
  unfold grow at hs
  rw [mem_setI, List.mem_append] at hs
  rcases hs with hs | hs
  · exact h s hs
  · obtain ⟨t, ht, hs⟩ := List.mem_flatMap.mp hs
    unfold nx at hs
    cases e : ns[t.toNat]? with
    | none => rw [e] at hs; cases hs
    | some r => rw [e] at hs; exact hn r (List.mem_of_getElem? e) s hs
theorem iter_inv {α : Type} {f : α → α} {P : α → Prop} (h : ∀ x, P x → P (f x)) {x : α} (h0 : P x) : ∀ n, P (iter f n x)
  | 0 => h0
  | n + 1 => iter_inv h (h x h0) n
theorem within_in {ns : List (List Int)} {n : Nat} (hn : ∀ r ∈ ns, In n r) {st : List Int} (h : In n st) (g : Option Nat) : In n (withinM ns st g) :=
  iter_inv (fun x hx => grow_in hn hx) (fun s hs => h s ((sortI_perm st).mem_iff.mp hs)) _
theorem grow_len {ns : List (List Int)} {f : List Int} (h : In ns.length f) (hn : ∀ r ∈ ns, In ns.length r) : (grow ns f).length ≤ ns.length := lt_len (setI_lt _) (grow_in hn h)
structure NsOk (ns : List (List Int)) : Prop where
  few : ns.length ≤ 6
  row : ∀ r ∈ ns, r.Pairwise (· < ·) ∧ In ns.length r
theorem Reel.Ok.ns {r : Reel} (h : r.Ok) : NsOk r.nexts := ⟨h.few, fun x hx => ⟨(h.row x hx).2.1, (h.row x hx).2.2⟩⟩
theorem nx_mem {ns : List (List Int)} {s : Int} : nx ns s = [] ∨ nx ns s ∈ ns := by
  unfold nx
  cases e : ns[s.toNat]? with
  | none => exact .inl rfl
  | some r => exact .inr (List.mem_of_getElem? e)
theorem flat_len {f : Int → List Int} {k : Nat} : ∀ {l : List Int}, (∀ x ∈ l, (f x).length ≤ k) → (l.flatMap f).length ≤ k * l.length
  | [], _ => by simp
  | a :: l, h => by
    have h1 := h a List.mem_cons_self
    have h2 := flat_len fun x hx => h x (List.mem_cons_of_mem _ hx)
    rw [List.flatMap_cons, List.length_append, List.length_cons, Nat.mul_succ]
    omega
theorem NsOk.nx6 {ns : List (List Int)} (h : NsOk ns) (s : Int) : (nx ns s).length ≤ 6 := by
  rcases nx_mem (ns := ns) (s := s) with e | e
  · rw [e]; exact Nat.zero_le _
  · exact Nat.le_trans (lt_len (h.row _ e).1 (h.row _ e).2) h.few
theorem iter_lt {ns : List (List Int)} {st : List Int} : ∀ n, st.Pairwise (· < ·) → (iter (grow ns) n st).Pairwise (· < ·)
  | 0, h => h
  | n + 1, _ => iter_lt n (setI_lt _)
theorem within_lt {ns : List (List Int)} {st : List Int} (h : st.Pairwise (· < ·)) (g : Option Nat) : (withinM ns st g).Pairwise (· < ·) := by
  refine iter_lt _ ?_
  rw [show sortI st = st from sorted_one (sortI_perm st) (sortI_sorted st) (h.imp fun h => Int.le_of_lt h)]
  exact h
/-- rows of states: what stands behind each state, and ahead of all -/
structure RowsOk (n : Nat) (rows : List (List Int)) : Prop where
  len : rows.length = n + 1
  row : ∀ r ∈ rows, r.Pairwise (· < ·) ∧ In n r
theorem leaps_ok {r : Reel} (h : r.Ok) (g : Option Nat) : RowsOk r.nexts.length (leapsM r g) where
  len := by unfold leapsM; simp
  row := fun x hx => by
    have hin : ∀ r' ∈ r.nexts, In r.nexts.length r' := fun r' hr => (h.ns.row r' hr).2
    unfold leapsM at hx
    rcases List.mem_append.mp hx with hx | hx
    · obtain ⟨y, hy, rfl⟩ := List.mem_map.mp hx
      exact ⟨within_lt (h.ns.row y hy).1 g, within_in hin (h.ns.row y hy).2 g⟩
    · rw [List.mem_singleton.mp hx]
      exact ⟨within_lt (List.pairwise_singleton _ _) g, within_in hin (fun s hs => by
        rw [List.mem_singleton.mp hs]
        have := h.some
        omega) g⟩
def picAt (ps : List Int) (s : Int) : Int := (ps[s.toNat]?).getD 0
/-- the states at a next frame of this picture -/
def stepM (r : Reel) (rows : List (List Int)) (st : List Int) (p : Int) : List Int := setI ((st.flatMap (nx rows)).filter fun a => decide (picAt r.pics a = p))
def StOk (n : Nat) (st : List Int) : Prop := st.Pairwise (· < ·) ∧ In (n + 1) st
theorem step_in {r : Reel} {rows : List (List Int)} {st : List Int} {p : Int} {n : Nat} (h : RowsOk n rows) : In n (stepM r rows st p) := fun s hs => by
  unfold stepM at hs
  rw [mem_setI, List.mem_filter, List.mem_flatMap] at hs
  obtain ⟨⟨t, _, hs⟩, _⟩ := hs
  rcases nx_mem (ns := rows) (s := t) with e | e
  · rw [e] at hs; cases hs
  · exact (h.row _ e).2 s hs
theorem step_ok {r : Reel} {rows : List (List Int)} {st : List Int} {p : Int} {n : Nat} (h : RowsOk n rows) : StOk n (stepM r rows st p) :=
  ⟨setI_lt _, fun s hs => by have := step_in h s hs; omega⟩
/-- how many first frames can be shown -/
def shownM (r : Reel) (rows : List (List Int)) : List Int → List Int → Nat
  | _, [] => 0
  | st, p :: ps => if stepM r rows st p = [] then 0 else 1 + shownM r rows (stepM r rows st p) ps
theorem shown_le (r : Reel) (rows : List (List Int)) : ∀ (film st : List Int), shownM r rows st film ≤ film.length
  | [], _ => Nat.le_refl _
  | p :: ps, st => by
    unfold shownM
    split
    · exact Nat.zero_le _
    · have := shown_le r rows ps (stepM r rows st p)
      rw [List.length_cons]
      omega
def behindM (r : Reel) (rows : List (List Int)) (st : List Int) (film : List Int) : List Int := film.foldl (stepM r rows) st
end DL
set_option Elab.async false
set_option linter.all false
set_option maxRecDepth 100000
set_option maxHeartbeats 4000000
namespace K
open PySem PySem.Spec PyProof.Rows L2 DL
def topS (i : Nat) : Stmt := PySem.Challenge.pw_dropframes_k01_whole_films.main.body.getD i (.Pass ⟨0, 0, 0, 0⟩)
abbrev s_is_integer : Stmt := topS 13
abbrev n_is_integer : List Str := ["value", "low", "high"]
theorem c_is_integer : FnScope n_is_integer ["value", "low", "high"] (defScope s_is_integer) := ⟨rfl, rfl, rfl, by decide +kernel, rfl, by decide +kernel, by decide +kernel⟩
abbrev s_is_picture : Stmt := topS 14
abbrev n_is_picture : List Str := ["value"]
theorem c_is_picture : FnScope n_is_picture ["value"] (defScope s_is_picture) := ⟨rfl, rfl, rfl, by decide +kernel, rfl, by decide +kernel, by decide +kernel⟩
abbrev s_is_film : Stmt := topS 15
abbrev n_is_film : List Str := ["value", "picture"]
theorem c_is_film : FnScope n_is_film ["value"] (defScope s_is_film) := ⟨rfl, rfl, rfl, by decide +kernel, rfl, by decide +kernel, by decide +kernel⟩
abbrev s_is_ascending : Stmt := topS 16
abbrev n_is_ascending : List Str := ["value"]
theorem c_is_ascending : FnScope n_is_ascending ["value"] (defScope s_is_ascending) := ⟨rfl, rfl, rfl, by decide +kernel, rfl, by decide +kernel, by decide +kernel⟩
abbrev s_is_next_row : Stmt := topS 17
abbrev n_is_next_row : List Str := ["value", "many", "state"]
theorem c_is_next_row : FnScope n_is_next_row ["value", "many"] (defScope s_is_next_row) := ⟨rfl, rfl, rfl, by decide +kernel, rfl, by decide +kernel, by decide +kernel⟩
abbrev s_are_nexts : Stmt := topS 18
abbrev n_are_nexts : List Str := ["value", "row"]
theorem c_are_nexts : FnScope n_are_nexts ["value"] (defScope s_are_nexts) := ⟨rfl, rfl, rfl, by decide +kernel, rfl, by decide +kernel, by decide +kernel⟩
abbrev s_wrong_part : Stmt := topS 19
abbrev n_wrong_part : List Str := ["value", "nexts", "pictures"]
theorem c_wrong_part : FnScope n_wrong_part ["value"] (defScope s_wrong_part) := ⟨rfl, rfl, rfl, by decide +kernel, rfl, by decide +kernel, by decide +kernel⟩
abbrev s_check_reel : Stmt := topS 20
abbrev n_check_reel : List Str := ["reel", "part"]
theorem c_check_reel : FnScope n_check_reel ["reel"] (defScope s_check_reel) := ⟨rfl, rfl, rfl, by decide +kernel, rfl, by decide +kernel, by decide +kernel⟩
abbrev s_check_reels : Stmt := topS 21
abbrev n_check_reels : List Str := ["reels", "number", "reel"]
theorem c_check_reels : FnScope n_check_reels ["reels"] (defScope s_check_reels) := ⟨rfl, rfl, rfl, by decide +kernel, rfl, by decide +kernel, by decide +kernel⟩
abbrev s_check_gap : Stmt := topS 22
abbrev n_check_gap : List Str := ["gap"]
theorem c_check_gap : FnScope n_check_gap ["gap"] (defScope s_check_gap) := ⟨rfl, rfl, rfl, by decide +kernel, rfl, by decide +kernel, by decide +kernel⟩
abbrev s_check_film : Stmt := topS 23
abbrev n_check_film : List Str := ["film"]
theorem c_check_film : FnScope n_check_film ["film"] (defScope s_check_film) := ⟨rfl, rfl, rfl, by decide +kernel, rfl, by decide +kernel, by decide +kernel⟩
abbrev s_leaps : Stmt := topS 25
abbrev n_leaps : List Str := ["reel", "gap", "nexts", "rows", "row"]
theorem c_leaps : FnScope n_leaps ["reel", "gap"] (defScope s_leaps) := ⟨rfl, rfl, rfl, by decide +kernel, rfl, by decide +kernel, by decide +kernel⟩
abbrev s_states_within : Stmt := topS 26
abbrev n_states_within : List Str := ["nexts", "states", "gap", "steps", "found", "_", "state", "after"]
theorem c_states_within : FnScope n_states_within ["nexts", "states", "gap"] (defScope s_states_within) := ⟨rfl, rfl, rfl, by decide +kernel, rfl, by decide +kernel, by decide +kernel⟩
abbrev s_can_show : Stmt := topS 28
abbrev n_can_show : List Str := ["reel", "gap", "film"]
theorem c_can_show : FnScope n_can_show ["reel", "gap", "film"] (defScope s_can_show) := ⟨rfl, rfl, rfl, by decide +kernel, rfl, by decide +kernel, by decide +kernel⟩
abbrev s_behind : Stmt := topS 29
abbrev n_behind : List Str := ["reel", "gap", "film", "rows"]
theorem c_behind : FnScope n_behind ["reel", "gap", "film"] (defScope s_behind) := ⟨rfl, rfl, rfl, by decide +kernel, rfl, by decide +kernel, by decide +kernel⟩
abbrev s_could_be : Stmt := topS 30
abbrev n_could_be : List Str := ["reels", "gap", "film", "number", "reel"]
theorem c_could_be : FnScope n_could_be ["reels", "gap", "film"] (defScope s_could_be) := ⟨rfl, rfl, rfl, by decide +kernel, rfl, by decide +kernel, by decide +kernel⟩
abbrev s_told_at : Stmt := topS 31
abbrev n_told_at : List Str := ["reels", "gap", "film", "second", "reel"]
theorem c_told_at : FnScope n_told_at ["reels", "gap", "film"] (defScope s_told_at) := ⟨rfl, rfl, rfl, by decide +kernel, rfl, by decide +kernel, by decide +kernel⟩
abbrev s_frames_shown : Stmt := topS 32
abbrev n_frames_shown : List Str := ["reel", "gap", "film", "rows", "states", "many", "picture"]
theorem c_frames_shown : FnScope n_frames_shown ["reel", "gap", "film"] (defScope s_frames_shown) := ⟨rfl, rfl, rfl, by decide +kernel, rfl, by decide +kernel, by decide +kernel⟩
abbrev s_ahead_of_all : Stmt := topS 33
abbrev n_ahead_of_all : List Str := ["reel"]
theorem c_ahead_of_all : FnScope n_ahead_of_all ["reel"] (defScope s_ahead_of_all) := ⟨rfl, rfl, rfl, by decide +kernel, rfl, by decide +kernel, by decide +kernel⟩
abbrev s_states_behind : Stmt := topS 34
abbrev n_states_behind : List Str := ["reel", "rows", "states", "film", "found", "picture"]
theorem c_states_behind : FnScope n_states_behind ["reel", "rows", "states", "film"] (defScope s_states_behind) := ⟨rfl, rfl, rfl, by decide +kernel, rfl, by decide +kernel, by decide +kernel⟩
abbrev s_states_at_next : Stmt := topS 35
abbrev n_states_at_next : List Str := ["reel", "rows", "states", "picture", "pictures", "state", "after"]
theorem c_states_at_next : FnScope n_states_at_next ["reel", "rows", "states", "picture"] (defScope s_states_at_next) := ⟨rfl, rfl, rfl, by decide +kernel, rfl, by decide +kernel, by decide +kernel⟩
abbrev s_law_taken : Stmt := topS 37
abbrev n_law_taken : List Str := ["row", "many", "found", "cell"]
theorem c_law_taken : FnScope n_law_taken ["row", "many"] (defScope s_law_taken) := ⟨rfl, rfl, rfl, by decide +kernel, rfl, by decide +kernel, by decide +kernel⟩
abbrev s_law_pick : Stmt := topS 38
abbrev n_law_pick : List Str := ["row", "things"]
theorem c_law_pick : FnScope n_law_pick ["row", "things"] (defScope s_law_pick) := ⟨rfl, rfl, rfl, by decide +kernel, rfl, by decide +kernel, by decide +kernel⟩
abbrev s_law_gap : Stmt := topS 39
abbrev n_law_gap : List Str := ["row"]
theorem c_law_gap : FnScope n_law_gap ["row"] (defScope s_law_gap) := ⟨rfl, rfl, rfl, by decide +kernel, rfl, by decide +kernel, by decide +kernel⟩
abbrev s_law_reel : Stmt := topS 40
abbrev n_law_reel : List Str := ["row", "most", "pictures", "many", "nexts", "kind", "state", "some", "turn"]
theorem c_law_reel : FnScope n_law_reel ["row", "most", "pictures"] (defScope s_law_reel) := ⟨rfl, rfl, rfl, by decide +kernel, rfl, by decide +kernel, by decide +kernel⟩
abbrev s_law_run : Stmt := topS 41
abbrev n_law_run : List Str := ["row", "reel", "gap", "frames", "state", "film", "frame", "steps", "step"]
theorem c_law_run : FnScope n_law_run ["row", "reel", "gap", "frames"] (defScope s_law_run) := ⟨rfl, rfl, rfl, by decide +kernel, rfl, by decide +kernel, by decide +kernel⟩
abbrev s_law_beyond : Stmt := topS 42
abbrev n_law_beyond : List Str := ["reel", "states", "least", "most", "here", "found", "step", "later", "state"]
theorem c_law_beyond : FnScope n_law_beyond ["reel", "states", "least", "most"] (defScope s_law_beyond) := ⟨rfl, rfl, rfl, by decide +kernel, rfl, by decide +kernel, by decide +kernel⟩
abbrev s_law_stands : Stmt := topS 43
abbrev n_law_stands : List Str := ["reel", "gap", "film", "far", "here", "number", "picture", "state"]
theorem c_law_stands : FnScope n_law_stands ["reel", "gap", "film"] (defScope s_law_stands) := ⟨rfl, rfl, rfl, by decide +kernel, rfl, by decide +kernel, by decide +kernel⟩
abbrev s_law_alike : Stmt := topS 44
abbrev n_law_alike : List Str := ["found", "due", "k"]
theorem c_law_alike : FnScope n_law_alike ["found", "due"] (defScope s_law_alike) := ⟨rfl, rfl, rfl, by decide +kernel, rfl, by decide +kernel, by decide +kernel⟩
abbrev s_law : Stmt := topS 45
abbrev n_law : List Str := ["script", "row", "pictures", "gap", "reels", "one", "film", "turn", "told", "tables", "some", "due", "many", "number", "reel", "frame"]
theorem c_law : FnScope n_law ["script"] (defScope s_law) := ⟨rfl, rfl, rfl, by decide +kernel, rfl, by decide +kernel, by decide +kernel⟩
end K
set_option Elab.async false
set_option linter.all false
set_option maxRecDepth 100000
set_option maxHeartbeats 4000000
namespace K
open PySem PySem.Spec PyProof.Rows L2 DL
section
variable {P : Program} {w : World} {K : PySem.W.Frag} {mg : Str → Option Value} {base : Heap} {f : Addr} {fd : FuncData}
/-! ### ahead_of_all -/
def R_ahead (ds : List D) (d : D) : Prop := ∃ r : Reel, ds = [eReel r] ∧ d = eL [(r.nexts.length : Int)]
theorem ok_ahead (F : Fun K "ahead_of_all" "ahead_of_all" s_ahead_of_all f fd) (m_len : mg "len" = none) : FnOk P w K mg base CX0 1 f fd ["reel"] (spD K 1 R_ahead) := by
  refine fn_D F c_ahead_of_all (by decide) fun cdv A outer s H E ds d hl hr hR => ?_
  obtain ⟨r, rfl, rfl⟩ := hR
  refine ⟨_, _, .rt, xss_one (xs_ret (XE.is (xe_lst (xa_cons (xe_callB cr_lenT (by rfl) m_len b_len (xa_cons (xe_ixT (xe_var 0) xe_int rfl) xa_nil)) xa_nil) (by simp)) ?_))⟩
  simp
/-! ### states_within -/
def R_within (ds : List D) (d : D) : Prop := ∃ (ns : List (List Int)) (st : List Int) (g : Option Nat) (b : Bool), NsOk ns ∧ In ns.length st ∧ st.length ≤ 6 ∧ GapOk g ∧ ds = [eN ns, if b then eT st else eL st, eGap g] ∧ d = eL (withinM ns st g)
theorem ok_within (F : Fun K "states_within" "states_within" s_states_within f fd) (m_len : mg "len" = none) (m_sorted : mg "sorted" = none) (m_set : mg "set" = none) (m_range : mg "range" = none) : FnOk P w K mg base CX0 1 f fd ["nexts", "states", "gap"] (spD K 3 R_within) := by
  refine fn_D F c_states_within (by decide) fun cdv A outer s H E ds d hl hr hR => ?_
  obtain ⟨ns, st, g, b, hns, hst, hs6, hg, rfl, rfl⟩ := hR
  have hn : ∀ r ∈ ns, In ns.length r := fun r hr => (hns.row r hr).2
  have hn6 := hns.few
  have nd := c_states_within.nd
  let sl : List Int → List Sl := fun found => [.d (eN ns), .d (if b then eT st else eL st), .d (eGap g), .d (.int (g.getD ns.length : Nat)), .d (eL found), .u, .u, .u]
  have hin : ∀ f, In ns.length f → ∀ s ∈ f, ns[s.toNat]? = some (nx ns s) := fun f hf s hs => nx_at (hf s hs).1 (hf s hs).2
  refine ⟨_, sl (withinM ns st g), .rt, xss_cons (xs_set 3 nd (d := .int (g.getD ns.length : Nat)) (xe_ifp (xt_cmp br_isN (xe_var 2) xe_none) (fun h => ?_) (fun h => ?_))) (xss_cons (ρ1 := sl (sortI st)) ?_ (xss_cons (ρ1 := sl (withinM ns st g)) ?_ (xss_one (xs_ret (xe_var 4)))))⟩
  · cases g with
    | none => exact XE.is (xe_callB cr_lenT (by rfl) m_len b_len (xa_cons (xe_var 0) xa_nil)) (by simp)
    | some g => cases h
  · cases g with
    | none => cases h
    | some g => exact xe_var 2
  · cases b with
    | true => exact xs_set 4 nd (XO.xe (xo_callB cro_sortedT (by rfl) m_sorted b_sorted (xa_cons (xe_var 1) xa_nil)))
    | false => exact xs_set 4 nd (XO.xe (xo_callB cro_sorted (by rfl) m_sorted b_sorted (xa_cons (xe_var 1) xa_nil)))
  · have hg20 : g.getD ns.length ≤ 20 := by
      cases g with
      | none => simp; omega
      | some g => exact hg
    refine xs_for PassesOwn.never rfl (xi_range1 (by rfl) m_range (xe_var 3) (by omega) (by omega)) ?_
    have e : withinM ns st g = (List.range (g.getD ns.length)).foldl (fun f _ => grow ns f) (sortI st) := by
      unfold withinM
      generalize sortI st = f0
      generalize g.getD ns.length = n
      have : ∀ (l : List Nat) (f : List Int), iter (grow ns) l.length f = l.foldl (fun f _ => grow ns f) f := by
        intro l
        induction l with
        | nil => intro f; rfl
        | cons a l ih => intro f; exact ih _
      rw [← this, List.length_range]
    rw [e]
    refine lr_fold (P := fun f => In ns.length f ∧ f.length ≤ 6) (sl := sl) _ (sortI st) ⟨fun s hs => hst s ((sortI_perm st).mem_iff.mp hs), by rw [(sortI_perm st).length_eq]; exact hs6⟩ fun i _ f hf => ⟨⟨grow_in hn hf.1, Nat.le_trans (grow_len hf.1 hn) hn6⟩, _, _, xg_name 5 nd, ?_⟩
    have hsz : (f.flatMap (nx ns)).length ≤ 36 := by
      have := flat_len (f := nx ns) (k := 6) (l := f) fun x _ => hns.nx6 x
      omega
    refine xss_out (ρ1 := [.d (eN ns), .d (if b then eT st else eL st), .d (eGap g), .d (.int (g.getD ns.length : Nat)), .d (eL (grow ns f)), .d (.int (0 + (i : Nat))), .u, .u]) (xss_one ?_) ?_
    refine xs_set 4 nd (d := eL (grow ns f)) (ρ1 := [.d (eN ns), .d (if b then eT st else eL st), .d (eGap g), .d (.int (g.getD ns.length : Nat)), .d (eL f), .d (.int (0 + (i : Nat))), .u, .u]) (XO.xe ?_)
    refine xo_sortset (ns := f ++ f.flatMap (nx ns)) rfl ?_ ?_ (by rfl) m_sorted b_sorted (by rfl) m_set b_set
    · refine XE.is (xe_op (BRO.br (bro_cat (ys := (f.flatMap (nx ns)).map .int) ?_)) (xe_var 4) (XO.xe ?_)) (by simp)
      · simp only [List.length_map]; omega
      · refine xo_lc2p (own := [("state", 6), ("after", 7)]) (vs1 := [7]) rfl nd (blkOk_by (N := n_states_within) (sc := defScope s_states_within) (by decide +kernel)) (by decide) (xi_list (xe_var 4)) ?_ ?_
        · rw [List.map_flatMap]
          refine lc2_pure (ws := [6]) (g := fun s => [.d (eN ns), .d (if b then eT st else eL st), .d (eGap g), .d (.int (g.getD ns.length : Nat)), .d (eL f), .d (.int (0 + (i : Nat))), .d (.int s), .u]) (its := fun s => (nx ns s).map .int) (by decide) f (fun s hs s' H' C' cl fp => ⟨?_, ?_⟩) (fun s hs => ?_) (ρ4 := fun s => [.d (eN ns), .d (if b then eT st else eL st), .d (eGap g), .d (.int (g.getD ns.length : Nat)), .d (eL f), .d (.int (0 + (i : Nat))), .d (.int s), .u]) (fun s hs => rfl)
          · exact xg_name 6 nd
          · exact xi_tup (xe_ixT (xe_var 0) (xe_var 6) (atI_map (f := eT) (hf.1 s hs).1 (hin f hf.1 s hs)))
          · refine lc_map (ws := [7]) (g := fun t => [.d (eN ns), .d (if b then eT st else eL st), .d (eGap g), .d (.int (g.getD ns.length : Nat)), .d (eL f), .d (.int (0 + (i : Nat))), .d (.int s), .d (.int t)]) (by decide) _ (fun t ht s' H' C' cl fp => ⟨?_, ?_⟩) (fun t ht => rfl)
            · exact xg_name 7 nd
            · exact xe_var 7
        · simp only [List.length_map]; omega
    · simp only [List.length_append]; omega
    · exact .keep (.keep (.keep (.keep (.keep (.drop (.keep (.keep .nil)))))))
/-! ### leaps -/
def R_leaps (ds : List D) (d : D) : Prop := ∃ (r : Reel) (g : Option Nat), r.Ok ∧ GapOk g ∧ ds = [eReel r, eGap g] ∧ d = eRows (leapsM r g)
theorem ok_leaps (F : Fun K "leaps" "leaps" s_leaps f fd) {f1 : Addr} {fd1 : FuncData} (G1 : FnOk P w K mg base CX0 1 f1 fd1 ["nexts", "states", "gap"] (spD K 3 R_within)) (k1 : PySem.W.keepIn K (.ref f1) = true) (b1 : Binds K fd1 ["nexts", "states", "gap"] []) (m1 : mg "states_within" = some (.ref f1)) : FnOk P w K mg base CX0 2 f fd ["reel", "gap"] (spD K 2 R_leaps) := by
  refine fn_D F c_leaps (by decide) fun cdv A outer s H E ds d hl hr hR => ?_
  obtain ⟨r, g, hr', hg, rfl, rfl⟩ := hR
  have nd := c_leaps.nd
  apply rt
  refine xss_cons (ρ1 := [.d (eReel r), .d (eGap g), .d (eN r.nexts), .u, .u]) (xs_set 2 nd (xe_ixT (xe_var 0) xe_int rfl)) (xss_cons (ρ1 := [.d (eReel r), .d (eGap g), .d (eN r.nexts), .o (r.nexts.map fun row => eL (withinM r.nexts row g)), .u]) ?_ (xss_one ?_))
  · refine xs_setLc 3 (own := [("row", 4)]) (ρ0 := [.d (eReel r), .d (eGap g), .d (eN r.nexts), .u, .u]) (ρ' := [.d (eReel r), .d (eGap g), .d (eN r.nexts), .u, .u]) rfl nd (xi_tup (xe_var 2)) (blkOk_by (N := n_leaps) (sc := defScope s_leaps) (by decide +kernel)) ?_ (by simp only [List.length_map]; have := hr'.few; omega)
    refine lc_map (ws := [4]) (g := fun row => [.d (eReel r), .d (eGap g), .d (eN r.nexts), .u, .d (eT row)]) (by decide) _ (fun row hrow s' H' C' cl fp => ⟨?_, ?_⟩) (fun _ _ => rfl)
    · exact xg_name 4 nd
    · exact xe_call G1 hr (by rfl) m1 k1 b1 (xa_cons (xe_var 2) (xa_cons (xe_var 4) (xa_cons (xe_var 1) xa_nil))) ⟨r.nexts, row, g, true, hr'.ns, (hr'.ns.row row hrow).2, Nat.le_trans (lt_len (hr'.ns.row row hrow).1 (hr'.ns.row row hrow).2) hr'.few, hg, rfl, rfl⟩
  · refine xs_ret (XE.is (xe_op (BRO.br (bro_cat ?_)) (xe_varO 3) (xe_lst (xa_cons (xe_call (d := eL (withinM r.nexts [0] g)) G1 hr (by rfl) m1 k1 b1 (xa_cons (xe_var 2) (xa_cons (xe_lst (xa_cons xe_int xa_nil) (by simp)) (xa_cons (xe_var 1) xa_nil))) ?_) xa_nil) (by simp))) ?_)
    · simp only [List.length_map, List.length_cons, List.length_nil]; have := hr'.few; omega
    · exact ⟨r.nexts, [0], g, false, hr'.ns, fun s hs => by rw [List.mem_singleton.mp hs]; have := hr'.some; omega, by simp, hg, rfl, rfl⟩
    · unfold leapsM
      simp
end
end K
set_option Elab.async false
set_option linter.all false
set_option maxRecDepth 100000
set_option maxHeartbeats 4000000
namespace K
open PySem PySem.Spec PyProof.Rows L2 DL
section
variable {P : Program} {w : World} {K : PySem.W.Frag} {mg : Str → Option Value} {base : Heap} {f : Addr} {fd : FuncData}
/-! ### states_at_next -/
def R_next (ds : List D) (d : D) : Prop := ∃ (r : Reel) (rows : List (List Int)) (st : List Int) (p : Int), r.Ok ∧ RowsOk r.nexts.length rows ∧ StOk r.nexts.length st ∧ ds = [eReel r, eRows rows, eL st, .int p] ∧ d = eL (stepM r rows st p)
theorem pic_at {r : Reel} (h : r.Ok) {a : Int} (ha : 0 ≤ a ∧ a < r.nexts.length) : r.pics[a.toNat]? = some (picAt r.pics a) := by
  unfold picAt
  have : a.toNat < r.pics.length := by rw [h.pl]; omega
  rw [List.getElem?_eq_getElem this]
  rfl
theorem ok_next (F : Fun K "states_at_next" "states_at_next" s_states_at_next f fd) (m_sorted : mg "sorted" = none) : FnOk P w K mg base CX0 1 f fd ["reel", "rows", "states", "picture"] (spD K 4 R_next) := by
  refine fn_D F c_states_at_next (by decide) fun cdv A outer s H E ds d hl hr hR => ?_
  obtain ⟨r, rows, st, p, hr', hrow, hst, rfl, rfl⟩ := hR
  have nd := c_states_at_next.nd
  have n6 := hr'.few
  have st7 : st.length ≤ 7 := by have := lt_len hst.1 hst.2; omega
  have h6 : ∀ x, (nx rows x).length ≤ 6 := fun x => by
    rcases nx_mem (ns := rows) (s := x) with e | e
    · rw [e]; exact Nat.zero_le _
    · exact Nat.le_trans (lt_len (hrow.row _ e).1 (hrow.row _ e).2) n6
  refine rt (ρ' := [.d (eReel r), .d (eRows rows), .d (eL st), .d (.int p), .d (eT r.pics), .u, .u]) ?_
  refine xss_cons (ρ1 := [.d (eReel r), .d (eRows rows), .d (eL st), .d (.int p), .d (eT r.pics), .u, .u]) (xs_set 4 nd (xe_ixT (xe_var 0) xe_int rfl)) (xss_one (xs_ret (XO.xe ?_)))
  refine xo_sortsc2p (own := [("state", 5), ("after", 6)]) (vs1 := [6]) (ys := (st.flatMap (nx rows)).filter fun a => decide (picAt r.pics a = p)) rfl nd (blkOk_by (N := n_states_at_next) (sc := defScope s_states_at_next) (by decide +kernel)) (by decide) (xi_list (xe_var 2)) ?_ ?_ (by rfl) m_sorted b_sorted
  · rw [List.filter_flatMap, List.map_flatMap]
    refine lc2_pure (ws := [5]) (g := fun s => [.d (eReel r), .d (eRows rows), .d (eL st), .d (.int p), .d (eT r.pics), .d (.int s), .u]) (its := fun s => (nx rows s).map .int) (by decide) st (fun s hs s' H' C' cl fp => ⟨?_, ?_⟩) (fun s hs => ?_) (ρ4 := fun s => [.d (eReel r), .d (eRows rows), .d (eL st), .d (.int p), .d (eT r.pics), .d (.int s), .u]) (fun s hs => rfl)
    · exact xg_name 5 nd
    · exact xi_list (xe_ixL (xe_var 1) (xe_var 5) (atI_map (f := eL) (hst.2 s hs).1 (nx_at (hst.2 s hs).1 (by have := (hst.2 s hs).2; rw [hrow.len]; exact this))))
    · refine lc_pure (ws := [6]) (p := fun a => decide (picAt r.pics a = p)) (g := fun a => [.d (eReel r), .d (eRows rows), .d (eL st), .d (.int p), .d (eT r.pics), .d (.int s), .d (.int a)]) (by decide) _ (fun a ha s' H' C' cl fp => ⟨?_, ?_, fun _ => ?_⟩) (fun a ha => rfl)
      · exact xg_name 6 nd
      · have hin : 0 ≤ a ∧ a < r.nexts.length := by
          rcases nx_mem (ns := rows) (s := s) with e | e
          · rw [e] at ha; cases ha
          · exact (hrow.row _ e).2 a ha
        exact xts_one (xt_cmp br_eqI (xe_ixT (xe_var 4) (xe_var 6) (atI_map (f := PyData.int) hin.1 (pic_at hr' hin))) (xe_var 3))
      · exact xe_var 6
  · have h1 := flat_len (f := nx rows) (k := 6) (l := st) fun x _ => h6 x
    have h2 := List.length_filter_le (fun a => decide (picAt r.pics a = p)) (st.flatMap (nx rows))
    omega
/-! ### states_behind -/
def R_sbehind (ds : List D) (d : D) : Prop := ∃ (r : Reel) (rows : List (List Int)) (st film : List Int), r.Ok ∧ RowsOk r.nexts.length rows ∧ StOk r.nexts.length st ∧ ds = [eReel r, eRows rows, eL st, eT film] ∧ d = eL (behindM r rows st film)
theorem ok_sbehind (F : Fun K "states_behind" "states_behind" s_states_behind f fd) {f1 : Addr} {fd1 : FuncData} (G1 : FnOk P w K mg base CX0 1 f1 fd1 ["reel", "rows", "states", "picture"] (spD K 4 R_next)) (k1 : PySem.W.keepIn K (.ref f1) = true) (b1 : Binds K fd1 ["reel", "rows", "states", "picture"] []) (m1 : mg "states_at_next" = some (.ref f1)) :
    FnOk P w K mg base CX0 2 f fd ["reel", "rows", "states", "film"] (spD K 4 R_sbehind) := by
  refine fn_D F c_states_behind (by decide) fun cdv A outer s H E ds d hl hr hR => ?_
  obtain ⟨r, rows, st, film, hr', hrow, hst, rfl, rfl⟩ := hR
  have nd := c_states_behind.nd
  let sl : List Int → List Sl := fun x => [.d (eReel r), .d (eRows rows), .d (eL st), .d (eT film), .d (eL x), .u]
  refine rt (ρ' := sl (behindM r rows st film)) ?_
  refine xss_cons (ρ1 := sl st) (xs_set 4 nd (xe_var 2)) (xss_cons (ρ1 := sl (behindM r rows st film)) ?_ (xss_one (xs_ret (xe_var 4))))
  refine xs_for PassesOwn.never rfl (xi_tup (xe_var 3)) (lr_fold (P := StOk r.nexts.length) (sl := sl) film st hst fun p _ x hx => ⟨step_ok hrow, _, _, xg_name 5 nd, ?_⟩)
  refine xss_out (ρ1 := [.d (eReel r), .d (eRows rows), .d (eL st), .d (eT film), .d (eL (stepM r rows x p)), .d (.int p)]) (xss_one (xs_set 4 nd (xe_call G1 hr (by rfl) m1 k1 b1 (xa_cons (xe_var 0) (xa_cons (xe_var 1) (xa_cons (xe_var 4) (xa_cons (xe_var 5) xa_nil)))) ⟨r, rows, x, p, hr', hrow, hx, rfl, rfl⟩))) (.keep (.keep (.keep (.keep (.keep (.drop .nil))))))
/-! ### frames_shown -/
def ahead (r : Reel) : List Int := [(r.nexts.length : Int)]
theorem ahead_ok {r : Reel} (h : r.Ok) : StOk r.nexts.length (ahead r) := ⟨List.pairwise_singleton _ _, fun s hs => by
  rw [List.mem_singleton.mp hs]
  omega⟩
def R_shown (ds : List D) (d : D) : Prop := ∃ (r : Reel) (g : Option Nat) (film : List Int), r.Ok ∧ GapOk g ∧ ds = [eReel r, eGap g, eT film] ∧ d = .int (shownM r (leapsM r g) (ahead r) film : Nat)
def goF (r : Reel) (rows : List (List Int)) (i : Nat) (st : List Int) (p : Int) : Sum (List Int) D := if stepM r rows st p = [] then .inr (.int (i : Nat)) else .inl (stepM r rows st p)
theorem run_goF (r : Reel) (rows : List (List Int)) : ∀ (film : List Int) (i : Nat) (st : List Int), (∀ b, runGo (goF r rows) i film st = .inl b → shownM r rows st film = film.length) ∧ (∀ d, runGo (goF r rows) i film st = .inr d → d = .int ((i + shownM r rows st film : Nat) : Int))
  | [], i, st => ⟨fun b _ => rfl, fun d e => (by cases e)⟩
  | p :: ps, i, st => by
    obtain ⟨h1, h2⟩ := run_goF r rows ps (i + 1) (stepM r rows st p)
    unfold runGo goF shownM
    by_cases e : stepM r rows st p = []
    · rw [if_pos e, if_pos e]
      exact ⟨fun b q => (by cases q), fun d q => (by cases q; rfl)⟩
    · rw [if_neg e, if_neg e]
      refine ⟨fun b q => ?_, fun d q => ?_⟩
      · rw [h1 b q, List.length_cons]; omega
      · rw [h2 d q]
        congr 1
        omega
theorem ok_shown (F : Fun K "frames_shown" "frames_shown" s_frames_shown f fd) (m_len : mg "len" = none) (m_enum : mg "enumerate" = none)
    {f1 : Addr} {fd1 : FuncData} (G1 : FnOk P w K mg base CX0 2 f1 fd1 ["reel", "gap"] (spD K 2 R_leaps)) (k1 : PySem.W.keepIn K (.ref f1) = true) (b1 : Binds K fd1 ["reel", "gap"] []) (m1 : mg "leaps" = some (.ref f1))
    {f2 : Addr} {fd2 : FuncData} (G2 : FnOk P w K mg base CX0 1 f2 fd2 ["reel"] (spD K 1 R_ahead)) (k2 : PySem.W.keepIn K (.ref f2) = true) (b2 : Binds K fd2 ["reel"] []) (m2 : mg "ahead_of_all" = some (.ref f2))
    {f3 : Addr} {fd3 : FuncData} (G3 : FnOk P w K mg base CX0 1 f3 fd3 ["reel", "rows", "states", "picture"] (spD K 4 R_next)) (k3 : PySem.W.keepIn K (.ref f3) = true) (b3 : Binds K fd3 ["reel", "rows", "states", "picture"] []) (m3 : mg "states_at_next" = some (.ref f3)) :
    FnOk P w K mg base CX0 3 f fd ["reel", "gap", "film"] (spD K 3 R_shown) := by
  refine fn_D F c_frames_shown (by decide) fun cdv A outer s H E ds d hl hr hR => ?_
  obtain ⟨r, g, film, hr', hg, rfl, rfl⟩ := hR
  have nd := c_frames_shown.nd
  have hrow := leaps_ok hr' g
  let sl : List Int → List Sl := fun x => [.d (eReel r), .d (eGap g), .d (eT film), .d (eRows (leapsM r g)), .d (eL x), .u, .u]
  have go := fun (X : Cx) (tg : Expr) (body : List Stmt) => lr_run (X := X) (tg := tg) (body := body) (enc := fun i p => .tuple [.int (i : Nat), .int p]) (sl := sl) (P := StOk r.nexts.length) (go := goF r (leapsM r g)) film 0 (ahead r) (ahead_ok hr')
  have split : ∀ (X : Cx) (st1 st2 st3 : Stmt) (tg e : Expr) (body : List Stmt) (p : Pos) (st4 : Stmt), X.calm = true → PassesOwn (model X.prog X.w) X.A X.env X.xe → (∀ x, foldedSetIterable e X.env x = pure x) → XS X st1 (startS n_frames_shown.length (args [eReel r, eGap g, eT film])) (.nx [.d (eReel r), .d (eGap g), .d (eT film), .d (eRows (leapsM r g)), .u, .u, .u]) →
      XS X st2 [.d (eReel r), .d (eGap g), .d (eT film), .d (eRows (leapsM r g)), .u, .u, .u] (.nx (sl (ahead r))) → XI X tg e (sl (ahead r)) (encs (fun i p => .tuple [.int (i : Nat), .int p]) 0 film) (sl (ahead r)) →
      (∀ i, ∀ a ∈ film, ∀ b, StOk r.nexts.length b → (∀ b', goF r (leapsM r g) i b a = .inl b' → StOk r.nexts.length b' ∧ ∃ vs ρ1, XG X tg vs (.tuple [.int (i : Nat), .int a]) (sl b) ρ1 ∧ XSs X body ρ1 (.nx (sl b'))) ∧ (∀ d, goF r (leapsM r g) i b a = .inr d → ∃ vs ρ1 ρ2, XG X tg vs (.tuple [.int (i : Nat), .int a]) (sl b) ρ1 ∧ XSs X body ρ1 (.rt d ρ2))) →
      (∀ b, XS X st4 (sl b) (.rt (.int film.length) (sl b))) →
      ∃ o ρ1, DL.Fin (.int (shownM r (leapsM r g) (ahead r) film : Nat)) o ρ1 ∧ XSs X [st1, st2, .For tg e body [] p, st4] (startS n_frames_shown.length (args [eReel r, eGap g, eT film])) o := fun X st1 st2 st3 tg e body p st4 hc hp hf h1 h2 hi hb h4 => by
    obtain ⟨r1, r2⟩ := go X tg body hb
    cases q : runGo (goF r (leapsM r g)) 0 film (ahead r) with
    | inl b =>
      have e1 := (run_goF r (leapsM r g) film 0 (ahead r)).1 b q
      rw [e1]
      exact rt (xss_cons h1 (xss_cons h2 (xss_cons (xs_for hp hc hi (r1 b q).2 hf) (xss_one (h4 b)))))
    | inr d =>
      have e1 := (run_goF r (leapsM r g) film 0 (ahead r)).2 d q
      rw [Nat.zero_add] at e1
      obtain ⟨ρ, l⟩ := r2 d q
      subst e1
      exact rt (xss_cons h1 (xss_cons h2 (xss_stop (xs_for hp hc hi l hf))))
  refine split _ _ _ (.Pass ⟨0, 0, 0, 0⟩) _ _ _ _ _ rfl PassesOwn.never (fun _ => rfl) ?_ ?_ ?_ (fun i p _ x hx => ⟨fun b' e => ?_, fun d e => ?_⟩) fun b => ?_
  · exact xs_set 3 nd (xe_call G1 (hr.mono (by decide)) (by rfl) m1 k1 b1 (xa_cons (xe_var 0) (xa_cons (xe_var 1) xa_nil)) ⟨r, g, hr', hg, rfl, rfl⟩)
  · exact xs_set 4 nd (xe_call G2 (hr.mono (by decide)) (by rfl) m2 k2 b2 (xa_cons (xe_var 0) xa_nil) ⟨r, rfl, rfl⟩)
  · rw [← enumD_encs]
    exact xi_enumT (by rfl) m_enum (xe_var 2)
  · have hne : stepM r (leapsM r g) x p ≠ [] ∧ b' = stepM r (leapsM r g) x p := by
      unfold goF at e
      by_cases h : stepM r (leapsM r g) x p = []
      · rw [if_pos h] at e; cases e
      · rw [if_neg h] at e; cases e; exact ⟨h, rfl⟩
    obtain ⟨hne, rfl⟩ := hne
    refine ⟨step_ok hrow, _, [.d (eReel r), .d (eGap g), .d (eT film), .d (eRows (leapsM r g)), .d (eL x), .d (.int (i : Nat)), .d (.int p)], xg_tup rfl (xgs_cons (xg_name 5 nd) (xgs_cons (xg_name 6 nd) xgs_nil)), ?_⟩
    refine xss_out (ρ1 := [.d (eReel r), .d (eGap g), .d (eT film), .d (eRows (leapsM r g)), .d (eL (stepM r (leapsM r g) x p)), .d (.int (i : Nat)), .d (.int p)]) (xss_cons (ρ1 := [.d (eReel r), .d (eGap g), .d (eT film), .d (eRows (leapsM r g)), .d (eL (stepM r (leapsM r g) x p)), .d (.int (i : Nat)), .d (.int p)]) ?_ (xss_one ?_)) (.keep (.keep (.keep (.keep (.keep (.drop (.drop .nil)))))))
    · exact xs_set 4 nd (xe_call G3 (hr.mono (by decide)) (by rfl) m3 k3 b3 (xa_cons (xe_var 0) (xa_cons (xe_var 3) (xa_cons (xe_var 4) (xa_cons (xe_var 6) xa_nil)))) ⟨r, leapsM r g, x, p, hr', hrow, hx, rfl, rfl⟩)
    · refine xs_if (bb := false) (XT.is (xt_cmp br_eqI (xe_callB cr_lenL (by rfl) m_len b_len (xa_cons (xe_var 4) xa_nil)) xe_int) ?_) (fun h => by cases h) fun _ => xss_nil
      simp only [List.length_map, decide_eq_false_iff_not]
      intro z
      exact hne (List.eq_nil_of_length_eq_zero (by omega))
  · have hne : stepM r (leapsM r g) x p = [] ∧ d = .int (i : Nat) := by
      unfold goF at e
      by_cases h : stepM r (leapsM r g) x p = []
      · rw [if_pos h] at e; cases e; exact ⟨h, rfl⟩
      · rw [if_neg h] at e; cases e
    obtain ⟨hne, rfl⟩ := hne
    refine ⟨_, [.d (eReel r), .d (eGap g), .d (eT film), .d (eRows (leapsM r g)), .d (eL x), .d (.int (i : Nat)), .d (.int p)], [.d (eReel r), .d (eGap g), .d (eT film), .d (eRows (leapsM r g)), .d (eL []), .d (.int (i : Nat)), .d (.int p)], xg_tup rfl (xgs_cons (xg_name 5 nd) (xgs_cons (xg_name 6 nd) xgs_nil)), xss_cons (ρ1 := [.d (eReel r), .d (eGap g), .d (eT film), .d (eRows (leapsM r g)), .d (eL []), .d (.int (i : Nat)), .d (.int p)]) ?_ (xss_one ?_)⟩
    · exact xs_set 4 nd (xe_call G3 (hr.mono (by decide)) (by rfl) m3 k3 b3 (xa_cons (xe_var 0) (xa_cons (xe_var 3) (xa_cons (xe_var 4) (xa_cons (xe_var 6) xa_nil)))) ⟨r, leapsM r g, x, p, hr', hrow, hx, rfl, by rw [hne]⟩)
    · exact xs_if (bb := true) (xt_cmp br_eqI (xe_callB cr_lenL (by rfl) m_len b_len (xa_cons (xe_var 4) xa_nil)) xe_int) (fun _ => xss_one (xs_ret (xe_var 5))) (fun h => by cases h)
  · exact xs_ret (XE.is (xe_callB cr_lenT (by rfl) m_len b_len (xa_cons (xe_var 2) xa_nil)) (by simp))
end
end K
set_option Elab.async false
set_option linter.all false
set_option maxRecDepth 100000
set_option maxHeartbeats 4000000
namespace K
open PySem PySem.Spec PyProof.Rows L2 DL
section
variable {P : Program} {w : World} {K : PySem.W.Frag} {mg : Str → Option Value} {base : Heap} {f : Addr} {fd : FuncData}
theorem kt_ii : kitB "int" "int" = some true := by decide +kernel
theorem kt_ib : kitB "int" "bool" = some false := by decide +kernel
theorem kt_tt : kitB "tuple" "tuple" = some true := by decide +kernel
/-! ### is_integer -/
def R_isint (ds : List D) (d : D) : Prop := ∃ v lo hi : Int, ds = [.int v, .int lo, .int hi] ∧ d = .bool (decide (lo ≤ v) && decide (v ≤ hi))
theorem ok_isint (F : Fun K "is_integer" "is_integer" s_is_integer f fd) (m_isi : mg "isinstance" = none) (m_int : mg "int" = none) (m_bool : mg "bool" = none) : FnOk P w K mg base CX0 1 f fd ["value", "low", "high"] (spD K 3 R_isint) := by
  refine fn_D F c_is_integer (by decide) fun cdv A outer s H E ds d hl hr hR => ?_
  obtain ⟨v, lo, hi, rfl, rfl⟩ := hR
  refine rt (ρ' := [.d (.int v), .d (.int lo), .d (.int hi)]) (xss_one (xs_ret (XE.is (xe_andp (b1 := true) (b2 := true && (decide (lo ≤ v) && decide (v ≤ hi))) ?_ fun _ => xe_andp (b1 := true) (b2 := decide (lo ≤ v) && decide (v ≤ hi)) ?_ fun _ => xe_one ?_) (by simp))))
  · exact xe_isi (x := .int v) (xe_var 0) kt_ii (by rfl) m_isi b_isinstance (by rfl) m_int b_int
  · exact xe_not (bb := false) (xe_isi (x := .int v) (xe_var 0) kt_ib (by rfl) m_isi b_isinstance (by rfl) m_bool b_bool)
  · exact xe_chain br_le br_le (xe_var 1) (xe_var 0) (xe_var 2)
/-! ### is_picture -/
def R_ispic (ds : List D) (d : D) : Prop := ∃ v : Int, 0 ≤ v ∧ v ≤ 99 ∧ ds = [.int v] ∧ d = .bool true
theorem ok_ispic {tk : Tok} (F : Fun K "is_picture" "is_picture" s_is_picture f fd) {f1 : Addr} {fd1 : FuncData} (G1 : FnOk P w K mg base CX0 1 f1 fd1 ["value", "low", "high"] (spD K 3 R_isint)) (k1 : PySem.W.keepIn K (.ref f1) = true) (b1 : Binds K fd1 ["value", "low", "high"] []) (m1 : mg "is_integer" = some (.ref f1)) (m_last : mg "LAST_PICTURE" = some (.int 99 tk)) :
    FnOk P w K mg base CX0 2 f fd ["value"] (spD K 1 R_ispic) := by
  refine fn_D F c_is_picture (by decide) fun cdv A outer s H E ds d hl hr hR => ?_
  obtain ⟨v, h0, h1, rfl, rfl⟩ := hR
  refine rt (ρ' := [.d (.int v)]) (xss_one (xs_ret (xe_call G1 hr (by rfl) m1 k1 b1 (xa_cons (xe_var 0) (xa_cons xe_int (xa_cons (xe_globI (by rfl) m_last) xa_nil))) ⟨v, 0, 99, rfl, ?_⟩)))
  rw [decide_eq_true h0, decide_eq_true h1]
  rfl
/-! ### is_film -/
def FilmOk (film : List Int) : Prop := film.length ≤ 1000 ∧ ∀ p ∈ film, 0 ≤ p ∧ p ≤ 99
def R_isfilm (ds : List D) (d : D) : Prop := ∃ film : List Int, FilmOk film ∧ ds = [eT film] ∧ d = .bool true
theorem ok_isfilm {tk : Tok} (F : Fun K "is_film" "is_film" s_is_film f fd) (m_isi : mg "isinstance" = none) (m_tuple : mg "tuple" = none) (m_len : mg "len" = none) (m_all : mg "all" = none) (m_most : mg "MOST_FRAMES" = some (.int 1000 tk)) {f1 : Addr} {fd1 : FuncData} (G1 : FnOk P w K mg base CX0 2 f1 fd1 ["value"] (spD K 1 R_ispic)) (k1 : PySem.W.keepIn K (.ref f1) = true) (b1 : Binds K fd1 ["value"] []) (m1 : mg "is_picture" = some (.ref f1)) :
    FnOk P w K mg base CX0 3 f fd ["value"] (spD K 1 R_isfilm) := by
  refine fn_D F c_is_film (by decide) fun cdv A outer s H E ds d hl hr hR => ?_
  obtain ⟨film, hf, rfl, rfl⟩ := hR
  have nd := c_is_film.nd
  refine rt (ρ' := [.d (eT film), .u]) (xss_cons (ρ1 := [.d (eT film), .u]) (xs_if (bb := false) (XT.is (xt_orp (b1 := false) (b2 := decide ((1000 : Int) < film.length)) ?_ fun _ => ?_) ?_) (fun h => by cases h) fun _ => xss_nil) (xss_one (xs_ret (XE.is (xe_callB (crd_all (bs := film.map fun _ => true) rfl) (by rfl) m_all b_all (xa_cons (XO.xe ?_) xa_nil)) ?_))))
  · exact xt_not (bb := true) (xt_val (xe_isi (x := eT film) (xe_var 0) kt_tt (by rfl) m_isi b_isinstance (by rfl) m_tuple b_tuple))
  · refine XT.is (xt_cmp br_gt (xe_callB cr_lenT (by rfl) m_len b_len (xa_cons (xe_var 0) xa_nil)) (xe_globI (by rfl) m_most)) ?_
    simp
  · rw [Bool.false_or, decide_eq_false_iff_not]
    have := hf.1
    omega
  · refine xo_lcp (own := [("picture", 1)]) rfl nd (blkOk_by (N := n_is_film) (sc := defScope s_is_film) (by decide +kernel)) (xi_tup (xe_var 0)) ?_ (by simp only [List.length_map]; have := hf.1; omega)
    rw [List.map_map]
    refine lc_map (ws := [1]) (g := fun p => [.d (eT film), .d (.int p)]) (by decide) _ (fun p hp s' H' C' cl fp => ⟨xg_name 1 nd, ?_⟩) (fun _ _ => rfl)
    exact xe_call G1 hr (by rfl) m1 k1 b1 (xa_cons (xe_var 1) xa_nil) ⟨p, (hf.2 p hp).1, (hf.2 p hp).2, rfl, rfl⟩
  · simp
/-! ### is_ascending -/
def R_isasc (ds : List D) (d : D) : Prop := ∃ row : List Int, row.length < 64 ∧ row.Pairwise (· < ·) ∧ ds = [eT row] ∧ d = .bool true
theorem ok_isasc (F : Fun K "is_ascending" "is_ascending" s_is_ascending f fd) (m_list : mg "list" = none) (m_sorted : mg "sorted" = none) (m_set : mg "set" = none) :
    FnOk P w K mg base CX0 1 f fd ["value"] (spD K 1 R_isasc) := by
  refine fn_D F c_is_ascending (by decide) fun cdv A outer s H E ds d hl hr hR => ?_
  obtain ⟨row, hn, hp, rfl, rfl⟩ := hR
  refine rt (ρ' := [.d (eT row)]) (xss_one (xs_ret (XE.is (xe_cmp (br_eqL (ns := row) (ms := setI row) (hr.units)) (XO.xe (xo_callTy cro_listT (by rfl) m_list b_list (xa_cons (xe_var 0) xa_nil))) (XO.xe ?_)) ?_)))
  · exact xo_sortsetT rfl (xe_var 0) hn (by rfl) m_sorted b_sorted (by rfl) m_set b_set
  · rw [setI_of_lt hp]
    simp
/-! ### is_next_row -/
def R_isrow (ds : List D) (d : D) : Prop := ∃ (row : List Int) (n : Nat), n ≤ 6 ∧ row ≠ [] ∧ row.Pairwise (· < ·) ∧ In n row ∧ ds = [eT row, .int n] ∧ d = .bool true
theorem ok_isrow (F : Fun K "is_next_row" "is_next_row" s_is_next_row f fd) (m_isi : mg "isinstance" = none) (m_tuple : mg "tuple" = none) (m_len : mg "len" = none) (m_all : mg "all" = none) {f1 : Addr} {fd1 : FuncData} (G1 : FnOk P w K mg base CX0 1 f1 fd1 ["value", "low", "high"] (spD K 3 R_isint)) (k1 : PySem.W.keepIn K (.ref f1) = true) (b1 : Binds K fd1 ["value", "low", "high"] []) (m1 : mg "is_integer" = some (.ref f1))
    {f2 : Addr} {fd2 : FuncData} (G2 : FnOk P w K mg base CX0 1 f2 fd2 ["value"] (spD K 1 R_isasc)) (k2 : PySem.W.keepIn K (.ref f2) = true) (b2 : Binds K fd2 ["value"] []) (m2 : mg "is_ascending" = some (.ref f2)) :
    FnOk P w K mg base CX0 2 f fd ["value", "many"] (spD K 2 R_isrow) := by
  refine fn_D F c_is_next_row (by decide) fun cdv A outer s H E ds d hl hr hR => ?_
  obtain ⟨row, n, hn, hne, hp, hin, rfl, rfl⟩ := hR
  have nd := c_is_next_row.nd
  have hlen := lt_len hp hin
  have h0 : row.length ≠ 0 := fun e => hne (List.eq_nil_of_length_eq_zero e)
  refine rt (ρ' := [.d (eT row), .d (.int n), .u]) (xss_cons (ρ1 := [.d (eT row), .d (.int n), .u]) (xs_if (bb := false) (XT.is (xt_orp (b1 := false) (b2 := decide ((row.length : Int) = 0)) ?_ fun _ => ?_) ?_) (fun h => by cases h) fun _ => xss_nil) (xss_one (xs_ret (XE.is (xe_andp (b1 := (row.map fun _ => true).all id) (b2 := true) (xe_callB (crd_all (bs := row.map fun _ => true) rfl) (by rfl) m_all b_all (xa_cons (XO.xe ?_) xa_nil)) fun _ => xe_one (xe_call G2 hr (by rfl) m2 k2 b2 (xa_cons (xe_var 0) xa_nil) ⟨row, by omega, hp, rfl, rfl⟩)) ?_))))
  · exact xt_not (bb := true) (xt_val (xe_isi (x := eT row) (xe_var 0) kt_tt (by rfl) m_isi b_isinstance (by rfl) m_tuple b_tuple))
  · refine XT.is (xt_cmp br_eqI (xe_callB cr_lenT (by rfl) m_len b_len (xa_cons (xe_var 0) xa_nil)) xe_int) ?_
    simp
  · rw [Bool.false_or, decide_eq_false_iff_not]
    omega
  · refine xo_lcp (own := [("state", 2)]) rfl nd (blkOk_by (N := n_is_next_row) (sc := defScope s_is_next_row) (by decide +kernel)) (xi_tup (xe_var 0)) ?_ (by simp only [List.length_map]; omega)
    rw [List.map_map]
    refine lc_map (ws := [2]) (g := fun p => [.d (eT row), .d (.int n), .d (.int p)]) (by decide) _ (fun p hp s' H' C' cl fp => ⟨xg_name 2 nd, ?_⟩) (fun _ _ => rfl)
    refine xe_call G1 hr (by rfl) m1 k1 b1 (xa_cons (xe_var 2) (xa_cons xe_int (xa_cons (xe_op br_sub (xe_var 1) xe_int) xa_nil))) ⟨p, 0, n - 1, rfl, ?_⟩
    have := hin p hp
    rw [decide_eq_true this.1, decide_eq_true (by omega)]
    rfl
  · simp
end
end K
set_option Elab.async false
set_option linter.all false
set_option maxRecDepth 100000
set_option maxHeartbeats 4000000
namespace K
open PySem PySem.Spec PyProof.Rows L2 DL
section
variable {P : Program} {w : World} {K : PySem.W.Frag} {mg : Str → Option Value} {base : Heap} {f : Addr} {fd : FuncData}
/-! ### are_nexts -/
def R_isnexts (ds : List D) (d : D) : Prop := ∃ r : Reel, r.Ok ∧ ds = [eN r.nexts] ∧ d = .bool true
theorem ok_isnexts {tk : Tok} (F : Fun K "are_nexts" "are_nexts" s_are_nexts f fd) (m_isi : mg "isinstance" = none) (m_tuple : mg "tuple" = none) (m_len : mg "len" = none) (m_all : mg "all" = none) (m_most : mg "MOST_STATES" = some (.int 6 tk)) {f1 : Addr} {fd1 : FuncData} (G1 : FnOk P w K mg base CX0 2 f1 fd1 ["value", "many"] (spD K 2 R_isrow)) (k1 : PySem.W.keepIn K (.ref f1) = true) (b1 : Binds K fd1 ["value", "many"] []) (m1 : mg "is_next_row" = some (.ref f1)) :
    FnOk P w K mg base CX0 3 f fd ["value"] (spD K 1 R_isnexts) := by
  refine fn_D F c_are_nexts (by decide) fun cdv A outer s H E ds d hl hr hR => ?_
  obtain ⟨r, hr', rfl, rfl⟩ := hR
  have nd := c_are_nexts.nd
  have h1 := hr'.some
  have h6 := hr'.few
  refine rt (ρ' := [.d (eN r.nexts), .u]) (xss_cons (ρ1 := [.d (eN r.nexts), .u]) (xs_if (bb := false) (XT.is (xt_orp (b1 := false) (b2 := !(decide ((1 : Int) ≤ r.nexts.length) && decide ((r.nexts.length : Int) ≤ 6))) ?_ fun _ => xt_not ?_) ?_) (fun h => by cases h) fun _ => xss_nil) (xss_one (xs_ret (XE.is (xe_callB (crd_all (bs := r.nexts.map fun _ => true) rfl) (by rfl) m_all b_all (xa_cons (XO.xe ?_) xa_nil)) ?_))))
  · exact xt_not (bb := true) (xt_val (xe_isi (x := eN r.nexts) (xe_var 0) kt_tt (by rfl) m_isi b_isinstance (by rfl) m_tuple b_tuple))
  · refine XT.is (xt_chain br_le br_le xe_int (xe_callB cr_lenT (by rfl) m_len b_len (xa_cons (xe_var 0) xa_nil)) (xe_globI (by rfl) m_most)) ?_
    simp
  · rw [Bool.false_or, decide_eq_true (by omega), decide_eq_true (by omega)]
    rfl
  · refine xo_lcp (own := [("row", 1)]) rfl nd (blkOk_by (N := n_are_nexts) (sc := defScope s_are_nexts) (by decide +kernel)) (xi_tup (xe_var 0)) ?_ (by simp only [List.length_map]; omega)
    rw [List.map_map]
    refine lc_map (ws := [1]) (g := fun p => [.d (eN r.nexts), .d (eT p)]) (by decide) _ (fun p hp s' H' C' cl fp => ⟨xg_name 1 nd, ?_⟩) (fun _ _ => rfl)
    exact xe_call G1 hr (by rfl) m1 k1 b1 (xa_cons (xe_var 1) (xa_cons (XE.is (xe_callB cr_lenT (by rfl) m_len b_len (xa_cons (xe_var 0) xa_nil)) (by rw [List.length_map])) xa_nil)) ⟨p, r.nexts.length, h6, (hr'.row p hp).1, (hr'.row p hp).2.1, (hr'.row p hp).2.2, rfl, rfl⟩
  · simp
/-! ### wrong_part -/
theorem _root_.DL.Reel.Ok.film {r : Reel} (h : r.Ok) : FilmOk r.pics := ⟨by rw [h.pl]; have := h.few; omega, h.pic⟩
def R_wrong (ds : List D) (d : D) : Prop := ∃ r : Reel, r.Ok ∧ ds = [eReel r] ∧ d = .none
theorem ok_wrong (F : Fun K "wrong_part" "wrong_part" s_wrong_part f fd) (m_isi : mg "isinstance" = none) (m_tuple : mg "tuple" = none) (m_len : mg "len" = none) {f1 : Addr} {fd1 : FuncData} (G1 : FnOk P w K mg base CX0 3 f1 fd1 ["value"] (spD K 1 R_isnexts)) (k1 : PySem.W.keepIn K (.ref f1) = true) (b1 : Binds K fd1 ["value"] []) (m1 : mg "are_nexts" = some (.ref f1))
    {f2 : Addr} {fd2 : FuncData} (G2 : FnOk P w K mg base CX0 3 f2 fd2 ["value"] (spD K 1 R_isfilm)) (k2 : PySem.W.keepIn K (.ref f2) = true) (b2 : Binds K fd2 ["value"] []) (m2 : mg "is_film" = some (.ref f2)) :
    FnOk P w K mg base CX0 4 f fd ["value"] (spD K 1 R_wrong) := by
  refine fn_D F c_wrong_part (by decide) fun cdv A outer s H E ds d hl hr hR => ?_
  obtain ⟨r, hr', rfl, rfl⟩ := hR
  have nd := c_wrong_part.nd
  let sl : List Sl := [.d (eReel r), .d (eN r.nexts), .d (eT r.pics)]
  refine rt (ρ' := sl) (xss_cons (ρ1 := [.d (eReel r), .u, .u]) (xs_if (bb := false) (XT.is (xt_orp (b1 := false) (b2 := false) ?_ fun _ => ?_) rfl) (fun h => by cases h) fun _ => xss_nil) (xss_cons (ρ1 := sl) ?_ (xss_cons (ρ1 := sl) (xs_if (bb := false) (xt_not (bb := true) (xt_val ?_)) (fun h => by cases h) fun _ => xss_nil) (xss_cons (ρ1 := sl) (xs_if (bb := false) (XT.is (xt_orp (b1 := false) (b2 := false) (xt_not (bb := true) (xt_val ?_)) fun _ => ?_) rfl) (fun h => by cases h) fun _ => xss_nil) (xss_one (xs_ret xe_none))))))
  · exact xt_not (bb := true) (xt_val (xe_isi (x := eReel r) (xe_var 0) kt_tt (by rfl) m_isi b_isinstance (by rfl) m_tuple b_tuple))
  · exact XT.is (xt_cmp br_neI (xe_callB cr_lenT (by rfl) m_len b_len (xa_cons (xe_var 0) xa_nil)) xe_int) rfl
  · exact xs_asg (xe_var 0) (xg_tup rfl (xgs_cons (xg_name 1 nd) (xgs_cons (xg_name 2 nd) xgs_nil)))
  · exact xe_call G1 (hr.mono (by decide)) (by rfl) m1 k1 b1 (xa_cons (xe_var 1) xa_nil) ⟨r, hr', rfl, rfl⟩
  · exact xe_call G2 (hr.mono (by decide)) (by rfl) m2 k2 b2 (xa_cons (xe_var 2) xa_nil) ⟨r.pics, hr'.film, rfl, rfl⟩
  · refine XT.is (xt_cmp br_neI (xe_callB cr_lenT (by rfl) m_len b_len (xa_cons (xe_var 2) xa_nil)) (xe_callB cr_lenT (by rfl) m_len b_len (xa_cons (xe_var 1) xa_nil))) ?_
    simp [hr'.pl]
/-! ### check_reel -/
theorem ok_ckreel (F : Fun K "check_reel" "check_reel" s_check_reel f fd) {f1 : Addr} {fd1 : FuncData} (G1 : FnOk P w K mg base CX0 4 f1 fd1 ["value"] (spD K 1 R_wrong)) (k1 : PySem.W.keepIn K (.ref f1) = true) (b1 : Binds K fd1 ["value"] []) (m1 : mg "wrong_part" = some (.ref f1)) :
    FnOk P w K mg base CX0 5 f fd ["reel"] (spD K 1 R_wrong) := by
  refine fn_D F c_check_reel (by decide) fun cdv A outer s H E ds d hl hr hR => ?_
  obtain ⟨r, hr', rfl, rfl⟩ := hR
  have nd := c_check_reel.nd
  refine ends (ρ' := [.d (eReel r), .d .none]) (xss_cons (ρ1 := [.d (eReel r), .d .none]) (xs_set 1 nd (xe_call G1 (hr.mono (by decide)) (by rfl) m1 k1 b1 (xa_cons (xe_var 0) xa_nil) ⟨r, hr', rfl, rfl⟩)) (xss_one (xs_if (bb := false) (xt_cmp br_notN (xe_var 1) xe_none) (fun h => by cases h) fun _ => xss_nil)))
/-! ### check_reels -/
theorem lr_each {X : Cx} {tg : Expr} {body : List Stmt} {α : Type} {enc : Nat → α → D} {ρ : List Sl} : ∀ (as : List α) (i : Nat), (∀ i, ∀ a ∈ as, ∃ vs ρ1, XG X tg vs (enc i a) ρ ρ1 ∧ XSs X body ρ1 (.nx ρ)) → LR X tg body (encs enc i as) ρ (.nx ρ)
  | [], _, _ => .nil
  | a :: as, i, h => by
    obtain ⟨vs, ρ1, g, x⟩ := h i a List.mem_cons_self
    exact .next g x (lr_each as (i + 1) fun j b hb => h j b (List.mem_cons_of_mem _ hb))
abbrev eReels (rs : List Reel) : D := .tuple (rs.map eReel)
def ReelsOk (rs : List Reel) : Prop := 2 ≤ rs.length ∧ rs.length ≤ 6 ∧ ∀ r ∈ rs, r.Ok
def R_ckreels (ds : List D) (d : D) : Prop := ∃ rs : List Reel, ReelsOk rs ∧ ds = [eReels rs] ∧ d = .none
theorem ok_ckreels {tk1 tk2 : Tok} (F : Fun K "check_reels" "check_reels" s_check_reels f fd) (m_isi : mg "isinstance" = none) (m_tuple : mg "tuple" = none) (m_len : mg "len" = none) (m_enum : mg "enumerate" = none) (m_few : mg "FEWEST_REELS" = some (.int 2 tk1)) (m_most : mg "MOST_REELS" = some (.int 6 tk2)) {f1 : Addr} {fd1 : FuncData} (G1 : FnOk P w K mg base CX0 4 f1 fd1 ["value"] (spD K 1 R_wrong)) (k1 : PySem.W.keepIn K (.ref f1) = true) (b1 : Binds K fd1 ["value"] []) (m1 : mg "wrong_part" = some (.ref f1)) :
    FnOk P w K mg base CX0 5 f fd ["reels"] (spD K 1 R_ckreels) := by
  refine fn_D F c_check_reels (by decide) fun cdv A outer s H E ds d hl hr hR => ?_
  obtain ⟨rs, hrs, rfl, rfl⟩ := hR
  have nd := c_check_reels.nd
  obtain ⟨h2, h6, hrs⟩ := hrs
  refine ends (ρ' := [.d (eReels rs), .u, .u]) (xss_cons (ρ1 := [.d (eReels rs), .u, .u]) (xs_if (bb := false) (XT.is (xt_orp (b1 := false) (b2 := !(decide ((2 : Int) ≤ rs.length) && decide ((rs.length : Int) ≤ 6))) ?_ fun _ => xt_not ?_) ?_) (fun h => by cases h) fun _ => xss_nil) (xss_one ?_))
  · exact xt_not (bb := true) (xt_val (xe_isi (x := eReels rs) (xe_var 0) kt_tt (by rfl) m_isi b_isinstance (by rfl) m_tuple b_tuple))
  · refine XT.is (xt_chain br_le br_le (xe_globI (by rfl) m_few) (xe_callB cr_lenT (by rfl) m_len b_len (xa_cons (xe_var 0) xa_nil)) (xe_globI (by rfl) m_most)) ?_
    simp
  · rw [Bool.false_or, decide_eq_true (by omega), decide_eq_true (by omega)]
    rfl
  · refine xs_for PassesOwn.never rfl (ρ1 := [.d (eReels rs), .u, .u]) (ds := enumD (rs.map eReel)) (xi_enumT (by rfl) m_enum (xe_var 0)) ?_
    rw [enumD_encs]
    refine lr_each rs 0 fun i r hr1 => ⟨[1, 2], [.d (eReels rs), .d (.int (i : Nat)), .d (eReel r)], xg_tup rfl (xgs_cons (xg_name 1 nd) (xgs_cons (xg_name 2 nd) xgs_nil)), xss_out (ρ1 := [.d (eReels rs), .d (.int (i : Nat)), .d (eReel r)]) (xss_one (xs_if (bb := false) (xt_cmp (x := .none) br_notN (xe_call G1 (hr.mono (by decide)) (by rfl) m1 k1 b1 (xa_cons (xe_var 2) xa_nil) ⟨r, hrs r hr1, rfl, rfl⟩) xe_none) (fun h => by cases h) fun _ => xss_nil)) (.keep (.drop (.drop .nil)))⟩
/-! ### check_gap -/
def R_ckgap (ds : List D) (d : D) : Prop := ∃ g : Option Nat, GapOk g ∧ ds = [eGap g] ∧ d = .none
theorem ok_ckgap {tk : Tok} (F : Fun K "check_gap" "check_gap" s_check_gap f fd) (m_most : mg "MOST_GAP" = some (.int 20 tk)) {f1 : Addr} {fd1 : FuncData} (G1 : FnOk P w K mg base CX0 1 f1 fd1 ["value", "low", "high"] (spD K 3 R_isint)) (k1 : PySem.W.keepIn K (.ref f1) = true) (b1 : Binds K fd1 ["value", "low", "high"] []) (m1 : mg "is_integer" = some (.ref f1)) :
    FnOk P w K mg base CX0 2 f fd ["gap"] (spD K 1 R_ckgap) := by
  refine fn_D F c_check_gap (by decide) fun cdv A outer s H E ds d hl hr hR => ?_
  obtain ⟨g, hg, rfl, rfl⟩ := hR
  have nd := c_check_gap.nd
  cases g with
  | none => exact ends (ρ' := [.d (eGap none)]) (xss_one (xs_if (bb := false) (XT.is (xt_andp (b1 := false) (b2 := false) (xt_cmp br_notN (xe_var 0) xe_none) fun h => by cases h) rfl) (fun h => by cases h) fun _ => xss_nil))
  | some g =>
    have hg : g ≤ 20 := hg
    refine ends (ρ' := [.d (eGap (some g))]) (xss_one (xs_if (bb := false) (XT.is (xt_andp (b1 := true) (b2 := false) (xt_cmp br_notN (xe_var 0) xe_none) fun h => xt_not (bb := true) (xt_val ?_)) rfl) (fun h => by cases h) fun _ => xss_nil))
    refine xe_call G1 (hr.mono (by decide)) (by rfl) m1 k1 b1 (xa_cons (x := .int (g : Nat)) (xe_var 0) (xa_cons xe_int (xa_cons (xe_globI (by rfl) m_most) xa_nil))) ⟨(g : Nat), 0, 20, rfl, ?_⟩
    rw [decide_eq_true (by omega), decide_eq_true (by omega)]
    rfl
/-! ### check_film -/
def R_ckfilm (ds : List D) (d : D) : Prop := ∃ film : List Int, FilmOk film ∧ ds = [eT film] ∧ d = .none
theorem ok_ckfilm (F : Fun K "check_film" "check_film" s_check_film f fd) {f1 : Addr} {fd1 : FuncData} (G1 : FnOk P w K mg base CX0 3 f1 fd1 ["value"] (spD K 1 R_isfilm)) (k1 : PySem.W.keepIn K (.ref f1) = true) (b1 : Binds K fd1 ["value"] []) (m1 : mg "is_film" = some (.ref f1)) :
    FnOk P w K mg base CX0 4 f fd ["film"] (spD K 1 R_ckfilm) := by
  refine fn_D F c_check_film (by decide) fun cdv A outer s H E ds d hl hr hR => ?_
  obtain ⟨film, hf, rfl, rfl⟩ := hR
  have nd := c_check_film.nd
  exact ends (ρ' := [.d (eT film)]) (xss_one (xs_if (bb := false) (xt_not (bb := true) (xt_val (xe_call G1 (hr.mono (by decide)) (by rfl) m1 k1 b1 (xa_cons (xe_var 0) xa_nil) ⟨film, hf, rfl, rfl⟩))) (fun h => by cases h) fun _ => xss_nil))
end
end K
set_option Elab.async false
set_option linter.all false
set_option maxRecDepth 100000
set_option maxHeartbeats 4000000
namespace K
open PySem PySem.Spec PyProof.Rows L2 DL
section
variable {P : Program} {w : World} {K : PySem.W.Frag} {mg : Str → Option Value} {base : Heap} {f : Addr} {fd : FuncData}
/-- how many first frames a reel shows -/
def sh (r : Reel) (g : Option Nat) (film : List Int) : Nat := shownM r (leapsM r g) (ahead r) film
theorem R_shown.mk {r : Reel} {g : Option Nat} {film : List Int} (h : r.Ok) (hg : GapOk g) : R_shown [eReel r, eGap g, eT film] (.int (sh r g film : Nat)) := ⟨r, g, film, h, hg, rfl, rfl⟩
theorem atI_m1 {α : Type} {xs : List α} {x : α} (h : xs.getLast? = some x) : atI xs (-1) = some x := by
  have hn : xs.length ≠ 0 := fun e => by
    rw [List.eq_nil_of_length_eq_zero e] at h
    cases h
  unfold atI ixN
  rw [if_neg (by decide), if_pos (by omega)]
  show xs[(-1 + (xs.length : Int)).toNat]? = some x
  rw [List.getLast?_eq_getElem?] at h
  rw [← h]
  congr 1
  omega
theorem atI_m2 {α : Type} {xs : List α} {x : α} (hn : 2 ≤ xs.length) (h : xs[xs.length - 2]? = some x) : atI xs (-2) = some x := by
  unfold atI ixN
  rw [if_neg (by decide), if_pos (by omega)]
  show xs[(-2 + (xs.length : Int)).toNat]? = some x
  rw [← h]
  congr 1
  omega
theorem encs_zip {α : Type} {enc : Nat → α → D} : ∀ (as : List α) (i : Nat), encs enc i as = (as.zipIdx i).map fun p => enc p.2 p.1
  | [], _ => rfl
  | a :: as, i => by
    rw [List.zipIdx_cons, List.map_cons, ← encs_zip as (i + 1)]
    rfl
/-! ### can_show -/
def R_can (ds : List D) (d : D) : Prop := ∃ (r : Reel) (g : Option Nat) (film : List Int), r.Ok ∧ GapOk g ∧ FilmOk film ∧ ds = [eReel r, eGap g, eT film] ∧ d = .bool (decide (sh r g film = film.length))
theorem ok_can (F : Fun K "can_show" "can_show" s_can_show f fd) (m_len : mg "len" = none)
    {f1 : Addr} {fd1 : FuncData} (G1 : FnOk P w K mg base CX0 5 f1 fd1 ["reel"] (spD K 1 R_wrong)) (k1 : PySem.W.keepIn K (.ref f1) = true) (b1 : Binds K fd1 ["reel"] []) (m1 : mg "check_reel" = some (.ref f1))
    {f2 : Addr} {fd2 : FuncData} (G2 : FnOk P w K mg base CX0 2 f2 fd2 ["gap"] (spD K 1 R_ckgap)) (k2 : PySem.W.keepIn K (.ref f2) = true) (b2 : Binds K fd2 ["gap"] []) (m2 : mg "check_gap" = some (.ref f2))
    {f3 : Addr} {fd3 : FuncData} (G3 : FnOk P w K mg base CX0 4 f3 fd3 ["film"] (spD K 1 R_ckfilm)) (k3 : PySem.W.keepIn K (.ref f3) = true) (b3 : Binds K fd3 ["film"] []) (m3 : mg "check_film" = some (.ref f3))
    {f4 : Addr} {fd4 : FuncData} (G4 : FnOk P w K mg base CX0 3 f4 fd4 ["reel", "gap", "film"] (spD K 3 R_shown)) (k4 : PySem.W.keepIn K (.ref f4) = true) (b4 : Binds K fd4 ["reel", "gap", "film"] []) (m4 : mg "frames_shown" = some (.ref f4)) :
    FnOk P w K mg base CX0 6 f fd ["reel", "gap", "film"] (spD K 3 R_can) := by
  refine fn_D F c_can_show (by decide) fun cdv A outer s H E ds d hl hr hR => ?_
  obtain ⟨r, g, film, hr', hg, hf, rfl, rfl⟩ := hR
  have nd := c_can_show.nd
  let sl : List Sl := [.d (eReel r), .d (eGap g), .d (eT film)]
  refine rt (ρ' := sl) (xss_cons (ρ1 := sl) (xs_expr (xe_call G1 hr (by rfl) m1 k1 b1 (xa_cons (xe_var 0) xa_nil) ⟨r, hr', rfl, rfl⟩)) (xss_cons (ρ1 := sl) (xs_expr (xe_call G2 (hr.mono (by decide)) (by rfl) m2 k2 b2 (xa_cons (xe_var 1) xa_nil) ⟨g, hg, rfl, rfl⟩)) (xss_cons (ρ1 := sl) (xs_expr (xe_call G3 (hr.mono (by decide)) (by rfl) m3 k3 b3 (xa_cons (xe_var 2) xa_nil) ⟨film, hf, rfl, rfl⟩)) (xss_one (xs_ret (XE.is (xe_cmp br_eqI (xe_call G4 (hr.mono (by decide)) (by rfl) m4 k4 b4 (xa_cons (xe_var 0) (xa_cons (xe_var 1) (xa_cons (xe_var 2) xa_nil))) (R_shown.mk hr' hg)) (xe_callB cr_lenT (by rfl) m_len b_len (xa_cons (xe_var 2) xa_nil))) ?_))))))
  rw [List.length_map]
  congr 1
  exact decide_eq_decide.mpr (by omega)
/-! ### behind -/
def behindA (r : Reel) (g : Option Nat) (film : List Int) : List Int := if film = [] then withinM r.nexts [0] g else behindM r (leapsM r g) (ahead r) film
def R_behind (ds : List D) (d : D) : Prop := ∃ (r : Reel) (g : Option Nat) (film : List Int), r.Ok ∧ GapOk g ∧ FilmOk film ∧ ds = [eReel r, eGap g, eT film] ∧ d = eT (behindA r g film)
theorem ok_behind (F : Fun K "behind" "behind" s_behind f fd) (m_len : mg "len" = none) (m_tuple : mg "tuple" = none)
    {f1 : Addr} {fd1 : FuncData} (G1 : FnOk P w K mg base CX0 5 f1 fd1 ["reel"] (spD K 1 R_wrong)) (k1 : PySem.W.keepIn K (.ref f1) = true) (b1 : Binds K fd1 ["reel"] []) (m1 : mg "check_reel" = some (.ref f1))
    {f2 : Addr} {fd2 : FuncData} (G2 : FnOk P w K mg base CX0 2 f2 fd2 ["gap"] (spD K 1 R_ckgap)) (k2 : PySem.W.keepIn K (.ref f2) = true) (b2 : Binds K fd2 ["gap"] []) (m2 : mg "check_gap" = some (.ref f2))
    {f3 : Addr} {fd3 : FuncData} (G3 : FnOk P w K mg base CX0 4 f3 fd3 ["film"] (spD K 1 R_ckfilm)) (k3 : PySem.W.keepIn K (.ref f3) = true) (b3 : Binds K fd3 ["film"] []) (m3 : mg "check_film" = some (.ref f3))
    {f4 : Addr} {fd4 : FuncData} (G4 : FnOk P w K mg base CX0 2 f4 fd4 ["reel", "gap"] (spD K 2 R_leaps)) (k4 : PySem.W.keepIn K (.ref f4) = true) (b4 : Binds K fd4 ["reel", "gap"] []) (m4 : mg "leaps" = some (.ref f4))
    {f5 : Addr} {fd5 : FuncData} (G5 : FnOk P w K mg base CX0 2 f5 fd5 ["reel", "rows", "states", "film"] (spD K 4 R_sbehind)) (k5 : PySem.W.keepIn K (.ref f5) = true) (b5 : Binds K fd5 ["reel", "rows", "states", "film"] []) (m5 : mg "states_behind" = some (.ref f5))
    {f6 : Addr} {fd6 : FuncData} (G6 : FnOk P w K mg base CX0 1 f6 fd6 ["reel"] (spD K 1 R_ahead)) (k6 : PySem.W.keepIn K (.ref f6) = true) (b6 : Binds K fd6 ["reel"] []) (m6 : mg "ahead_of_all" = some (.ref f6)) :
    FnOk P w K mg base CX0 6 f fd ["reel", "gap", "film"] (spD K 3 R_behind) := by
  refine fn_D F c_behind (by decide) fun cdv A outer s H E ds d hl hr hR => ?_
  obtain ⟨r, g, film, hr', hg, hf, rfl, rfl⟩ := hR
  have nd := c_behind.nd
  let sl : List Sl := [.d (eReel r), .d (eGap g), .d (eT film), .u]
  let s2 : List Sl := [.d (eReel r), .d (eGap g), .d (eT film), .d (eRows (leapsM r g))]
  refine rt (ρ' := s2) (xss_cons (ρ1 := sl) (xs_expr (xe_call G1 hr (by rfl) m1 k1 b1 (xa_cons (xe_var 0) xa_nil) ⟨r, hr', rfl, rfl⟩)) (xss_cons (ρ1 := sl) (xs_expr (xe_call G2 (hr.mono (by decide)) (by rfl) m2 k2 b2 (xa_cons (xe_var 1) xa_nil) ⟨g, hg, rfl, rfl⟩)) (xss_cons (ρ1 := sl) (xs_expr (xe_call G3 (hr.mono (by decide)) (by rfl) m3 k3 b3 (xa_cons (xe_var 2) xa_nil) ⟨film, hf, rfl, rfl⟩)) (xss_cons (ρ1 := s2) (xs_set 3 nd (xe_call G4 (hr.mono (by decide)) (by rfl) m4 k4 b4 (xa_cons (xe_var 0) (xa_cons (xe_var 1) xa_nil)) ⟨r, g, hr', hg, rfl, rfl⟩)) ?_))))
  by_cases hfe : film = []
  · refine xss_stop (xs_if (bb := true) (XT.is (xt_cmp br_eqI (xe_callB cr_lenT (by rfl) m_len b_len (xa_cons (xe_var 2) xa_nil)) xe_int) ?_) (fun _ => xss_one (xs_ret (XE.is (xe_callTy cr_tupleL (by rfl) m_tuple b_tuple (xa_cons (x := eL (withinM r.nexts [0] g)) (xe_ixL (xe_var 3) (xe_un xe_int) (atI_m1 ?_)) xa_nil)) ?_))) (fun h => by cases h))
    · rw [hfe]; rfl
    · unfold leapsM
      simp
    · unfold behindA
      rw [if_pos hfe]
  · refine xss_cons (ρ1 := s2) (xs_if (bb := false) (XT.is (xt_cmp br_eqI (xe_callB cr_lenT (by rfl) m_len b_len (xa_cons (xe_var 2) xa_nil)) xe_int) ?_) (fun h => by cases h) fun _ => xss_nil) (xss_one (xs_ret (XE.is (xe_callTy cr_tupleL (by rfl) m_tuple b_tuple (xa_cons (xe_call G5 (hr.mono (by decide)) (by rfl) m5 k5 b5 (xa_cons (xe_var 0) (xa_cons (xe_var 3) (xa_cons (xe_call G6 (hr.mono (by decide)) (by rfl) m6 k6 b6 (xa_cons (xe_var 0) xa_nil) ⟨r, rfl, rfl⟩) (xa_cons (xe_var 2) xa_nil)))) ⟨r, leapsM r g, ahead r, film, hr', leaps_ok hr' g, ahead_ok hr', rfl, rfl⟩) xa_nil)) ?_)))
    · rw [List.length_map]
      refine decide_eq_false fun e => hfe (List.eq_nil_of_length_eq_zero ?_)
      omega
    · unfold behindA
      rw [if_neg hfe]
/-! ### could_be -/
def canS (r : Reel) (g : Option Nat) (film : List Int) : Bool := decide (sh r g film = film.length)
def couldA (rs : List Reel) (g : Option Nat) (film : List Int) : List Int := ((rs.zipIdx).filter fun p => canS p.1 g film).map fun p => ((p.2 : Nat) : Int)
def R_could (ds : List D) (d : D) : Prop := ∃ (rs : List Reel) (g : Option Nat) (film : List Int), ReelsOk rs ∧ GapOk g ∧ FilmOk film ∧ ds = [eReels rs, eGap g, eT film] ∧ d = eT (couldA rs g film)
theorem zip_mem {α : Type} {as : List α} {p : α × Nat} (h : p ∈ as.zipIdx) : p.1 ∈ as := by
  obtain ⟨i, hi, e⟩ := List.mem_iff_getElem.mp h
  rw [List.getElem_zipIdx] at e
  rw [← e]
  exact List.getElem_mem _
theorem ok_could (F : Fun K "could_be" "could_be" s_could_be f fd) (m_len : mg "len" = none) (m_tuple : mg "tuple" = none) (m_enum : mg "enumerate" = none)
    {f1 : Addr} {fd1 : FuncData} (G1 : FnOk P w K mg base CX0 5 f1 fd1 ["reels"] (spD K 1 R_ckreels)) (k1 : PySem.W.keepIn K (.ref f1) = true) (b1 : Binds K fd1 ["reels"] []) (m1 : mg "check_reels" = some (.ref f1))
    {f2 : Addr} {fd2 : FuncData} (G2 : FnOk P w K mg base CX0 2 f2 fd2 ["gap"] (spD K 1 R_ckgap)) (k2 : PySem.W.keepIn K (.ref f2) = true) (b2 : Binds K fd2 ["gap"] []) (m2 : mg "check_gap" = some (.ref f2))
    {f3 : Addr} {fd3 : FuncData} (G3 : FnOk P w K mg base CX0 4 f3 fd3 ["film"] (spD K 1 R_ckfilm)) (k3 : PySem.W.keepIn K (.ref f3) = true) (b3 : Binds K fd3 ["film"] []) (m3 : mg "check_film" = some (.ref f3))
    {f4 : Addr} {fd4 : FuncData} (G4 : FnOk P w K mg base CX0 3 f4 fd4 ["reel", "gap", "film"] (spD K 3 R_shown)) (k4 : PySem.W.keepIn K (.ref f4) = true) (b4 : Binds K fd4 ["reel", "gap", "film"] []) (m4 : mg "frames_shown" = some (.ref f4)) :
    FnOk P w K mg base CX0 6 f fd ["reels", "gap", "film"] (spD K 3 R_could) := by
  refine fn_D F c_could_be (by decide) fun cdv A outer s H E ds d hl hr hR => ?_
  obtain ⟨rs, g, film, hrs, hg, hf, rfl, rfl⟩ := hR
  have nd := c_could_be.nd
  let sl : List Sl := [.d (eReels rs), .d (eGap g), .d (eT film), .u, .u]
  refine rt (ρ' := sl) (xss_cons (ρ1 := sl) (xs_expr (xe_call G1 hr (by rfl) m1 k1 b1 (xa_cons (xe_var 0) xa_nil) ⟨rs, hrs, rfl, rfl⟩)) (xss_cons (ρ1 := sl) (xs_expr (xe_call G2 (hr.mono (by decide)) (by rfl) m2 k2 b2 (xa_cons (xe_var 1) xa_nil) ⟨g, hg, rfl, rfl⟩)) (xss_cons (ρ1 := sl) (xs_expr (xe_call G3 (hr.mono (by decide)) (by rfl) m3 k3 b3 (xa_cons (xe_var 2) xa_nil) ⟨film, hf, rfl, rfl⟩)) (xss_one (xs_ret (xe_callTy cr_tupleL (by rfl) m_tuple b_tuple (xa_cons (XO.xe ?_) xa_nil)))))))
  refine xo_lcp (own := [("number", 3), ("reel", 4)]) (xs := enumD (rs.map eReel)) rfl nd (blkOk_by (N := n_could_be) (sc := defScope s_could_be) (by decide +kernel)) (xi_enumT (by rfl) m_enum (xe_var 0)) ?_ ?_
  · rw [enumD_encs, encs_zip]
    unfold couldA
    rw [List.map_map]
    refine lc_pure (ws := [3, 4]) (p := fun p : Reel × Nat => canS p.1 g film) (g := fun p => [.d (eReels rs), .d (eGap g), .d (eT film), .d (.int (p.2 : Nat)), .d (eReel p.1)]) (by decide) _ (fun p hp s' H' C' cl fp => ⟨?_, ?_, fun _ => ?_⟩) (fun p hp => rfl)
    · exact xg_tup rfl (xgs_cons (xg_name 3 nd) (xgs_cons (xg_name 4 nd) xgs_nil))
    · refine xts_one (XT.is (xt_cmp br_eqI (xe_call G4 (hr.mono (by decide)) (by rfl) m4 k4 b4 (xa_cons (xe_var 4) (xa_cons (xe_var 1) (xa_cons (xe_var 2) xa_nil))) (R_shown.mk (hrs.2.2 _ (zip_mem hp)) hg)) (xe_callB cr_lenT (by rfl) m_len b_len (xa_cons (xe_var 2) xa_nil))) ?_)
      rw [List.length_map]
      exact decide_eq_decide.mpr (by omega)
    · exact xe_var 3
  · have h1 : (couldA rs g film).length ≤ rs.length := by
      unfold couldA
      rw [List.length_map]
      refine Nat.le_trans (List.length_filter_le _ _) ?_
      rw [List.length_zipIdx]
      exact Nat.le_refl _
    have := hrs.2.1
    rw [List.length_map]
    omega
/-! ### told_at -/
def secondM (rs : List Reel) (g : Option Nat) (film : List Int) : Int := ((sortI (rs.map fun r => ((sh r g film : Nat) : Int)))[rs.length - 2]?).getD 0
def toldA (rs : List Reel) (g : Option Nat) (film : List Int) : D := if secondM rs g film = film.length then .none else .int (secondM rs g film + 1)
def R_told (ds : List D) (d : D) : Prop := ∃ (rs : List Reel) (g : Option Nat) (film : List Int), ReelsOk rs ∧ GapOk g ∧ FilmOk film ∧ ds = [eReels rs, eGap g, eT film] ∧ d = toldA rs g film
theorem ok_told (F : Fun K "told_at" "told_at" s_told_at f fd) (m_len : mg "len" = none) (m_sorted : mg "sorted" = none)
    {f1 : Addr} {fd1 : FuncData} (G1 : FnOk P w K mg base CX0 5 f1 fd1 ["reels"] (spD K 1 R_ckreels)) (k1 : PySem.W.keepIn K (.ref f1) = true) (b1 : Binds K fd1 ["reels"] []) (m1 : mg "check_reels" = some (.ref f1))
    {f2 : Addr} {fd2 : FuncData} (G2 : FnOk P w K mg base CX0 2 f2 fd2 ["gap"] (spD K 1 R_ckgap)) (k2 : PySem.W.keepIn K (.ref f2) = true) (b2 : Binds K fd2 ["gap"] []) (m2 : mg "check_gap" = some (.ref f2))
    {f3 : Addr} {fd3 : FuncData} (G3 : FnOk P w K mg base CX0 4 f3 fd3 ["film"] (spD K 1 R_ckfilm)) (k3 : PySem.W.keepIn K (.ref f3) = true) (b3 : Binds K fd3 ["film"] []) (m3 : mg "check_film" = some (.ref f3))
    {f4 : Addr} {fd4 : FuncData} (G4 : FnOk P w K mg base CX0 3 f4 fd4 ["reel", "gap", "film"] (spD K 3 R_shown)) (k4 : PySem.W.keepIn K (.ref f4) = true) (b4 : Binds K fd4 ["reel", "gap", "film"] []) (m4 : mg "frames_shown" = some (.ref f4)) :
    FnOk P w K mg base CX0 6 f fd ["reels", "gap", "film"] (spD K 3 R_told) := by
  refine fn_D F c_told_at (by decide) fun cdv A outer s H E ds d hl hr hR => ?_
  obtain ⟨rs, g, film, hrs, hg, hf, rfl, rfl⟩ := hR
  have nd := c_told_at.nd
  let sl : List Sl := [.d (eReels rs), .d (eGap g), .d (eT film), .u, .u]
  let s2 : List Sl := [.d (eReels rs), .d (eGap g), .d (eT film), .d (.int (secondM rs g film)), .u]
  refine rt (ρ' := s2) (xss_cons (ρ1 := sl) (xs_expr (xe_call G1 hr (by rfl) m1 k1 b1 (xa_cons (xe_var 0) xa_nil) ⟨rs, hrs, rfl, rfl⟩)) (xss_cons (ρ1 := sl) (xs_expr (xe_call G2 (hr.mono (by decide)) (by rfl) m2 k2 b2 (xa_cons (xe_var 1) xa_nil) ⟨g, hg, rfl, rfl⟩)) (xss_cons (ρ1 := sl) (xs_expr (xe_call G3 (hr.mono (by decide)) (by rfl) m3 k3 b3 (xa_cons (xe_var 2) xa_nil) ⟨film, hf, rfl, rfl⟩)) (xss_cons (ρ1 := s2) (xs_set 3 nd (d := .int (secondM rs g film)) (ρ1 := sl) (xe_ixL (xs := (sortI (rs.map fun r => ((sh r g film : Nat) : Int))).map .int) (XO.xe (xo_callB cro_sorted (by rfl) m_sorted b_sorted (xa_cons (XO.xe ?_) xa_nil))) (xe_un xe_int) ?_)) (xss_one (xs_ret (xe_ifp (bb := decide (secondM rs g film = film.length)) (XT.is (xt_cmp br_eqI (xe_var 3) (xe_callB cr_lenT (by rfl) m_len b_len (xa_cons (xe_var 2) xa_nil))) ?_) (fun h => ?_) fun h => ?_)))))))
  · refine xo_lcp (own := [("reel", 4)]) rfl nd (blkOk_by (N := n_told_at) (sc := defScope s_told_at) (by decide +kernel)) (xi_tup (xe_var 0)) ?_ ?_
    · rw [List.map_map]
      refine lc_map (ws := [4]) (g := fun p => [.d (eReels rs), .d (eGap g), .d (eT film), .u, .d (eReel p)]) (by decide) _ (fun p hp s' H' C' cl fp => ⟨xg_name 4 nd, ?_⟩) (fun _ _ => rfl)
      exact xe_call G4 (hr.mono (by decide)) (by rfl) m4 k4 b4 (xa_cons (xe_var 4) (xa_cons (xe_var 1) (xa_cons (xe_var 2) xa_nil))) (R_shown.mk (hrs.2.2 _ hp) hg)
    · simp only [List.length_map]
      have := hrs.2.1
      omega
  · have e : (sortI (rs.map fun r => ((sh r g film : Nat) : Int))).length = rs.length := by rw [(sortI_perm _).length_eq, List.length_map]
    have h2 := hrs.1
    refine atI_m2 (by rw [List.length_map, e]; exact h2) ?_
    rw [List.length_map, e, List.getElem?_map]
    unfold secondM
    rw [List.getElem?_eq_getElem (by omega)]
    rfl
  · rw [List.length_map]
  · unfold toldA
    rw [if_pos (of_decide_eq_true h)]
    exact xe_none
  · unfold toldA
    rw [if_neg (of_decide_eq_false h)]
    exact xe_op br_add (xe_var 3) xe_int
end
end K
set_option Elab.async false
set_option linter.all false
set_option maxRecDepth 100000
set_option maxHeartbeats 4000000
namespace K
open PySem PySem.Spec PyProof.Rows L2 DL
/-- what a script is read with: the script, how many were taken, a seed, a rest -/
structure Row where
  scr : List Int
  p : Int
  s : Int
  n : Int
def eRow (r : Row) : List D := [scrD (r.scr.map .int), .int r.p, .int r.s, .int r.n]
def cellM (r : Row) : Int := (r.scr[r.p.toNat]?).getD 0
def takenV (r : Row) (m : Int) : Int :=
  if 0 < r.n then r.n % m else if (r.scr.length : Int) < r.p + 1 then (r.s * 48271 + 11) % 2147483647 / 7 % m else cellM r % m
def takenR (r : Row) (m : Int) : Row :=
  if 0 < r.n then { r with n := r.n / m } else if (r.scr.length : Int) < r.p + 1 then { r with p := r.p + 1, s := (r.s * 48271 + 11) % 2147483647 }
  else if 1000000000000000000 ≤ cellM r then { r with p := r.p + 1, s := (r.s * 48271 + cellM r + 11) % 2147483647, n := cellM r / m } else { r with p := r.p + 1, s := (r.s * 48271 + cellM r + 11) % 2147483647 }
theorem taken_lt {r : Row} {m : Int} (h : 0 < m) : 0 ≤ takenV r m ∧ takenV r m < m := by
  unfold takenV
  split
  · exact ⟨Int.emod_nonneg _ (by omega), Int.emod_lt_of_pos _ h⟩
  · split
    · exact ⟨Int.emod_nonneg _ (by omega), Int.emod_lt_of_pos _ h⟩
    · exact ⟨Int.emod_nonneg _ (by omega), Int.emod_lt_of_pos _ h⟩
theorem takenR_p {r : Row} {m : Int} (h : 0 ≤ r.p) : 0 ≤ (takenR r m).p := by
  unfold takenR
  split
  · exact h
  · split
    · show 0 ≤ r.p + 1
      omega
    · split <;> (show 0 ≤ r.p + 1; omega)
theorem takenR_scr (r : Row) (m : Int) : (takenR r m).scr = r.scr := by
  unfold takenR
  split
  · rfl
  · split
    · rfl
    · split <;> rfl
theorem xs_setP {X : Cx} {e b : Expr} {ρ ρ' : List Sl} {x : D} {i : Int} {pos : Pos} (n m : Nat) (xs : List D) {nm : Str} {s : Sl} {p1 p2 : Pos} (h : XE X e ρ x ρ) (hb : XE X b ρ (.int i) ρ) (hr : ρ[n]? = some s) (ho : s.own = some xs) (hm : ixN xs.length i = some m) (hq : ρ.set n (s.put (xs.set m x)) = ρ')
    (hN : X.N[n]? = some nm := by rfl) (hv : Vis X.env.scope nm := by first | exact Or.inl rfl | exact Or.inr (Or.inl rfl) | exact Or.inr (Or.inr rfl))
    (hd : (nm == ("__debug__" : Str)) = false := by decide) (hcd : (nm == ("__classdict__" : Str)) = false := by decide)
    (hg : ∀ (ta tb : TE), PE X (.Name nm p1) ta → PE X b tb → PG X (.Subscript (.Name nm p1) b p2) (gSub ta tb rSetL) := by exact fun _ _ h1 h2 => pg_sub h1 h2 set_list)
    (hs : swapsWithSole [.Subscript (.Name nm p1) b p2] e pos.line X.env = pure false := by rfl) (hw : swappedStores [.Subscript (.Name nm p1) b p2] e X.env = pure none := by rfl)
    (h1 : (assignEach [.Subscript (.Name nm p1) b p2] X.env).map (·.2) = [assign (.Subscript (.Name nm p1) b p2) X.env] := by rfl) : XS X (.Assign [.Subscript (.Name nm p1) b p2] e pos) ρ (.nx ρ') := by
  rw [← hq]
  exact xs_setitem n m h hb hr ho hm ⟨s, xs, hr, ho⟩ hN hv hd hcd hg hs hw h1
section
variable {P : Program} {w : World} {K : PySem.W.Frag} {mg : Str → Option Value} {base : Heap} {f : Addr} {fd : FuncData}
/-! ### _law_taken -/
def R_taken (rs ds : List D) (d : D) (rs' : List D) : Prop := ∃ (r : Row) (m : Int), 0 < m ∧ m < 1073741824 ∧ 0 ≤ r.p ∧ rs = eRow r ∧ ds = [.int m] ∧ d = .int (takenV r m) ∧ rs' = eRow (takenR r m)
theorem R_taken.mk {r : Row} {m : Int} (h0 : 0 < m) (h1 : m < 1073741824) (hp : 0 ≤ r.p) : R_taken (eRow r) [.int m] (.int (takenV r m)) (eRow (takenR r m)) := ⟨r, m, h0, h1, hp, rfl, rfl, rfl, rfl⟩
theorem ok_taken (F : Fun K "_law_taken" "_law_taken" s_law_taken f fd) (m_int : mg "int" = none) (m_len : mg "len" = none) : FnOk P w K mg base CX0 1 f fd ["row", "many"] (spB K 2 R_taken) := by
  refine fn_B F c_law_taken (by decide) fun cdv A outer s H E a rs ds d rs' hl hr hR => ?_
  obtain ⟨r, m, h0, h1, hp, rfl, rfl, rfl, rfl⟩ := hR
  have nd := c_law_taken.nd
  let sl : Row → List Sl := fun r => [.b a (eRow r), .d (.int m), .u, .u]
  by_cases hn : 0 < r.n
  · have e1 : takenV r m = r.n % m := by unfold takenV; rw [if_pos hn]
    have e2 : takenR r m = { r with n := r.n / m } := by unfold takenR; rw [if_pos hn]
    rw [e1, e2]
    refine ⟨_, [.b a (eRow { r with n := r.n / m }), .d (.int m), .d (.int (r.n % m)), .u], .rt, rfl, xss_stop (xs_if (bb := true) (XT.is (xt_cmp br_gt (xe_ixO 0 (x := .int r.n) (xs := eRow r) xe_int rfl rfl rfl) xe_int) (decide_eq_true hn)) (fun _ => ?_) fun h => by cases h)⟩
    refine xss_cons (ρ1 := [.b a (eRow r), .d (.int m), .d (.int (r.n % m)), .u]) (xs_set 2 nd (xe_op (br_mod h0) (xe_callTy cr_intI (by rfl) m_int b_int (xa_cons (xe_ixO 0 (x := .int r.n) (xs := eRow r) xe_int rfl rfl rfl) xa_nil)) (xe_var 1))) (xss_cons (ρ1 := [.b a (eRow { r with n := r.n / m }), .d (.int m), .d (.int (r.n % m)), .u]) ?_ (xss_one (xs_ret (xe_var 2))))
    exact xs_setP 0 3 (eRow r) (xe_op (br_fdiv ⟨h0, h1⟩) (xe_ixO 0 (x := .int r.n) (xs := eRow r) xe_int rfl rfl rfl) (xe_var 1)) xe_int rfl rfl rfl rfl
  · have nx : XS (fX P w K mg base n_law_taken "_law_taken" s_law_taken f cdv A outer s H E) ((defBody s_law_taken)[0]) (sl r) (.nx (sl r)) := xs_if (bb := false) (XT.is (xt_cmp br_gt (xe_ixO 0 (x := .int r.n) (xs := eRow r) xe_int rfl rfl rfl) xe_int) (decide_eq_false hn)) (fun h => by cases h) fun _ => xss_nil
    let r1 : Row := { r with p := r.p + 1 }
    have up : XS (fX P w K mg base n_law_taken "_law_taken" s_law_taken f cdv A outer s H E) ((defBody s_law_taken)[1]) (sl r) (.nx (sl r1)) := xs_setP 0 1 (eRow r) (xe_op br_add (xe_ixO 0 (x := .int r.p) (xs := eRow r) xe_int rfl rfl rfl) xe_int) xe_int rfl rfl rfl rfl
    have hlen : (r.scr.map PyData.int).length = r.scr.length := List.length_map _
    have hmul : ∀ x : Int, CMul x 48271 := fun x => .inr (by decide)
    by_cases hp1 : (r.scr.length : Int) < r.p + 1
    · have e1 : takenV r m = (r.s * 48271 + 11) % 2147483647 / 7 % m := by unfold takenV; rw [if_neg hn, if_pos hp1]
      have e2 : takenR r m = { r1 with s := (r.s * 48271 + 11) % 2147483647 } := by unfold takenR; rw [if_neg hn, if_pos hp1]
      rw [e1, e2]
      refine ⟨_, sl { r1 with s := (r.s * 48271 + 11) % 2147483647 }, .rt, rfl, xss_cons (ρ1 := sl r) nx (xss_cons (ρ1 := sl r1) up (xss_stop (xs_if (bb := true) (XT.is (xt_cmp br_gt (xe_ixO 0 (x := .int r1.p) (xs := eRow r1) xe_int rfl rfl rfl) (xe_callB cr_lenS (by rfl) m_len b_len (xa_cons (xe_ixO 0 (x := scrD (r.scr.map .int)) (xs := eRow r1) xe_int rfl rfl rfl) xa_nil))) ?_) (fun _ => ?_) fun h => by cases h)))⟩
      · rw [hlen]
        exact decide_eq_true hp1
      · refine xss_cons (ρ1 := sl { r1 with s := (r.s * 48271 + 11) % 2147483647 }) (xs_setP 0 2 (eRow r1) (xe_op (br_mod (by decide)) (xe_callTy cr_intI (by rfl) m_int b_int (xa_cons (xe_op br_add (xe_op (br_mul (hmul r.s)) (xe_ixO 0 (x := .int r.s) (xs := eRow r1) xe_int rfl rfl rfl) xe_int) xe_int) xa_nil)) xe_int) xe_int rfl rfl rfl rfl) (xss_one (xs_ret ?_))
        exact xe_op (br_mod h0) (xe_callTy cr_intI (by rfl) m_int b_int (xa_cons (xe_op (br_fdiv ⟨by decide, by decide⟩) (xe_ixO 0 (x := .int ((r.s * 48271 + 11) % 2147483647)) (xs := eRow { r1 with s := (r.s * 48271 + 11) % 2147483647 }) xe_int rfl rfl rfl) xe_int) xa_nil)) (xe_var 1)
    · let r2 : Row := { r1 with s := (r.s * 48271 + cellM r + 11) % 2147483647 }
      let sc : Row → List Sl := fun r' => [.b a (eRow r'), .d (.int m), .u, .d (.int (cellM r))]
      have hat : atI (r.scr.map PyData.int) r.p = some (.int (cellM r)) := by
        refine atI_map (f := PyData.int) hp ?_
        unfold cellM
        have : r.p.toNat < r.scr.length := by omega
        rw [List.getElem?_eq_getElem this]
        rfl
      have e1 : takenV r m = cellM r % m := by unfold takenV; rw [if_neg hn, if_neg hp1]
      rw [e1]
      refine ⟨_, sc (takenR r m), .rt, rfl, xss_cons (ρ1 := sl r) nx (xss_cons (ρ1 := sl r1) up (xss_cons (ρ1 := sl r1) (xs_if (bb := false) (XT.is (xt_cmp br_gt (xe_ixO 0 (x := .int r1.p) (xs := eRow r1) xe_int rfl rfl rfl) (xe_callB cr_lenS (by rfl) m_len b_len (xa_cons (xe_ixO 0 (x := scrD (r.scr.map .int)) (xs := eRow r1) xe_int rfl rfl rfl) xa_nil))) ?_) (fun h => by cases h) fun _ => xss_nil) (xss_cons (ρ1 := sc r1) (xs_set 3 nd (ρ1 := sl r1) (d := .int (cellM r)) ?_) (xss_cons (ρ1 := sc r2) ?_ (xss_cons (ρ1 := sc (takenR r m)) ?_ (xss_one (xs_ret ?_)))))))⟩
      · rw [hlen]
        exact decide_eq_false hp1
      · refine xe_ixS (i := r.p) (xe_ixO 0 (x := scrD (r.scr.map .int)) (xs := eRow r1) xe_int rfl rfl rfl) (XE.is (xe_op br_sub (xe_ixO 0 (x := .int r1.p) (xs := eRow r1) xe_int rfl rfl rfl) xe_int) ?_) hat
        show PyData.int (r.p + 1 - 1) = _
        rw [Int.add_sub_cancel]
      · exact xs_setP 0 2 (eRow r1) (xe_op (br_mod (by decide)) (xe_callTy cr_intI (by rfl) m_int b_int (xa_cons (xe_op br_add (xe_op br_add (xe_op (br_mul (hmul r.s)) (xe_ixO 0 (x := .int r.s) (xs := eRow r1) xe_int rfl rfl rfl) xe_int) (xe_var 3)) xe_int) xa_nil)) xe_int) xe_int rfl rfl rfl rfl
      · by_cases hc : (1000000000000000000 : Int) ≤ cellM r
        · have e2 : takenR r m = { r2 with n := cellM r / m } := by unfold takenR; rw [if_neg hn, if_neg hp1, if_pos hc]
          rw [e2]
          refine xs_if (bb := true) (XT.is (xt_cmp br_ge (xe_var 3) (xe_op (br_pow ⟨by decide, by decide, by decide⟩) xe_int xe_int)) (decide_eq_true hc)) (fun _ => xss_one ?_) fun h => by cases h
          exact xs_setP 0 3 (eRow r2) (xe_op (br_fdiv ⟨h0, h1⟩) (xe_var 3) (xe_var 1)) xe_int rfl rfl rfl rfl
        · have e2 : takenR r m = r2 := by unfold takenR; rw [if_neg hn, if_neg hp1, if_neg hc]
          rw [e2]
          exact xs_if (bb := false) (XT.is (xt_cmp br_ge (xe_var 3) (xe_op (br_pow ⟨by decide, by decide, by decide⟩) xe_int xe_int)) (decide_eq_false hc)) (fun h => by cases h) fun _ => xss_nil
      · exact xe_op (br_mod h0) (xe_callTy cr_intI (by rfl) m_int b_int (xa_cons (xe_var 3) xa_nil)) (xe_var 1)
end
end K
set_option Elab.async false
set_option linter.all false
set_option maxRecDepth 100000
set_option maxHeartbeats 4000000
namespace K
open PySem PySem.Spec PyProof.Rows L2 DL
/-- a row of things drawn one behind the other -/
def draw {α : Type} (f : Row → α × Row) : Nat → Row → List α × Row
  | 0, r => ([], r)
  | n + 1, r => ((f r).1 :: (draw f n (f r).2).1, (draw f n (f r).2).2)
theorem draw_len {α : Type} (f : Row → α × Row) : ∀ (n : Nat) (r : Row), (draw f n r).1.length = n
  | 0, _ => rfl
  | n + 1, r => by
    show (draw f n (f r).2).1.length + 1 = n + 1
    rw [draw_len f n]
theorem draw_row {α : Type} {f : Row → α × Row} {P : Row → Prop} (h : ∀ r, P r → P (f r).2) : ∀ (n : Nat) (r : Row), P r → P (draw f n r).2
  | 0, _, hr => hr
  | n + 1, r, hr => draw_row h n _ (h r hr)
theorem draw_all {α : Type} {f : Row → α × Row} {P : Row → Prop} {Q : α → Prop} (h : ∀ r, P r → P (f r).2) (q : ∀ r, P r → Q (f r).1) : ∀ (n : Nat) (r : Row), P r → ∀ x ∈ (draw f n r).1, Q x
  | 0, _, _, x, hx => by cases hx
  | n + 1, r, hr, x, hx => by
    rcases List.mem_cons.mp hx with e | e
    · rw [e]; exact q r hr
    · exact draw_all h q n _ (h r hr) x e
theorem lc_draw {α : Type} {X : Cx} {scope : Scope} {tg elt : Expr} {vs ws : List Nat} {f : Row → α × Row} {e : α → D} {enc : Nat → D} {sl : Row → List Sl} {P : Row → Prop} {g g' : Nat → Row → List Sl} (sub : ∀ i ∈ ws, i ∈ vs) : ∀ (as : List Nat) (r : Row), P r → (∀ i r, P r → P (f r).2 ∧ (∀ s H C cl fp, XG (bX X scope s H C cl fp) tg ws (enc i) (sl r) (g i r) ∧ XE (bX X scope s H C cl fp) elt (g i r) (e (f r).1) (g' i r)) ∧ wipeS (g' i r) vs = sl (f r).2) →
    LC X scope tg [] elt vs (as.map enc) (sl r) ((draw f as.length r).1.map e) (sl (draw f as.length r).2)
  | [], _, _, _ => .nil
  | a :: as, r, hr, h => by
    obtain ⟨h1, h2, h3⟩ := h a r hr
    refine .take (fun s H C cl fp => (h2 s H C cl fp).1) sub (fun s H C cl fp => xts_nil) (fun s H C cl fp => (h2 s H C cl fp).2) ?_
    rw [h3]
    exact lc_draw sub as _ h1 h
theorem lc_drawN {α : Type} {X : Cx} {scope : Scope} {tg elt : Expr} {vs ws : List Nat} {f : Row → α × Row} {e : α → D} {enc : Nat → D} {sl : Row → List Sl} {P : Row → Prop} {g g' : Nat → Row → List Sl} (sub : ∀ i ∈ ws, i ∈ vs) (as : List Nat) (n : Nat) (hn : as.length = n) (r : Row) (hr : P r) (h : ∀ i r, P r → P (f r).2 ∧ (∀ s H C cl fp, XG (bX X scope s H C cl fp) tg ws (enc i) (sl r) (g i r) ∧ XE (bX X scope s H C cl fp) elt (g i r) (e (f r).1) (g' i r)) ∧ wipeS (g' i r) vs = sl (f r).2) :
    LC X scope tg [] elt vs (as.map enc) (sl r) ((draw f n r).1.map e) (sl (draw f n r).2) := by
  subst hn
  exact lc_draw sub as r hr h
def taken (m : Int) (r : Row) : Int × Row := (takenV r m, takenR r m)
section
variable {P : Program} {w : World} {K : PySem.W.Frag} {mg : Str → Option Value} {base : Heap} {f : Addr} {fd : FuncData}
/-! ### _law_pick, _law_gap -/
def R_pick (rs ds : List D) (d : D) (rs' : List D) : Prop := ∃ (r : Row) (xs : List D), 0 ≤ r.p ∧ 0 < xs.length ∧ xs.length < 1000 ∧ rs = eRow r ∧ (ds = [.list xs] ∨ ds = [.tuple xs]) ∧ xs[(takenV r xs.length).toNat]? = some d ∧ rs' = eRow (takenR r xs.length)
theorem ok_pick (F : Fun K "_law_pick" "_law_pick" s_law_pick f fd) (m_len : mg "len" = none) {f1 : Addr} {fd1 : FuncData} (G1 : FnOk P w K mg base CX0 1 f1 fd1 ["row", "many"] (spB K 2 R_taken)) (k1 : PySem.W.keepIn K (.ref f1) = true) (b1 : Binds K fd1 ["row", "many"] []) (m1 : mg "_law_taken" = some (.ref f1)) :
    FnOk P w K mg base CX0 2 f fd ["row", "things"] (spB K 2 R_pick) := by
  refine fn_B F c_law_pick (by decide) fun cdv A outer s H E a rs ds d rs' hl hr hR => ?_
  obtain ⟨r, xs, hp, h0, h1, rfl, hds, hx, rfl⟩ := hR
  have hlt := taken_lt (r := r) (m := xs.length) (by omega)
  have hat : atI xs (takenV r xs.length) = some d := by
    have e : ((takenV r xs.length).toNat : Int) = takenV r xs.length := by omega
    rw [← e]
    exact atI_nat hx
  rcases hds with rfl | rfl
  · refine ⟨_, [.b a (eRow (takenR r xs.length)), .d (.list xs)], .rt, rfl, xss_one (xs_ret (xe_ixL (ρ1 := [.b a (eRow r), .d (.list xs)]) (xe_var 1) ?_ hat))⟩
    exact xe_callO 0 (s := .b a (eRow r)) (rs := eRow r) (ρ1 := [.b a (eRow r), .d (.list xs)]) (rs' := eRow (takenR r xs.length)) G1 hr (by rfl) m1 k1 b1 (xa_cons (xe_callB cr_lenL (by rfl) m_len b_len (xa_cons (xe_var 1) xa_nil)) xa_nil) rfl rfl (R_taken.mk (by omega) (by omega) hp)
  · refine ⟨_, [.b a (eRow (takenR r xs.length)), .d (.tuple xs)], .rt, rfl, xss_one (xs_ret (xe_ixT (ρ1 := [.b a (eRow r), .d (.tuple xs)]) (xe_var 1) ?_ hat))⟩
    exact xe_callO 0 (s := .b a (eRow r)) (rs := eRow r) (ρ1 := [.b a (eRow r), .d (.tuple xs)]) (rs' := eRow (takenR r xs.length)) G1 hr (by rfl) m1 k1 b1 (xa_cons (xe_callB cr_lenT (by rfl) m_len b_len (xa_cons (xe_var 1) xa_nil)) xa_nil) rfl rfl (R_taken.mk (by omega) (by omega) hp)
def gaps : List (Option Nat) := [none, none, some 0, some 0, some 1, some 2, some 3, some 20]
def gapM (r : Row) : Option Nat := (gaps[(takenV r 8).toNat]?).getD none
theorem gap_ok (r : Row) : GapOk (gapM r) := by
  have h := taken_lt (r := r) (m := 8) (by decide)
  have hm : gapM r ∈ gaps := by
    unfold gapM
    have : (takenV r 8).toNat < gaps.length := by show _ < 8; omega
    rw [List.getElem?_eq_getElem this]
    exact List.getElem_mem this
  have all : ∀ g ∈ gaps, GapOk g := by
    intro g hg
    unfold gaps at hg
    simp only [List.mem_cons, List.not_mem_nil, or_false] at hg
    rcases hg with rfl | rfl | rfl | rfl | rfl | rfl | rfl | rfl <;> first | trivial | (show _ ≤ 20; decide)
  exact all _ hm
def R_gap (rs ds : List D) (d : D) (rs' : List D) : Prop := ∃ r : Row, 0 ≤ r.p ∧ rs = eRow r ∧ ds = [] ∧ d = eGap (gapM r) ∧ rs' = eRow (takenR r 8)
theorem ok_gap (F : Fun K "_law_gap" "_law_gap" s_law_gap f fd) {f1 : Addr} {fd1 : FuncData} (G1 : FnOk P w K mg base CX0 2 f1 fd1 ["row", "things"] (spB K 2 R_pick)) (k1 : PySem.W.keepIn K (.ref f1) = true) (b1 : Binds K fd1 ["row", "things"] []) (m1 : mg "_law_pick" = some (.ref f1)) :
    FnOk P w K mg base CX0 3 f fd ["row"] (spB K 1 R_gap) := by
  refine fn_B F c_law_gap (by decide) fun cdv A outer s H E a rs ds d rs' hl hr hR => ?_
  obtain ⟨r, hp, rfl, rfl, rfl, rfl⟩ := hR
  refine ⟨_, [.b a (eRow (takenR r 8))], .rt, rfl, xss_one (xs_ret ?_)⟩
  refine xe_callO 0 (s := .b a (eRow r)) (rs := eRow r) (ρ1 := [.b a (eRow r)]) (rs' := eRow (takenR r 8)) (ds := [.list (gaps.map eGap)]) G1 hr (by rfl) m1 k1 b1 (xa_cons (xe_lst (xa_cons xe_none (xa_cons xe_none (xa_cons xe_int (xa_cons xe_int (xa_cons xe_int (xa_cons xe_int (xa_cons xe_int (xa_cons xe_int xa_nil)))))))) (by decide)) xa_nil) rfl rfl ⟨r, gaps.map eGap, hp, by decide, by decide, rfl, .inl rfl, ?_, rfl⟩
  have h := taken_lt (r := r) (m := 8) (by decide)
  show (gaps.map eGap)[(takenV r 8).toNat]? = _
  unfold gapM
  have : (takenV r 8).toNat < gaps.length := by show _ < 8; omega
  rw [List.getElem?_map, List.getElem?_eq_getElem this]
  rfl
/-! ### _law_reel -/
def keysAdd (ks : List Int) (k : Int) : List Int := if k ∈ ks then ks else ks ++ [k]
def someD (ks : List Int) : List (L2.Key × D) := ks.map fun k => (.inl k, .bool true)
theorem some_put (ks : List Int) (k : Int) : putD (someD ks) (.inl k) (.bool true) = someD (keysAdd ks k) := by
  have h1 : ((someD ks).any fun kv => decide (kv.1 = .inl k)) = decide (k ∈ ks) := by
    unfold someD
    induction ks with
    | nil => rfl
    | cons a l ih =>
      rw [List.map_cons, List.any_cons, ih]
      by_cases e : a = k
      · simp [e]
      · have e' : ¬ k = a := fun z => e z.symm
        simp [e, e']
  have h2 : (someD ks).map (fun kv => if kv.1 = .inl k then (kv.1, PyData.bool true) else kv) = someD ks := by
    unfold someD
    rw [List.map_map]
    refine List.map_congr_left fun x _ => ?_
    show (if (Sum.inl x : L2.Key) = .inl k then ((.inl x : L2.Key), PyData.bool true) else (.inl x, .bool true)) = _
    split <;> rfl
  unfold putD keysAdd
  rw [h1, h2]
  by_cases e : k ∈ ks
  · rw [if_pos (decide_eq_true e), if_pos e]
  · rw [if_neg (by rw [decide_eq_false e]; exact Bool.false_ne_true), if_neg e]
    unfold someD
    rw [List.map_append]
    rfl
theorem some_keys (ks : List Int) : (someD ks).map (fun kv => kD kv.1) = ks.map .int := by
  unfold someD
  rw [List.map_map]
  rfl
/-- a turn over the states that may come next -/
def turnM (m kind st : Int) (b : Row × List Int) : Row × List Int :=
  if kind = 0 then (takenR b.1 m, keysAdd b.2 (takenV b.1 m)) else (takenR b.1 3, keysAdd b.2 (if st + takenV b.1 3 < m - 1 then st + takenV b.1 3 else m - 1))
/-- a state's row -/
def stateM (m kind : Int) (b : Row × List (List Int)) (st : Nat) : Row × List (List Int) :=
  let c := (List.range (1 + takenV b.1 2).toNat).foldl (fun c _ => turnM m kind (st : Nat) c) (takenR b.1 2, [])
  (c.1, b.2 ++ [sortI c.2])
def lastM (m kind : Int) (b : Row × List (List Int)) : Row × List (List Int) :=
  if kind = 2 ∧ 2 < m then (takenR b.1 2, b.2.set (m - 1).toNat [m - 1 - takenV b.1 2]) else b
def reelM (most pics : Int) (r : Row) : Reel × Row :=
  let m := 1 + takenV r most
  let r1 := takenR r most
  let c := lastM m (takenV r1 3) ((List.range m.toNat).foldl (stateM m (takenV r1 3)) (takenR r1 3, []))
  (⟨c.2, (draw (taken pics) m.toNat c.1).1⟩, (draw (taken pics) m.toNat c.1).2)
def R_reel (rs ds : List D) (d : D) (rs' : List D) : Prop := ∃ (r : Row) (most pics : Int), 0 ≤ r.p ∧ 1 ≤ most ∧ most ≤ 6 ∧ 1 ≤ pics ∧ pics ≤ 100 ∧ rs = eRow r ∧ ds = [.int most, .int pics] ∧ d = eReel (reelM most pics r).1 ∧ rs' = eRow (reelM most pics r).2
theorem fold_p {α : Type} {β : Type} {f : Row × β → α → Row × β} (h : ∀ b a, 0 ≤ b.1.p → 0 ≤ (f b a).1.p) : ∀ (l : List α) (b : Row × β), 0 ≤ b.1.p → 0 ≤ (l.foldl f b).1.p
  | [], _, h0 => h0
  | a :: l, b, h0 => fold_p h l _ (h b a h0)
theorem turn_p {m kind st : Int} (b : Row × List Int) (h : 0 ≤ b.1.p) : 0 ≤ (turnM m kind st b).1.p := by
  unfold turnM
  split <;> exact takenR_p h
theorem state_p {m kind : Int} (b : Row × List (List Int)) (st : Nat) (h : 0 ≤ b.1.p) : 0 ≤ (stateM m kind b st).1.p :=
  fold_p (fun c _ hc => turn_p c hc) _ _ (takenR_p h)
theorem keysAdd_len (ks : List Int) (k : Int) : (keysAdd ks k).length ≤ ks.length + 1 := by
  unfold keysAdd
  split <;> simp
theorem turn_len {m kind st : Int} (c : Row × List Int) : (turnM m kind st c).2.length ≤ c.2.length + 1 := by
  unfold turnM
  split <;> exact keysAdd_len _ _
theorem turns_len {m kind st : Int} : ∀ (l : List Nat) (c : Row × List Int), (l.foldl (fun c _ => turnM m kind st c) c).2.length ≤ c.2.length + l.length
  | [], c => Nat.le_refl _
  | a :: l, c => by
    have h := turns_len (m := m) (kind := kind) (st := st) l (turnM m kind st c)
    have h2 := turn_len (m := m) (kind := kind) (st := st) c
    rw [List.foldl_cons, List.length_cons]
    omega
theorem states_len {m kind : Int} : ∀ (l : List Nat) (b : Row × List (List Int)), (l.foldl (stateM m kind) b).2.length = b.2.length + l.length
  | [], b => rfl
  | a :: l, b => by
    rw [List.foldl_cons, states_len l]
    show (b.2 ++ [_]).length + l.length = _
    simp
    omega
theorem ok_reel (F : Fun K "_law_reel" "_law_reel" s_law_reel f fd) (m_range : mg "range" = none) (m_min : mg "min" = none) (m_tuple : mg "tuple" = none) (m_sorted : mg "sorted" = none) (m_list : mg "list" = none) {f1 : Addr} {fd1 : FuncData} (G1 : FnOk P w K mg base CX0 1 f1 fd1 ["row", "many"] (spB K 2 R_taken)) (k1 : PySem.W.keepIn K (.ref f1) = true) (b1 : Binds K fd1 ["row", "many"] []) (m1 : mg "_law_taken" = some (.ref f1)) :
    FnOk P w K mg base CX0 2 f fd ["row", "most", "pictures"] (spB K 3 R_reel) := by
  refine fn_B F c_law_reel (by decide) fun cdv A outer s H E a rs ds d rs' hl hr hR => ?_
  obtain ⟨r, most, pics, hp, hm1, hm6, hp1, hp100, rfl, rfl, rfl, rfl⟩ := hR
  have nd := c_law_reel.nd
  have hm := taken_lt (r := r) (m := most) (by omega)
  generalize hmm : 1 + takenV r most = m at *
  have hk := taken_lt (r := takenR r most) (m := 3) (by decide)
  generalize hkk : takenV (takenR r most) 3 = kind at *
  have hm1' : 1 ≤ m := by omega
  have hm7 : m ≤ 6 := by omega
  have hu : (A.deeper (envOfC "_law_reel" (defScope s_law_reel) s.heap.objs.size f cdv)).units + 1 < cLine := by have := hr.units; omega
  let sl : Row × List (List Int) → List Sl := fun b => [.b a (eRow b.1), .d (.int most), .d (.int pics), .d (.int m), .o (b.2.map eT), .d (.int kind), .u, .u, .u]
  let b0 : Row × List (List Int) := (takenR (takenR r most) 3, [])
  let bb := (List.range m.toNat).foldl (stateM m kind) b0
  let cc := lastM m kind bb
  have hb0 : 0 ≤ b0.1.p := takenR_p (takenR_p hp)
  have hbp : 0 ≤ bb.1.p := fold_p (fun b st h => state_p b st h) _ _ hb0
  have hbl : bb.2.length = m.toNat := by
    show ((List.range m.toNat).foldl (stateM m kind) b0).2.length = _
    rw [states_len, List.length_range]
    show 0 + m.toNat = _
    omega
  have hcp : 0 ≤ cc.1.p := by
    show 0 ≤ (lastM m kind bb).1.p
    unfold lastM
    split
    · exact takenR_p hbp
    · exact hbp
  have hreel : reelM most pics r = (⟨cc.2, (draw (taken pics) m.toNat cc.1).1⟩, (draw (taken pics) m.toNat cc.1).2) := by
    unfold reelM
    simp only []
    rw [hmm, hkk]
  rw [hreel]
  let fin : Row → List Sl := fun r' => [.b a (eRow r'), .d (.int most), .d (.int pics), .d (.int m), .d (eN cc.2 |> fun _ => .list (cc.2.map eT)), .d (.int kind), .u, .u, .u]
  refine ⟨_, fin (draw (taken pics) m.toNat cc.1).2, .rt, rfl, xss_cons (ρ1 := [.b a (eRow (takenR r most)), .d (.int most), .d (.int pics), .d (.int m), .o [], .u, .u, .u, .u]) ?_ (xss_cons (ρ1 := sl b0) ?_ (xss_cons (ρ1 := sl bb) ?_ (xss_cons (ρ1 := sl cc) ?_ (xss_one ?_))))⟩
  · refine xs_parO 3 4 (x := .int m) (ys := []) (ρ1 := [.b a (eRow (takenR r most)), .d (.int most), .d (.int pics), .u, .u, .u, .u, .u, .u]) (ρ2 := [.b a (eRow (takenR r most)), .d (.int most), .d (.int pics), .u, .u, .u, .u, .u, .u]) rfl nd ?_ (xo_lst xa_nil (by simp))
    refine XE.is (xe_op br_add xe_int (xe_callO 0 (d := .int (takenV r most)) (s := .b a (eRow r)) (rs := eRow r) (ρ1 := [.b a (eRow r), .d (.int most), .d (.int pics), .u, .u, .u, .u, .u, .u]) (rs' := eRow (takenR r most)) G1 hr (by rfl) m1 k1 b1 (xa_cons (xe_var 1) xa_nil) rfl rfl (R_taken.mk (by omega) (by omega) hp))) ?_
    rw [hmm]
  · refine xs_set 5 nd (d := .int kind) (ρ1 := [.b a (eRow b0.1), .d (.int most), .d (.int pics), .d (.int m), .o [], .u, .u, .u, .u]) ?_
    rw [← hkk]
    exact xe_callO 0 (d := .int (takenV (takenR r most) 3)) (s := .b a (eRow (takenR r most))) (rs := eRow (takenR r most)) (ρ1 := [.b a (eRow (takenR r most)), .d (.int most), .d (.int pics), .d (.int m), .o [], .u, .u, .u, .u]) (rs' := eRow (takenR (takenR r most) 3)) G1 hr (by rfl) m1 k1 b1 (xa_cons xe_int xa_nil) rfl rfl (R_taken.mk (by decide) (by decide) (takenR_p hp))
  · refine xs_for PassesOwn.never rfl (xi_range1 (by rfl) m_range (xe_var 3) (by omega) (by omega)) ?_
    refine lr_foldN (P := fun j (b : Row × List (List Int)) => 0 ≤ b.1.p ∧ b.2.length = j) (sl := sl) (List.range m.toNat) 0 m.toNat b0 (by rw [List.length_range]; omega) ⟨hb0, rfl⟩ fun j hj st hst b hb => ⟨⟨state_p b st hb.1, ?_⟩, [6], [.b a (eRow b.1), .d (.int most), .d (.int pics), .d (.int m), .o (b.2.map eT), .d (.int kind), .d (.int (0 + (st : Nat))), .u, .u], xg_name 6 nd, ?_⟩
    · show (b.2 ++ [_]).length = _
      rw [List.length_append, hb.2]
      rfl
    have hstm : (st : Int) < m := by
      have := List.mem_range.mp hst
      omega
    have h2 := taken_lt (r := b.1) (m := 2) (by decide)
    let st' : Int := 0 + (st : Nat)
    let in1 : Row → List (L2.Key × D) → List Sl := fun r' kvs => [.b a (eRow r'), .d (.int most), .d (.int pics), .d (.int m), .o (b.2.map eT), .d (.int kind), .d (.int st'), .m kvs, .u]
    let c0 : Row × List Int := (takenR b.1 2, [])
    let c1 := (List.range (1 + takenV b.1 2).toNat).foldl (fun c _ => turnM m kind (st : Nat) c) c0
    have e1 : stateM m kind b st = (c1.1, b.2 ++ [sortI c1.2]) := rfl
    rw [e1]
    refine xss_out (ρ1 := [.b a (eRow c1.1), .d (.int most), .d (.int pics), .d (.int m), .o ((b.2 ++ [sortI c1.2]).map eT), .d (.int kind), .d (.int st'), .m (someD c1.2), .u]) (xss_cons (ρ1 := in1 b.1 []) (xs_setM 7 nd xw_dict) (xss_cons (ρ1 := in1 c1.1 (someD c1.2)) ?_ (xss_one ?_))) (.keep (.keep (.keep (.keep (.keep (.keep (.drop (.drop (.keep .nil)))))))))
    · refine xs_for PassesOwn.never rfl (xi_range1 (by rfl) m_range (ρ1 := in1 (takenR b.1 2) []) (xe_op br_add xe_int (xe_callO 0 (d := .int (takenV b.1 2)) (s := .b a (eRow b.1)) (rs := eRow b.1) (ρ1 := in1 b.1 []) (rs' := eRow (takenR b.1 2)) G1 hr (by rfl) m1 k1 b1 (xa_cons xe_int xa_nil) rfl rfl (R_taken.mk (by decide) (by decide) hb.1))) (by omega) (by omega)) ?_
      refine lr_foldN (P := fun j (c : Row × List Int) => 0 ≤ c.1.p ∧ c.2.length ≤ j) (sl := fun c => in1 c.1 (someD c.2)) (List.range (1 + takenV b.1 2).toNat) 0 2 c0 (by rw [List.length_range]; omega) ⟨takenR_p hb.1, Nat.le_refl _⟩ fun j hj tn _ c hc => ⟨⟨turn_p c hc.1, by have := turn_len (m := m) (kind := kind) (st := (st : Nat)) c; omega⟩, [8], [.b a (eRow c.1), .d (.int most), .d (.int pics), .d (.int m), .o (b.2.map eT), .d (.int kind), .d (.int st'), .m (someD c.2), .d (.int (0 + (tn : Nat)))], xg_name 8 nd, ?_⟩
      have hin : ∀ (r' : Row) (ks : List Int), in1 r' (someD ks) = [.b a (eRow r'), .d (.int most), .d (.int pics), .d (.int m), .o (b.2.map eT), .d (.int kind), .d (.int st'), .m (someD ks), .u] := fun _ _ => rfl
      have hlen : (someD c.2).length ≤ 1000000 := by
        unfold someD
        rw [List.length_map]
        omega
      let w1 : List Sl := [.b a (eRow c.1), .d (.int most), .d (.int pics), .d (.int m), .o (b.2.map eT), .d (.int kind), .d (.int st'), .m (someD c.2), .d (.int (0 + (tn : Nat)))]
      let w2 : Row → List Sl := fun r' => [.b a (eRow r'), .d (.int most), .d (.int pics), .d (.int m), .o (b.2.map eT), .d (.int kind), .d (.int st'), .m (someD c.2), .d (.int (0 + (tn : Nat)))]
      refine xss_out (ρ1 := [.b a (eRow (turnM m kind (st : Nat) c).1), .d (.int most), .d (.int pics), .d (.int m), .o (b.2.map eT), .d (.int kind), .d (.int st'), .m (someD (turnM m kind (st : Nat) c).2), .d (.int (0 + (tn : Nat)))]) (xss_one ?_) (.keep (.keep (.keep (.keep (.keep (.keep (.keep (.keep (.drop .nil)))))))))
      by_cases hk0 : kind = 0
      · have e2 : turnM m kind (st : Nat) c = (takenR c.1 m, keysAdd c.2 (takenV c.1 m)) := by unfold turnM; rw [if_pos hk0]
        rw [e2]
        refine xs_putKP 7 (someD c.2) (.inl (takenV c.1 m)) (ρ1 := w1) (ρ2 := w2 (takenR c.1 m)) hu xe_bl (xe_if (bb := true) (ρ1 := w1) (XT.is (xt_cmp br_eqI (xe_var 5) xe_int) (decide_eq_true hk0)) (fun _ => ?_) fun h => by cases h) ⟨_, rfl⟩ rfl hlen ?_
        · exact xe_callO 0 (d := .int (takenV c.1 m)) (s := .b a (eRow c.1)) (rs := eRow c.1) (ρ1 := w1) (rs' := eRow (takenR c.1 m)) G1 hr (by rfl) m1 k1 b1 (xa_cons (xe_var 3) xa_nil) rfl rfl (R_taken.mk (by omega) (by omega) hc.1)
        · rw [some_put]
          rfl
      · have e2 : turnM m kind (st : Nat) c = (takenR c.1 3, keysAdd c.2 (if (st : Nat) + takenV c.1 3 < m - 1 then (st : Nat) + takenV c.1 3 else m - 1)) := by unfold turnM; rw [if_neg hk0]
        rw [e2]
        refine xs_putKP 7 (someD c.2) (.inl (if (st : Nat) + takenV c.1 3 < m - 1 then (st : Nat) + takenV c.1 3 else m - 1)) (ρ1 := w1) (ρ2 := w2 (takenR c.1 3)) hu xe_bl (xe_if (bb := false) (ρ1 := w1) (XT.is (xt_cmp br_eqI (xe_var 5) xe_int) (decide_eq_false hk0)) (fun h => by cases h) fun _ => ?_) ⟨_, rfl⟩ rfl hlen ?_
        · refine XE.is (xe_callB (cr_min2 (i := m - 1) (j := st' + takenV c.1 3) rfl) (by rfl) m_min b_min (xa_cons (ρ1 := w1) (xe_op br_sub (xe_var 3) xe_int) (xa_cons (ρ1 := w2 (takenR c.1 3)) (xe_op br_add (xe_var 6) ?_) xa_nil))) ?_
          · exact xe_callO 0 (d := .int (takenV c.1 3)) (s := .b a (eRow c.1)) (rs := eRow c.1) (ρ1 := w1) (rs' := eRow (takenR c.1 3)) G1 hr (by rfl) m1 k1 b1 (xa_cons xe_int xa_nil) rfl rfl (R_taken.mk (by decide) (by decide) hc.1)
          · show PyData.int (if (0 + (st : Int)) + takenV c.1 3 < m - 1 then (0 + (st : Int)) + takenV c.1 3 else m - 1) = .int (if (st : Int) + takenV c.1 3 < m - 1 then (st : Int) + takenV c.1 3 else m - 1)
            rw [Int.zero_add]
        · rw [some_put]
          rfl
    · refine xs_appendP 4 (b.2.map eT) (x := eT (sortI c1.2)) (ρ1 := in1 c1.1 (someD c1.2)) (xe_callTy cr_tupleL (by rfl) m_tuple b_tuple (xa_cons (XO.xe (xo_callB (cro_sorted (ns := c1.2)) (by rfl) m_sorted b_sorted (xa_cons (XO.xe (XO.is (xo_listD 7 rfl rfl (by rfl) m_list b_list) (some_keys c1.2))) xa_nil))) xa_nil)) ⟨_, _, rfl, rfl⟩ rfl rfl ?_ ?_
      · rw [List.length_map, hb.2]
        omega
      · rw [List.map_append]
        rfl
  · by_cases hlast : kind = 2 ∧ 2 < m
    · have h2 := taken_lt (r := bb.1) (m := 2) (by decide)
      have e : cc = (takenR bb.1 2, bb.2.set (m - 1).toNat [m - 1 - takenV bb.1 2]) := by
        show lastM m kind bb = _
        unfold lastM
        rw [if_pos hlast]
      rw [e]
      refine xs_if (bb := true) (XT.is (xt_andp (b1 := true) (b2 := true) (XT.is (xt_cmp br_eqI (xe_var 5) xe_int) (decide_eq_true hlast.1)) fun _ => XT.is (xt_cmp br_gt (xe_var 3) xe_int) (decide_eq_true hlast.2)) rfl) (fun _ => xss_one ?_) fun h => by cases h
      refine xs_setQ 4 (m - 1).toNat (bb.2.map eT) (x := eT [m - 1 - takenV bb.1 2]) (i := m - 1) (ρ1 := sl (takenR bb.1 2, bb.2)) (ρ2 := sl (takenR bb.1 2, bb.2)) (xe_tup (xa_cons (xe_op br_sub (xe_op br_sub (xe_var 3) xe_int) ?_) xa_nil) (by simp)) (xe_op br_sub (xe_var 3) xe_int) ⟨_, _, rfl, rfl⟩ rfl rfl (ixN_pos (by omega) (by rw [List.length_map, hbl]; omega)) ?_
      · exact xe_callO 0 (d := .int (takenV bb.1 2)) (s := .b a (eRow bb.1)) (rs := eRow bb.1) (ρ1 := sl bb) (rs' := eRow (takenR bb.1 2)) G1 hr (by rfl) m1 k1 b1 (xa_cons xe_int xa_nil) rfl rfl (R_taken.mk (by decide) (by decide) hbp)
      · show [Sl.b a (eRow (takenR bb.1 2)), .d (.int most), .d (.int pics), .d (.int m), .o ((bb.2.map eT).set (m - 1).toNat (eT [m - 1 - takenV bb.1 2])), .d (.int kind), .u, .u, .u] = sl (takenR bb.1 2, bb.2.set (m - 1).toNat [m - 1 - takenV bb.1 2])
        show _ = [Sl.b a (eRow (takenR bb.1 2)), .d (.int most), .d (.int pics), .d (.int m), .o ((bb.2.set (m - 1).toNat [m - 1 - takenV bb.1 2]).map eT), .d (.int kind), .u, .u, .u]
        rw [List.map_set]
    · have e : cc = bb := by
        show lastM m kind bb = _
        unfold lastM
        rw [if_neg hlast]
      rw [e]
      refine xs_if (bb := false) (XT.is (xt_andp (b1 := decide (kind = 2)) (b2 := decide (2 < m)) (xt_cmp br_eqI (xe_var 5) xe_int) fun _ => xt_cmp br_gt (xe_var 3) xe_int) ?_) (fun h => by cases h) fun _ => xss_nil
      by_cases h1 : kind = 2
      · rw [decide_eq_false (p := 2 < m) fun h => hlast ⟨h1, h⟩]
        simp
      · rw [decide_eq_false h1]
        rfl
  · refine xs_ret (XE.is (xe_tup (xa_cons (x := eN cc.2) (ρ1 := fin cc.1) (xe_callTy cr_tupleL (by rfl) m_tuple b_tuple (xa_cons (ρ1 := fin cc.1) (xe_varO 4) xa_nil)) (xa_cons (x := eT (draw (taken pics) m.toNat cc.1).1) (xe_callTy cr_tupleL (by rfl) m_tuple b_tuple (xa_cons (XO.xe ?_) xa_nil)) xa_nil)) (by simp)) rfl)
    refine xo_lc (own := [("state", 6)]) (ρ0 := fin cc.1) (ρ' := fin (draw (taken pics) m.toNat cc.1).2) rfl nd (xi_range1 (by rfl) m_range (xe_var 3) (by omega) (by omega)) (blkOk_by (N := n_law_reel) (sc := defScope s_law_reel) (by decide +kernel)) ?_ ?_
    · refine lc_drawN (ws := [6]) (f := taken pics) (e := PyData.int) (sl := fin) (P := fun r' => 0 ≤ r'.p) (g := fun i r' => [.b a (eRow r'), .d (.int most), .d (.int pics), .d (.int m), .d (.list (cc.2.map eT)), .d (.int kind), .d (.int (0 + (i : Nat))), .u, .u]) (g' := fun i r' => [.b a (eRow (takenR r' pics)), .d (.int most), .d (.int pics), .d (.int m), .d (.list (cc.2.map eT)), .d (.int kind), .d (.int (0 + (i : Nat))), .u, .u]) (by decide) (List.range m.toNat) m.toNat List.length_range cc.1 hcp fun i r' hr' => ⟨takenR_p hr', fun s' H' C' cl fp => ⟨xg_name 6 nd, ?_⟩, rfl⟩
      exact xe_callO 0 (d := .int (takenV r' pics)) (s := .b a (eRow r')) (rs := eRow r') (ρ1 := [.b a (eRow r'), .d (.int most), .d (.int pics), .d (.int m), .d (.list (cc.2.map eT)), .d (.int kind), .d (.int (0 + (i : Nat))), .u, .u]) (rs' := eRow (takenR r' pics)) G1 hr (by rfl) m1 k1 b1 (xa_cons (xe_var 2) xa_nil) rfl rfl (R_taken.mk (by omega) (by omega) hr')
    · rw [List.length_map, draw_len]
      omega
end
end K
set_option Elab.async false
set_option linter.all false
set_option maxRecDepth 100000
set_option maxHeartbeats 4000000
namespace K
open PySem PySem.Spec PyProof.Rows L2 DL
/-! ### _law_run -/
def pickM (xs : List Int) (r : Row) : Int := (xs[(takenV r xs.length).toNat]?).getD 0
def stepRow (rl : Reel) (b : Row × Int) : Row × Int := (takenR b.1 (nx rl.nexts b.2).length, pickM (nx rl.nexts b.2) b.1)
def gapN (g : Option Nat) : Int := match g with
  | none => 4
  | some g => (if (3 : Int) < g then 3 else (g : Int)) + 1
def stepsM (g : Option Nat) (r : Row) (i : Nat) : Int := takenV r (gapN g) + (if (0 : Int) < (i : Nat) then 1 else 0)
def walkM (rl : Reel) (n : Nat) (b : Row × Int) : Row × Int := (List.range n).foldl (fun b _ => stepRow rl b) b
def frameM (rl : Reel) (g : Option Nat) (b : Row × Int × List Int) (i : Nat) : Row × Int × List Int :=
  let c := walkM rl (stepsM g b.1 i).toNat (takenR b.1 (gapN g), b.2.1)
  (c.1, c.2, b.2.2 ++ [picAt rl.pics c.2])
def runM (rl : Reel) (g : Option Nat) (frames : Int) (r : Row) : List Int × Row :=
  let b := (List.range frames.toNat).foldl (frameM rl g) (r, 0, [])
  (b.2.2, b.1)
def St (rl : Reel) (s : Int) : Prop := 0 ≤ s ∧ s < rl.nexts.length
theorem nx_of {rl : Reel} (h : rl.Ok) {s : Int} (hs : St rl s) : nx rl.nexts s ∈ rl.nexts ∧ nx rl.nexts s ≠ [] ∧ ∀ t ∈ nx rl.nexts s, St rl t := by
  have e := nx_at hs.1 hs.2
  have hm := List.mem_of_getElem? e
  exact ⟨hm, (h.row _ hm).1, (h.row _ hm).2.2⟩
theorem pick_at {xs : List Int} (h : xs ≠ []) (r : Row) : xs[(takenV r xs.length).toNat]? = some (pickM xs r) ∧ pickM xs r ∈ xs := by
  have h0 : 0 < xs.length := List.length_pos_iff.mpr h
  have hl := taken_lt (r := r) (m := xs.length) (by omega)
  have hi : (takenV r xs.length).toNat < xs.length := by omega
  unfold pickM
  rw [List.getElem?_eq_getElem hi]
  exact ⟨rfl, List.getElem_mem hi⟩
theorem stepRow_ok {rl : Reel} (h : rl.Ok) {b : Row × Int} (hb : 0 ≤ b.1.p ∧ St rl b.2) : 0 ≤ (stepRow rl b).1.p ∧ St rl (stepRow rl b).2 :=
  ⟨takenR_p hb.1, (nx_of h hb.2).2.2 _ (pick_at (nx_of h hb.2).2.1 b.1).2⟩
theorem walk_ok {rl : Reel} (h : rl.Ok) (n : Nat) {b : Row × Int} (hb : 0 ≤ b.1.p ∧ St rl b.2) : 0 ≤ (walkM rl n b).1.p ∧ St rl (walkM rl n b).2 := by
  unfold walkM
  generalize List.range n = l
  induction l generalizing b with
  | nil => exact hb
  | cons a l ih => exact ih (stepRow_ok h hb)
theorem gapN_pos {g : Option Nat} : 1 ≤ gapN g ∧ gapN g ≤ 4 := by
  cases g with
  | none => exact ⟨by decide, by decide⟩
  | some g =>
    unfold gapN
    simp only []
    split <;> omega
section
variable {P : Program} {w : World} {K : PySem.W.Frag} {mg : Str → Option Value} {base : Heap} {f : Addr} {fd : FuncData}
def R_run (rs ds : List D) (d : D) (rs' : List D) : Prop := ∃ (r : Row) (rl : Reel) (g : Option Nat) (n : Int), 0 ≤ r.p ∧ rl.Ok ∧ 0 ≤ n ∧ n ≤ 100 ∧ rs = eRow r ∧ ds = [eReel rl, eGap g, .int n] ∧ d = eT (runM rl g n r).1 ∧ rs' = eRow (runM rl g n r).2
theorem ok_run (F : Fun K "_law_run" "_law_run" s_law_run f fd) (m_range : mg "range" = none) (m_min : mg "min" = none) (m_int : mg "int" = none) (m_tuple : mg "tuple" = none) {f1 : Addr} {fd1 : FuncData} (G1 : FnOk P w K mg base CX0 1 f1 fd1 ["row", "many"] (spB K 2 R_taken)) (k1 : PySem.W.keepIn K (.ref f1) = true) (b1 : Binds K fd1 ["row", "many"] []) (m1 : mg "_law_taken" = some (.ref f1))
    {f2 : Addr} {fd2 : FuncData} (G2 : FnOk P w K mg base CX0 2 f2 fd2 ["row", "things"] (spB K 2 R_pick)) (k2 : PySem.W.keepIn K (.ref f2) = true) (b2 : Binds K fd2 ["row", "things"] []) (m2 : mg "_law_pick" = some (.ref f2)) :
    FnOk P w K mg base CX0 3 f fd ["row", "reel", "gap", "frames"] (spB K 4 R_run) := by
  refine fn_B F c_law_run (by decide) fun cdv A outer s H E a rs ds d rs' hl hr hR => ?_
  obtain ⟨r, rl, g, n, hp, hrl, hn0, hn, rfl, rfl, rfl, rfl⟩ := hR
  have nd := c_law_run.nd
  let sl : Row × Int × List Int → List Sl := fun b => [.b a (eRow b.1), .d (eReel rl), .d (eGap g), .d (.int n), .d (.int b.2.1), .o (b.2.2.map .int), .u, .u, .u]
  let b0 : Row × Int × List Int := (r, 0, [])
  let bb := (List.range n.toNat).foldl (frameM rl g) b0
  refine ⟨_, [.b a (eRow bb.1), .d (eReel rl), .d (eGap g), .d (.int n), .d (.int bb.2.1), .d (.list (bb.2.2.map .int)), .u, .u, .u], .rt, rfl, xss_cons (ρ1 := sl b0) (xs_parO 4 5 (x := .int 0) (ys := []) rfl nd xe_int (xo_lst xa_nil (by simp))) (xss_cons (ρ1 := sl bb) ?_ (xss_one (xs_ret (xe_callTy cr_tupleL (by rfl) m_tuple b_tuple (xa_cons (xe_varO 5) xa_nil)))))⟩
  refine xs_for PassesOwn.never rfl (xi_range1 (by rfl) m_range (xe_var 3) (by omega) (by omega)) ?_
  have hs0 : St rl 0 := ⟨Int.le_refl _, by have := hrl.some; omega⟩
  refine lr_foldN (P := fun j (b : Row × Int × List Int) => (0 ≤ b.1.p ∧ St rl b.2.1) ∧ b.2.2.length = j) (sl := sl) (List.range n.toNat) 0 n.toNat b0 (by rw [List.length_range]; omega) ⟨⟨hp, hs0⟩, rfl⟩ fun j hj i _ b hb => ?_
  have hg := gapN_pos (g := g)
  have ht := taken_lt (r := b.1) (m := gapN g) (by omega)
  let c0 : Row × Int := (takenR b.1 (gapN g), b.2.1)
  have hc0 : 0 ≤ c0.1.p ∧ St rl c0.2 := ⟨takenR_p hb.1.1, hb.1.2⟩
  let cc := walkM rl (stepsM g b.1 i).toNat c0
  have hcc := walk_ok hrl (stepsM g b.1 i).toNat hc0
  have e1 : frameM rl g b i = (cc.1, cc.2, b.2.2 ++ [picAt rl.pics cc.2]) := rfl
  rw [e1]
  refine ⟨⟨hcc, ?_⟩, [6], [.b a (eRow b.1), .d (eReel rl), .d (eGap g), .d (.int n), .d (.int b.2.1), .o (b.2.2.map .int), .d (.int (0 + (i : Nat))), .u, .u], xg_name 6 nd, ?_⟩
  · show (b.2.2 ++ [_]).length = _
    rw [List.length_append, hb.2]
    rfl
  let in1 : Row × Int → List Sl := fun c => [.b a (eRow c.1), .d (eReel rl), .d (eGap g), .d (.int n), .d (.int c.2), .o (b.2.2.map .int), .d (.int (0 + (i : Nat))), .d (.int (stepsM g b.1 i)), .u]
  have hst : 0 ≤ stepsM g b.1 i ∧ stepsM g b.1 i ≤ 5 := by
    unfold stepsM
    split <;> omega
  refine xss_out (ρ1 := [.b a (eRow cc.1), .d (eReel rl), .d (eGap g), .d (.int n), .d (.int cc.2), .o ((b.2.2 ++ [picAt rl.pics cc.2]).map .int), .d (.int (0 + (i : Nat))), .d (.int (stepsM g b.1 i)), .u]) (xss_cons (ρ1 := in1 c0) ?_ (xss_cons (ρ1 := in1 cc) ?_ (xss_one ?_))) (.keep (.keep (.keep (.keep (.keep (.keep (.drop (.drop (.keep .nil)))))))))
  · let w1 : Row → List Sl := fun r' => [.b a (eRow r'), .d (eReel rl), .d (eGap g), .d (.int n), .d (.int b.2.1), .o (b.2.2.map .int), .d (.int (0 + (i : Nat))), .u, .u]
    refine xs_set 7 nd (d := .int (stepsM g b.1 i)) (ρ1 := w1 (takenR b.1 (gapN g))) (xe_op (br_add (i := takenV b.1 (gapN g)) (j := if (0 : Int) < (i : Nat) then 1 else 0)) (ρ1 := w1 (takenR b.1 (gapN g))) ?_ ?_)
    · refine xe_callO 0 (d := .int (takenV b.1 (gapN g))) (s := .b a (eRow b.1)) (rs := eRow b.1) (ρ1 := w1 b.1) (rs' := eRow (takenR b.1 (gapN g))) G1 (hr.mono (by decide)) (by rfl) m1 k1 b1 (xa_cons (x := .int (gapN g)) (xe_ifp (xt_cmp br_isN (xe_var 2) xe_none) (fun h => ?_) (fun h => ?_)) xa_nil) rfl rfl (R_taken.mk (by omega) (by omega) hb.1.1)
      · cases g with
        | none => exact xe_int
        | some g => cases h
      · cases g with
        | none => cases h
        | some g => exact xe_op br_add (xe_callB (cr_min2 (i := (g : Nat)) (j := 3) rfl) (by rfl) m_min b_min (xa_cons (xe_var 2) (xa_cons xe_int xa_nil))) xe_int
    · refine XE.is (xe_callTy (cr_intB (k := decide ((0 : Int) < (i : Nat)))) (by rfl) m_int b_int (xa_cons (XE.is (xe_cmp br_gt (xe_var 6) xe_int) ?_) xa_nil)) ?_
      · rw [Int.zero_add]
      · by_cases h : (0 : Int) < (i : Nat)
        · rw [decide_eq_true h, if_pos h]
          rfl
        · rw [decide_eq_false h, if_neg h]
          rfl
  · refine xs_for PassesOwn.never rfl (xi_range1 (by rfl) m_range (xe_var 7) (by omega) (by omega)) ?_
    refine lr_fold (P := fun c : Row × Int => 0 ≤ c.1.p ∧ St rl c.2) (sl := in1) (List.range (stepsM g b.1 i).toNat) c0 hc0 fun j _ c hc => ⟨stepRow_ok hrl hc, [8], [.b a (eRow c.1), .d (eReel rl), .d (eGap g), .d (.int n), .d (.int c.2), .o (b.2.2.map .int), .d (.int (0 + (i : Nat))), .d (.int (stepsM g b.1 i)), .d (.int (0 + (j : Nat)))], xg_name 8 nd, ?_⟩
    let in2 : Row × Int → List Sl := fun c => [.b a (eRow c.1), .d (eReel rl), .d (eGap g), .d (.int n), .d (.int c.2), .o (b.2.2.map .int), .d (.int (0 + (i : Nat))), .d (.int (stepsM g b.1 i)), .d (.int (0 + (j : Nat)))]
    have hnx := nx_of hrl hc.2
    have hlen : (nx rl.nexts c.2).length ≤ 6 := hrl.ns.nx6 c.2
    have hpos : 0 < (nx rl.nexts c.2).length := List.length_pos_iff.mpr hnx.2.1
    refine xss_out (ρ1 := in2 (stepRow rl c)) (xss_one (xs_set 4 nd (d := .int (stepRow rl c).2) (ρ1 := in2 ((stepRow rl c).1, c.2)) ?_)) (.keep (.keep (.keep (.keep (.keep (.keep (.keep (.keep (.drop .nil)))))))))
    refine xe_callO 0 (d := .int (stepRow rl c).2) (s := .b a (eRow c.1)) (rs := eRow c.1) (ρ1 := in2 c) (rs' := eRow (stepRow rl c).1) G2 hr (by rfl) m2 k2 b2 (xa_cons (x := eT (nx rl.nexts c.2)) (xe_ixT (xe_ixT (xe_var 1) xe_int rfl) (xe_var 4) (atI_map (f := eT) hc.2.1 (nx_at hc.2.1 hc.2.2))) xa_nil) rfl rfl ⟨c.1, (nx rl.nexts c.2).map .int, hc.1, by rw [List.length_map]; exact hpos, by rw [List.length_map]; omega, rfl, .inr rfl, ?_, by rw [List.length_map]; rfl⟩
    rw [List.length_map, List.getElem?_map]
    rw [(pick_at hnx.2.1 c.1).1]
    rfl
  · refine xs_appendP 5 (b.2.2.map .int) (x := .int (picAt rl.pics cc.2)) (ρ1 := in1 cc) (xe_ixT (xe_ixT (xe_var 1) xe_int rfl) (xe_var 4) (atI_map (f := PyData.int) hcc.2.1 (pic_at hrl hcc.2))) ⟨_, _, rfl, rfl⟩ rfl rfl ?_ ?_
    · rw [List.length_map, hb.2]
      omega
    · rw [List.map_append]
      rfl
end
end K
set_option Elab.async false
set_option linter.all false
set_option maxRecDepth 100000
set_option maxHeartbeats 4000000
namespace DL
open PySem PySem.Spec PyProof.Rows L2
section
variable {K : PySem.W.Frag} {F0 G F H : Hp} {σ : L2.St} {ρ ρ1 : List Sl} {X : Cx} {sts : List Stmt}
/-- a list of one's own is data from now on -/
theorem Ok.frz {n : Nat} {xs : List D} (k : Ok K F0 G F H σ ρ) (hr : ρ[n]? = some (.o xs)) : ∃ F', Ok K F0 G F' H σ (ρ.set n (.d (.list xs))) ∧ Same F F' := by
  obtain ⟨p, vs, e1, e2, e3, e4, e5⟩ := k.own n _ xs hr rfl
  have s1 : Same F (upd F p (.lst vs)) := fun b u e => by rw [upd_ne (ne_of_none e e3)]; exact e
  have hn : n < ρ.length := (List.getElem?_eq_some_iff.mp hr).1
  refine ⟨upd F p (.lst vs), ⟨by rw [List.length_set]; exact k.len, fun b u e => ?_, k.gh, fun b hb => ?_, fun i y h => ?_, fun i a' ys h => ?_, fun i s ys h1 h2 => ?_, fun i j s t ys zs a h1 h2 h3 h4 => ?_⟩, s1⟩
  · by_cases hbp : b = p
    · subst hbp; rw [upd_same] at e; cases e; exact e2
    · rw [upd_ne hbp] at e; exact k.fh b u e
  · rw [upd_ne (mut_ne e4 hb)]; exact k.g0 b hb
  · by_cases hi : i = n
    · subst hi
      rw [List.getElem?_set_self hn] at h
      cases h
      exact ⟨.ref p, e1, .lst upd_same (rps_mono s1 _ _ e5)⟩
    · rw [List.getElem?_set_ne (Ne.symm hi)] at h
      obtain ⟨v, q1, q2⟩ := k.dat i y h
      exact ⟨v, q1, rp_mono s1 _ _ q2⟩
  · by_cases hi : i = n
    · subst hi
      rw [List.getElem?_set_self hn] at h
      cases h
    · rw [List.getElem?_set_ne (Ne.symm hi)] at h
      exact k.bor i a' ys h
  · by_cases hi : i = n
    · subst hi
      rw [List.getElem?_set_self hn] at h1
      cases h1
      cases h2
    · rw [List.getElem?_set_ne (Ne.symm hi)] at h1
      obtain ⟨a, ws, q1, q2, q3, q4, q5⟩ := k.has i s ys h1 h2
      have hap : a ≠ p := fun z => hi (k.djh i n s (.o xs) ys (.l xs) p h1 h2 hr rfl (by rw [q1, z]) e1)
      exact ⟨a, ws, q1, q2, by rw [upd_ne hap]; exact q3, q4, q5.mono s1⟩
  · by_cases hi : i = n
    · subst hi
      rw [List.getElem?_set_self hn] at h1
      cases h1; cases h2
    · by_cases hj : j = n
      · subst hj
        rw [List.getElem?_set_self hn] at h3
        cases h3; cases h4
      · rw [List.getElem?_set_ne (Ne.symm hi)] at h1
        rw [List.getElem?_set_ne (Ne.symm hj)] at h3
        exact k.djh i j s t ys zs a h1 h2 h3 h4
theorem xs_frz (n : Nat) {st : Stmt} {xs : List D} (h : XS X st ρ (.nx ρ1)) (hr : ρ1[n]? = some (.o xs)) : XS X st ρ (.nx (ρ1.set n (.d (.list xs)))) := fun F0 G F H σ k Dn r => h F0 G F H σ k Dn fun σ1 F1 H1 k1 f1 => by
  obtain ⟨F2, k2, f2⟩ := k1.frz hr
  exact r σ1 F2 H1 k2 (f1.trans f2)
def foldE {α β : Type} (step : β → Nat → α → β) : Nat → List α → β → β
  | _, [], b => b
  | i, a :: as, b => foldE step (i + 1) as (step b i a)
theorem lr_foldE {α β : Type} {tg : Expr} {body : List Stmt} {enc : Nat → α → D} {sl : β → List Sl} {step : β → Nat → α → β} {P : β → Prop} : ∀ (as : List α) (i : Nat) (b : β), P b → (∀ i, ∀ a ∈ as, ∀ b, P b → P (step b i a) ∧ ∃ vs ρ1, XG X tg vs (enc i a) (sl b) ρ1 ∧ XSs X body ρ1 (.nx (sl (step b i a)))) →
    LR X tg body (encs enc i as) (sl b) (.nx (sl (foldE step i as b)))
  | [], _, _, _, _ => .nil
  | a :: as, i, b, hb, h => by
    obtain ⟨h1, vs, ρ1, h2, h3⟩ := h i a List.mem_cons_self b hb
    exact .next h2 h3 (lr_foldE as (i + 1) _ h1 fun j c hc => h j c (List.mem_cons_of_mem _ hc))
end
end DL
namespace K
open PySem PySem.Spec PyProof.Rows L2 DL
/-! ### _law_beyond -/
def beyS (rl : Reel) (least : Int) (b : List Int × List Int) (i : Nat) : List Int × List Int :=
  (setI (b.1.flatMap (nx rl.nexts)), if least ≤ (i : Nat) then setI (b.2 ++ b.1) else b.2)
def beyM (rl : Reel) (states : List Int) (least most : Int) : List Int := ((List.range (most + 1).toNat).foldl (beyS rl least) (sortI states, [])).2
theorem foldl_cat {f : Int → List Int} : ∀ (l acc : List Int), l.foldl (fun a s => a ++ f s) acc = acc ++ l.flatMap f
  | [], acc => by simp
  | a :: l, acc => by
    rw [List.foldl_cons, foldl_cat l, List.flatMap_cons, List.append_assoc]
def Few (n : Nat) (xs : List Int) : Prop := In n xs ∧ xs.length ≤ 6
theorem setI_few {n : Nat} {xs : List Int} (h6 : n ≤ 6) (h : In n xs) : Few n (setI xs) :=
  have hin : In n (setI xs) := fun s hs => h s (mem_setI.mp hs)
  ⟨hin, Nat.le_trans (lt_len (setI_lt xs) hin) h6⟩
theorem flat_in {rl : Reel} (h : rl.Ok) {xs : List Int} : In rl.nexts.length (xs.flatMap (nx rl.nexts)) := fun s hs => by
  obtain ⟨t, _, hs⟩ := List.mem_flatMap.mp hs
  rcases nx_mem (ns := rl.nexts) (s := t) with e | e
  · rw [e] at hs; cases hs
  · exact (h.row _ e).2.2 s hs
theorem beyS_ok {rl : Reel} (h : rl.Ok) {least : Int} {b : List Int × List Int} (i : Nat) (hb : Few rl.nexts.length b.1 ∧ Few rl.nexts.length b.2) : Few rl.nexts.length (beyS rl least b i).1 ∧ Few rl.nexts.length (beyS rl least b i).2 := by
  refine ⟨setI_few h.few (flat_in h), ?_⟩
  show Few rl.nexts.length (if least ≤ (i : Nat) then setI (b.2 ++ b.1) else b.2)
  split
  · refine setI_few h.few fun s hs => ?_
    rcases List.mem_append.mp hs with e | e
    · exact hb.2.1 s e
    · exact hb.1.1 s e
  · exact hb.2
theorem bey_few {rl : Reel} (h : rl.Ok) {st : List Int} (hs : Few rl.nexts.length st) {least most : Int} : Few rl.nexts.length (beyM rl st least most) := by
  have : ∀ (l : List Nat) (b : List Int × List Int), Few rl.nexts.length b.1 ∧ Few rl.nexts.length b.2 → Few rl.nexts.length (l.foldl (beyS rl least) b).1 ∧ Few rl.nexts.length (l.foldl (beyS rl least) b).2 := by
    intro l
    induction l with
    | nil => exact fun b hb => hb
    | cons a l ih => exact fun b hb => ih _ (beyS_ok h a hb)
  exact (this _ _ ⟨⟨fun s q => hs.1 s ((sortI_perm st).mem_iff.mp q), by rw [(sortI_perm st).length_eq]; exact hs.2⟩, fun s q => (by cases q), Nat.zero_le _⟩).2
section
variable {P : Program} {w : World} {K : PySem.W.Frag} {mg : Str → Option Value} {base : Heap} {f : Addr} {fd : FuncData}
def R_bey (ds : List D) (d : D) : Prop := ∃ (rl : Reel) (st : List Int) (least most : Int), rl.Ok ∧ Few rl.nexts.length st ∧ 0 ≤ most ∧ most ≤ 100 ∧ ds = [eReel rl, eL st, .int least, .int most] ∧ d = eL (beyM rl st least most)
theorem ok_bey (F : Fun K "_law_beyond" "_law_beyond" s_law_beyond f fd) (m_sorted : mg "sorted" = none) (m_set : mg "set" = none) (m_range : mg "range" = none) (m_list : mg "list" = none) : FnOk P w K mg base CX0 1 f fd ["reel", "states", "least", "most"] (spD K 4 R_bey) := by
  refine fn_D F c_law_beyond (by decide) fun cdv A outer s H E ds d hl hr hR => ?_
  obtain ⟨rl, st, least, most, hrl, hst, hm0, hm, rfl, rfl⟩ := hR
  have nd := c_law_beyond.nd
  let sl : List Int × List Int → List Sl := fun b => [.d (eReel rl), .d (eL st), .d (.int least), .d (.int most), .d (eL b.1), .d (eL b.2), .u, .u, .u]
  let b0 : List Int × List Int := (sortI st, [])
  let bb := (List.range (most + 1).toNat).foldl (beyS rl least) b0
  refine rt (ρ' := sl bb) (xss_cons (ρ1 := sl b0) (xs_par 4 5 (x := eL (sortI st)) (y := eL []) (ρ2 := [.d (eReel rl), .d (eL st), .d (.int least), .d (.int most), .u, .u, .u, .u, .u]) rfl nd (XO.xe (xo_callB (cro_sorted (ns := st)) (by rfl) m_sorted b_sorted (xa_cons (xe_var 1) xa_nil))) (xe_lst xa_nil (by simp))) (xss_cons (ρ1 := sl bb) ?_ (xss_one (xs_ret (xe_var 5)))))
  refine xs_for PassesOwn.never rfl (xi_range1 (by rfl) m_range (xe_op br_add (xe_var 3) xe_int) (by omega) (by omega)) ?_
  refine lr_fold (P := fun b : List Int × List Int => Few rl.nexts.length b.1 ∧ Few rl.nexts.length b.2) (sl := sl) (List.range (most + 1).toNat) b0 ⟨⟨fun s q => hst.1 s ((sortI_perm st).mem_iff.mp q), by rw [(sortI_perm st).length_eq]; exact hst.2⟩, fun s q => (by cases q), Nat.zero_le _⟩ fun i _ b hb => ⟨beyS_ok hrl i hb, [6], [.d (eReel rl), .d (eL st), .d (.int least), .d (.int most), .d (eL b.1), .d (eL b.2), .d (.int (0 + (i : Nat))), .u, .u], xg_name 6 nd, ?_⟩
  let in1 : List Int → List Int → List Int → List Sl := fun h f l => [.d (eReel rl), .d (eL st), .d (.int least), .d (.int most), .d (eL h), .d (eL f), .d (.int (0 + (i : Nat))), .d (eL l), .u]
  let f2 : List Int := if least ≤ (i : Nat) then setI (b.2 ++ b.1) else b.2
  have e1 : beyS rl least b i = (setI (b.1.flatMap (nx rl.nexts)), f2) := rfl
  rw [e1]
  have l1 := hb.1.2
  have l2 := hb.2.2
  refine xss_out (ρ1 := in1 (setI (b.1.flatMap (nx rl.nexts))) f2 (b.1.flatMap (nx rl.nexts))) (xss_cons (ρ1 := [.d (eReel rl), .d (eL st), .d (.int least), .d (.int most), .d (eL b.1), .d (eL f2), .d (.int (0 + (i : Nat))), .u, .u]) (xs_set 5 nd (d := eL f2) (ρ1 := [.d (eReel rl), .d (eL st), .d (.int least), .d (.int most), .d (eL b.1), .d (eL b.2), .d (.int (0 + (i : Nat))), .u, .u]) (xe_ifp (bb := decide (least ≤ (i : Nat))) (XT.is (xt_cmp br_ge (xe_var 6) (xe_var 2)) ?_) (fun h => ?_) (fun h => ?_))) (xss_cons (ρ1 := in1 b.1 f2 []) (xs_set 7 nd (xe_lst xa_nil (by simp))) (xss_cons (ρ1 := in1 b.1 f2 (b.1.flatMap (nx rl.nexts))) ?_ (xss_one (xs_set 4 nd (d := eL (setI (b.1.flatMap (nx rl.nexts)))) (ρ1 := in1 b.1 f2 (b.1.flatMap (nx rl.nexts))) (XO.xe ?_)))))) (.keep (.keep (.keep (.keep (.keep (.keep (.drop (.drop (.keep .nil)))))))))
  · rw [Int.zero_add]
  · have e : f2 = setI (b.2 ++ b.1) := if_pos (of_decide_eq_true h)
    rw [e]
    refine XO.xe (xo_sortset (ns := b.2 ++ b.1) rfl (XE.is (xe_op (BRO.br (bro_cat ?_)) (xe_var 5) (xe_var 4)) (by simp)) ?_ (by rfl) m_sorted b_sorted (by rfl) m_set b_set)
    · simp only [List.length_map]; omega
    · rw [List.length_append]; omega
  · have e : f2 = b.2 := if_neg (of_decide_eq_false h)
    rw [e]
    exact xe_var 5
  · refine xs_for PassesOwn.never rfl (xi_list (xe_var 4)) ?_
    have e := foldl_cat (f := nx rl.nexts) b.1 []
    rw [List.nil_append] at e
    rw [← e]
    refine lr_foldN (P := fun j (l : List Int) => l.length ≤ 6 * j) (sl := in1 b.1 f2) b.1 0 6 [] (by omega) (Nat.le_refl _) fun j hj t ht l hl => ⟨?_, [8], [.d (eReel rl), .d (eL st), .d (.int least), .d (.int most), .d (eL b.1), .d (eL f2), .d (.int (0 + (i : Nat))), .d (eL l), .d (.int t)], xg_name 8 nd, ?_⟩
    · rw [List.length_append]
      have := hrl.ns.nx6 t
      omega
    · have h6 := hrl.ns.nx6 t
      refine xss_out (ρ1 := [.d (eReel rl), .d (eL st), .d (.int least), .d (.int most), .d (eL b.1), .d (eL f2), .d (.int (0 + (i : Nat))), .d (eL (l ++ nx rl.nexts t)), .d (.int t)]) (xss_one (xs_set 7 nd (d := eL (l ++ nx rl.nexts t)) (ρ1 := [.d (eReel rl), .d (eL st), .d (.int least), .d (.int most), .d (eL b.1), .d (eL f2), .d (.int (0 + (i : Nat))), .d (eL l), .d (.int t)]) (XE.is (xe_op (BRO.br (bro_cat (ys := (nx rl.nexts t).map .int) ?_)) (xe_var 7) (XO.xe (xo_callTy cro_listT (by rfl) m_list b_list (xa_cons (xe_ixT (xe_ixT (xe_var 0) xe_int rfl) (xe_var 8) (atI_map (f := eT) (hb.1.1 t ht).1 (nx_at (hb.1.1 t ht).1 (hb.1.1 t ht).2))) xa_nil)))) (by simp)))) (.keep (.keep (.keep (.keep (.keep (.keep (.keep (.keep (.drop .nil)))))))))
      simp only [List.length_map]
      omega
  · refine xo_sortset (ns := b.1.flatMap (nx rl.nexts)) rfl (xe_var 7) ?_ (by rfl) m_sorted b_sorted (by rfl) m_set b_set
    have := flat_len (f := nx rl.nexts) (k := 6) (l := b.1) fun x _ => hrl.ns.nx6 x
    omega
end
end K
set_option Elab.async false
set_option linter.all false
set_option maxRecDepth 100000
set_option maxHeartbeats 4000000
namespace K
open PySem PySem.Spec PyProof.Rows L2 DL
/-! ### _law_stands -/
def farM : Option Nat → Int
  | none => 8
  | some g => if (8 : Int) < g then 8 else g
def standS (rl : Reel) (g : Option Nat) (here : List Int) (i : Nat) (p : Int) : List Int :=
  (if (0 : Int) < (i : Nat) then beyM rl here 1 (farM g + 1) else here).filter fun s => decide (picAt rl.pics s = p)
def standM (rl : Reel) (g : Option Nat) (film : List Int) : List Int := foldE (standS rl g) 0 film (beyM rl [0] 0 (farM g))
theorem far_le {g : Option Nat} : 0 ≤ farM g ∧ farM g ≤ 8 := by
  cases g with
  | none => exact ⟨by decide, by decide⟩
  | some g =>
    unfold farM
    simp only []
    split <;> omega
theorem few_filter {n : Nat} {xs : List Int} {p : Int → Bool} (h : Few n xs) : Few n (xs.filter p) :=
  ⟨fun s hs => h.1 s (List.mem_filter.mp hs).1, Nat.le_trans (List.length_filter_le _ _) h.2⟩
theorem standS_few {rl : Reel} (h : rl.Ok) {g : Option Nat} {here : List Int} (i : Nat) (p : Int) (hh : Few rl.nexts.length here) : Few rl.nexts.length (standS rl g here i p) := by
  unfold standS
  refine few_filter ?_
  split
  · exact bey_few h hh
  · exact hh
theorem few_zero {rl : Reel} (h : rl.Ok) : Few rl.nexts.length [0] := ⟨fun s hs => by
  rw [List.mem_singleton.mp hs]
  have := h.some
  omega, by decide⟩
section
variable {P : Program} {w : World} {K : PySem.W.Frag} {mg : Str → Option Value} {base : Heap} {f : Addr} {fd : FuncData}
def R_stand (ds : List D) (d : D) : Prop := ∃ (rl : Reel) (g : Option Nat) (film : List Int), rl.Ok ∧ ds = [eReel rl, eGap g, eT film] ∧ d = eL (standM rl g film)
theorem ok_stand (F : Fun K "_law_stands" "_law_stands" s_law_stands f fd) (m_min : mg "min" = none) (m_enum : mg "enumerate" = none) {f1 : Addr} {fd1 : FuncData} (G1 : FnOk P w K mg base CX0 1 f1 fd1 ["reel", "states", "least", "most"] (spD K 4 R_bey)) (k1 : PySem.W.keepIn K (.ref f1) = true) (b1 : Binds K fd1 ["reel", "states", "least", "most"] []) (m1 : mg "_law_beyond" = some (.ref f1)) :
    FnOk P w K mg base CX0 2 f fd ["reel", "gap", "film"] (spD K 3 R_stand) := by
  refine fn_D F c_law_stands (by decide) fun cdv A outer s H E ds d hl hr hR => ?_
  obtain ⟨rl, g, film, hrl, rfl, rfl⟩ := hR
  have nd := c_law_stands.nd
  have hf := far_le (g := g)
  let sl : List Int → List Sl := fun h => [.d (eReel rl), .d (eGap g), .d (eT film), .d (.int (farM g)), .d (eL h), .u, .u, .u]
  let h0 := beyM rl [0] 0 (farM g)
  refine rt (ρ' := sl (standM rl g film)) (xss_cons (ρ1 := [.d (eReel rl), .d (eGap g), .d (eT film), .d (.int (farM g)), .u, .u, .u, .u]) (xs_set 3 nd (d := .int (farM g)) (ρ1 := [.d (eReel rl), .d (eGap g), .d (eT film), .u, .u, .u, .u, .u]) (xe_ifp (xt_cmp br_isN (xe_var 1) xe_none) (fun h => ?_) (fun h => ?_))) (xss_cons (ρ1 := sl h0) (xs_set 4 nd (xe_call G1 hr (by rfl) m1 k1 b1 (xa_cons (xe_var 0) (xa_cons (xe_lst (xa_cons xe_int xa_nil) (by simp)) (xa_cons xe_int (xa_cons (xe_var 3) xa_nil)))) ⟨rl, [0], 0, farM g, hrl, few_zero hrl, hf.1, by omega, rfl, rfl⟩)) (xss_cons (ρ1 := sl (standM rl g film)) ?_ (xss_one (xs_ret (xe_var 4))))))
  · cases g with
    | none => exact xe_int
    | some g => cases h
  · cases g with
    | none => cases h
    | some g => exact xe_callB (cr_min2 (i := (g : Nat)) (j := 8) rfl) (by rfl) m_min b_min (xa_cons (xe_var 1) (xa_cons xe_int xa_nil))
  · refine xs_for PassesOwn.never rfl (ρ1 := sl h0) (ds := enumD (film.map .int)) (xi_enumT (by rfl) m_enum (xe_var 2)) ?_
    rw [enumD_encs]
    refine lr_foldE (P := fun h => Few rl.nexts.length h) (sl := sl) (step := standS rl g) film 0 h0 (bey_few hrl (few_zero hrl)) fun i p _ here hh => ⟨standS_few hrl i p hh, [5, 6], [.d (eReel rl), .d (eGap g), .d (eT film), .d (.int (farM g)), .d (eL here), .d (.int (i : Nat)), .d (.int p), .u], xg_tup rfl (xgs_cons (xg_name 5 nd) (xgs_cons (xg_name 6 nd) xgs_nil)), ?_⟩
    let h1 : List Int := if (0 : Int) < (i : Nat) then beyM rl here 1 (farM g + 1) else here
    have hf1 : Few rl.nexts.length h1 := by
      show Few rl.nexts.length (if (0 : Int) < (i : Nat) then beyM rl here 1 (farM g + 1) else here)
      split
      · exact bey_few hrl hh
      · exact hh
    let in1 : List Int → List Sl := fun h => [.d (eReel rl), .d (eGap g), .d (eT film), .d (.int (farM g)), .d (eL h), .d (.int (i : Nat)), .d (.int p), .u]
    have e1 : standS rl g here i p = h1.filter fun s => decide (picAt rl.pics s = p) := rfl
    rw [e1]
    refine xss_out (ρ1 := in1 (h1.filter fun s => decide (picAt rl.pics s = p))) (xss_cons (ρ1 := in1 h1) (xs_set 4 nd (d := eL h1) (ρ1 := in1 here) (xe_ifp (xt_cmp br_gt (xe_var 5) xe_int) (fun h => ?_) (fun h => ?_))) (xss_one (xs_frz 4 (ρ1 := [.d (eReel rl), .d (eGap g), .d (eT film), .d (.int (farM g)), .o ((h1.filter fun s => decide (picAt rl.pics s = p)).map .int), .d (.int (i : Nat)), .d (.int p), .u]) ?_ rfl))) (.keep (.keep (.keep (.keep (.keep (.drop (.drop (.keep .nil))))))))
    · have e : h1 = beyM rl here 1 (farM g + 1) := if_pos (of_decide_eq_true h)
      rw [e]
      exact xe_call G1 hr (by rfl) m1 k1 b1 (xa_cons (xe_var 0) (xa_cons (xe_var 4) (xa_cons xe_int (xa_cons (xe_op br_add (xe_var 3) xe_int) xa_nil)))) ⟨rl, here, 1, farM g + 1, hrl, hh, by omega, by omega, rfl, rfl⟩
    · have e : h1 = here := if_neg (of_decide_eq_false h)
      rw [e]
      exact xe_var 4
    · refine xs_setLc 4 (own := [("state", 7)]) (ρ0 := in1 h1) (ρ' := in1 h1) rfl nd (xi_list (xe_var 4)) (blkOk_by (N := n_law_stands) (sc := defScope s_law_stands) (by decide +kernel)) ?_ ?_
      · refine lc_pure (ws := [7]) (p := fun s => decide (picAt rl.pics s = p)) (g := fun s => [.d (eReel rl), .d (eGap g), .d (eT film), .d (.int (farM g)), .d (eL h1), .d (.int (i : Nat)), .d (.int p), .d (.int s)]) (by decide) _ (fun s hs s' H' C' cl fp => ⟨xg_name 7 nd, ?_, fun _ => xe_var 7⟩) (fun s hs => rfl)
        exact xts_one (xt_cmp br_eqI (xe_ixT (xe_ixT (xe_var 0) xe_int rfl) (xe_var 7) (atI_map (f := PyData.int) (hf1.1 s hs).1 (pic_at hrl (hf1.1 s hs)))) (xe_var 6))
      · rw [List.length_map]
        have := (few_filter (p := fun s => decide (picAt rl.pics s = p)) hf1).2
        omega
end
end K
set_option Elab.async false
set_option linter.all false
set_option maxRecDepth 100000
set_option maxHeartbeats 4000000
namespace K
open PySem PySem.Spec PyProof.Rows L2 DL
/-! ### _law_alike: alike itself -/
/-- data to be held against one another, nested so deep -/
inductive Al : Nat → D → Prop
  | no (n : Nat) : Al n .none
  | bl (n : Nat) (b : Bool) : Al n (.bool b)
  | int (n : Nat) (i : Int) : Al n (.int i)
  | lst {n : Nat} {ds : List D} : (∀ d ∈ ds, Al n d) → ds.length < 2000 → Al (n + 1) (.list ds)
  | tup {n : Nat} {ds : List D} : (∀ d ∈ ds, Al n d) → ds.length < 2000 → Al (n + 1) (.tuple ds)
def R_al (n : Nat) (ds : List D) (d : D) : Prop := ∃ x, Al n x ∧ ds = [x, x] ∧ d = .bool true
theorem ktNt : kitB "NoneType" "tuple" = some false := by decide +kernel
theorem ktNl : kitB "NoneType" "list" = some false := by decide +kernel
theorem ktNs : kitB "NoneType" "str" = some false := by decide +kernel
theorem ktBt : kitB "bool" "tuple" = some false := by decide +kernel
theorem ktBl : kitB "bool" "list" = some false := by decide +kernel
theorem ktBs : kitB "bool" "str" = some false := by decide +kernel
theorem ktBi : kitB "bool" "int" = some true := by decide +kernel
theorem ktBb : kitB "bool" "bool" = some true := by decide +kernel
theorem ktIt : kitB "int" "tuple" = some false := by decide +kernel
theorem ktIl : kitB "int" "list" = some false := by decide +kernel
theorem ktIs : kitB "int" "str" = some false := by decide +kernel
theorem ktLt : kitB "list" "tuple" = some false := by decide +kernel
theorem ktLl : kitB "list" "list" = some true := by decide +kernel
theorem ktTl : kitB "tuple" "list" = some false := by decide +kernel
section
variable {P : Program} {w : World} {K : PySem.W.Frag} {mg : Str → Option Value} {base : Heap} {f : Addr} {fd : FuncData}
def leaf : D → Bool
  | .none => true
  | .bool _ => true
  | .int _ => true
  | _ => false
theorem alike_leaf {x : D} (hx : leaf x = true) (m_isi : mg "isinstance" = none) (m_tuple : mg "tuple" = none) (m_list : mg "list" = none) (m_str : mg "str" = none) (m_int : mg "int" = none) (m_bool : mg "bool" = none) {k : Nat} {cdv : Value} {A : Around} {outer : List Env} {s : Shared} {H : Hp} {E : XK} (hr : Room k (A.deeper (envOfC "_law_alike" (defScope s_law_alike) s.heap.objs.size f cdv))) :
    XSs (fX P w K mg base n_law_alike "_law_alike" s_law_alike f cdv A outer s H E) (defBody s_law_alike) [.d x, .d x, .u] (.rt (.bool true) [.d x, .d x, .u]) := by
  cases x with
  | none =>
    refine xss_cons (ρ1 := [.d .none, .d .none, .u]) (xs_if (bb := false) (xt_val (xe_isi2 (x := .none) (b1 := false) (b2 := false) (xe_var 1) ktNt ktNl (by rfl) m_isi b_isinstance (by rfl) m_tuple b_tuple (by rfl) m_list b_list)) (fun h => by cases h) fun _ => xss_nil) ?_
    refine xss_stop (xs_if (bb := true) (XT.is (xt_orp (b1 := true) (b2 := true) (xt_cmp br_isN (xe_var 1) xe_none) (fun h => by cases h)) rfl) (fun _ => xss_one (xs_ret ?_)) fun h => by cases h)
    refine XE.is (xe_andp (b1 := true) (b2 := true) (XE.is (xe_cmp (br_eqD (x := .none) (y := .none) hr.units (by decide) (by decide)) (xe_var 0) (xe_var 1)) ?_) fun _ => xe_one (XE.is (xe_cmp (br_eqB (i := false) (j := false)) (xe_isi (x := .none) (xe_var 0) ktNs (by rfl) m_isi b_isinstance (by rfl) m_str b_str) (xe_isi (x := .none) (xe_var 1) ktNs (by rfl) m_isi b_isinstance (by rfl) m_str b_str)) rfl)) rfl
    simp [PyData.eqv]
  | bool b =>
    refine xss_cons (ρ1 := [.d (.bool b), .d (.bool b), .u]) (xs_if (bb := false) (xt_val (xe_isi2 (x := .bool b) (b1 := false) (b2 := false) (xe_var 1) ktBt ktBl (by rfl) m_isi b_isinstance (by rfl) m_tuple b_tuple (by rfl) m_list b_list)) (fun h => by cases h) fun _ => xss_nil) ?_
    refine xss_cons (ρ1 := [.d (.bool b), .d (.bool b), .u]) (xs_if (bb := false) (XT.is (xt_orp (b1 := false) (b2 := false) (xt_cmp br_isN (xe_var 1) xe_none) (fun _ => xt_val (xe_isi (x := .bool b) (xe_var 1) ktBs (by rfl) m_isi b_isinstance (by rfl) m_str b_str))) rfl) (fun h => by cases h) fun _ => xss_nil) (xss_one (xs_ret ?_))
    refine XE.is (xe_andp (b1 := true) (b2 := true) (xe_isi (x := .bool b) (xe_var 0) ktBi (by rfl) m_isi b_isinstance (by rfl) m_int b_int) fun _ => XE.is (xe_andp (b1 := true) (b2 := true) (XE.is (xe_cmp (br_eqB (i := true) (j := true)) (xe_isi (x := .bool b) (xe_var 0) ktBb (by rfl) m_isi b_isinstance (by rfl) m_bool b_bool) (xe_isi (x := .bool b) (xe_var 1) ktBb (by rfl) m_isi b_isinstance (by rfl) m_bool b_bool)) rfl) fun _ => xe_one (XE.is (xe_cmp br_eqB (xe_var 0) (xe_var 1)) (by simp))) rfl) rfl
  | int i =>
    refine xss_cons (ρ1 := [.d (.int i), .d (.int i), .u]) (xs_if (bb := false) (xt_val (xe_isi2 (x := .int i) (b1 := false) (b2 := false) (xe_var 1) ktIt ktIl (by rfl) m_isi b_isinstance (by rfl) m_tuple b_tuple (by rfl) m_list b_list)) (fun h => by cases h) fun _ => xss_nil) ?_
    refine xss_cons (ρ1 := [.d (.int i), .d (.int i), .u]) (xs_if (bb := false) (XT.is (xt_orp (b1 := false) (b2 := false) (xt_cmp br_isN (xe_var 1) xe_none) (fun _ => xt_val (xe_isi (x := .int i) (xe_var 1) ktIs (by rfl) m_isi b_isinstance (by rfl) m_str b_str))) rfl) (fun h => by cases h) fun _ => xss_nil) (xss_one (xs_ret ?_))
    refine XE.is (xe_andp (b1 := true) (b2 := true) (xe_isi (x := .int i) (xe_var 0) kt_ii (by rfl) m_isi b_isinstance (by rfl) m_int b_int) fun _ => XE.is (xe_andp (b1 := true) (b2 := true) (XE.is (xe_cmp (br_eqB (i := false) (j := false)) (xe_isi (x := .int i) (xe_var 0) kt_ib (by rfl) m_isi b_isinstance (by rfl) m_bool b_bool) (xe_isi (x := .int i) (xe_var 1) kt_ib (by rfl) m_isi b_isinstance (by rfl) m_bool b_bool)) rfl) fun _ => xe_one (XE.is (xe_cmp br_eqI (xe_var 0) (xe_var 1)) (by simp))) rfl) rfl
  | _ => cases hx
/-- nothing is struck out -/
theorem no_left {n : Nat} : ((List.range n).filter fun _ => false).map (fun k => PyData.int (0 + (k : Nat))) = ([] : List Int).map .int := by
  rw [List.filter_eq_nil_iff.mpr fun _ _ => Bool.false_ne_true]
  rfl
theorem ok_alike (F : Fun K "_law_alike" "_law_alike" s_law_alike f fd) (m_isi : mg "isinstance" = none) (m_tuple : mg "tuple" = none) (m_list : mg "list" = none) (m_len : mg "len" = none) (m_range : mg "range" = none) (m_str : mg "str" = none) (m_int : mg "int" = none) (m_bool : mg "bool" = none) (k1 : PySem.W.keepIn K (.ref f) = true) (b1 : Binds K fd ["found", "due"] []) (m1 : mg "_law_alike" = some (.ref f)) :
    ∀ n, FnOk P w K mg base CX0 (n + 1) f fd ["found", "due"] (spD K 2 (R_al n)) := by
  intro n
  induction n with
  | zero =>
    refine fn_D F c_law_alike (by decide) fun cdv A outer s H E ds d hl hr hR => ?_
    obtain ⟨x, hx, rfl, rfl⟩ := hR
    have hx' : leaf x = true := by cases hx <;> rfl
    exact rt (alike_leaf hx' m_isi m_tuple m_list m_str m_int m_bool hr)
  | succ n ih =>
    refine fn_D F c_law_alike (by decide) fun cdv A outer s H E ds d hl hr hR => ?_
    obtain ⟨x, hx, rfl, rfl⟩ := hR
    have nd := c_law_alike.nd
    cases hx with
    | no => exact rt (alike_leaf rfl m_isi m_tuple m_list m_str m_int m_bool hr)
    | bl _ b => exact rt (alike_leaf rfl m_isi m_tuple m_list m_str m_int m_bool hr)
    | int _ i => exact rt (alike_leaf rfl m_isi m_tuple m_list m_str m_int m_bool hr)
    | @lst _ es hes hz =>
      let sl : List Sl := [.d (.list es), .d (.list es), .u]
      refine rt (ρ' := sl) (xss_stop (xs_if (bb := true) (xt_val (xe_isi2 (x := .list es) (b1 := false) (b2 := true) (xe_var 1) ktLt ktLl (by rfl) m_isi b_isinstance (by rfl) m_tuple b_tuple (by rfl) m_list b_list)) (fun _ => xss_cons (ρ1 := sl) (xs_if (bb := false) (XT.is (xt_orp (b1 := false) (b2 := false) ?_ fun _ => ?_) rfl) (fun h => by cases h) fun _ => xss_nil) (xss_cons (ρ1 := sl) (xs_if (bb := false) (XT.is (xt_cmp br_neI (xe_callB cr_lenL (by rfl) m_len b_len (xa_cons (xe_var 0) xa_nil)) (xe_callB cr_lenL (by rfl) m_len b_len (xa_cons (xe_var 1) xa_nil))) (by simp)) (fun h => by cases h) fun _ => xss_nil) (xss_one (xs_ret (XE.is (xe_cmp (br_eqL (ns := []) (ms := []) hr.units) (XO.xe ?_) (xe_lst xa_nil (by simp))) rfl))))) fun h => by cases h))
      · exact xt_not (bb := true) (xt_val (xe_isi2 (x := .list es) (b1 := false) (b2 := true) (xe_var 0) ktLt ktLl (by rfl) m_isi b_isinstance (by rfl) m_tuple b_tuple (by rfl) m_list b_list))
      · exact XT.is (xt_cmp (br_neB (i := true) (j := true)) (xe_isi (x := .list es) (xe_var 0) ktLl (by rfl) m_isi b_isinstance (by rfl) m_list b_list) (xe_isi (x := .list es) (xe_var 1) ktLl (by rfl) m_isi b_isinstance (by rfl) m_list b_list)) rfl
      · rw [← no_left (n := es.length)]
        refine xo_lcp (own := [("k", 2)]) rfl nd (blkOk_by (N := n_law_alike) (sc := defScope s_law_alike) (by decide +kernel)) (xi_range1 (i := (es.length : Nat)) (by rfl) m_range (xe_callB cr_lenL (by rfl) m_len b_len (xa_cons (xe_var 1) xa_nil)) (by omega) (by omega)) ?_ ?_
        · refine lc_pure (ws := [2]) (p := fun _ => false) (g := fun k => [.d (.list es), .d (.list es), .d (.int (0 + (k : Nat)))]) (by decide) (List.range es.length) (fun k hk s' H' C' cl fp => ⟨xg_name 2 nd, ?_, fun h => by cases h⟩) (fun k hk => rfl)
          have hlt : k < es.length := List.mem_range.mp hk
          have hat : atI es (0 + (k : Nat)) = some es[k] := by
            rw [Int.zero_add]
            exact atI_nat (List.getElem?_eq_getElem hlt)
          exact xts_one (xt_not (bb := true) (xt_val (xe_call ih hr (by rfl) m1 k1 b1 (xa_cons (x := es[k]) (xe_ixL (xe_var 0) (xe_var 2) hat) (xa_cons (x := es[k]) (xe_ixL (xe_var 1) (xe_var 2) hat) xa_nil)) ⟨es[k], hes _ (List.getElem_mem hlt), rfl, rfl⟩)))
        · rw [no_left]
          decide
    | @tup _ es hes hz =>
      let sl : List Sl := [.d (.tuple es), .d (.tuple es), .u]
      refine rt (ρ' := sl) (xss_stop (xs_if (bb := true) (xt_val (xe_isi2 (x := .tuple es) (b1 := true) (b2 := false) (xe_var 1) kt_tt ktTl (by rfl) m_isi b_isinstance (by rfl) m_tuple b_tuple (by rfl) m_list b_list)) (fun _ => xss_cons (ρ1 := sl) (xs_if (bb := false) (XT.is (xt_orp (b1 := false) (b2 := false) ?_ fun _ => ?_) rfl) (fun h => by cases h) fun _ => xss_nil) (xss_cons (ρ1 := sl) (xs_if (bb := false) (XT.is (xt_cmp br_neI (xe_callB cr_lenT (by rfl) m_len b_len (xa_cons (xe_var 0) xa_nil)) (xe_callB cr_lenT (by rfl) m_len b_len (xa_cons (xe_var 1) xa_nil))) (by simp)) (fun h => by cases h) fun _ => xss_nil) (xss_one (xs_ret (XE.is (xe_cmp (br_eqL (ns := []) (ms := []) hr.units) (XO.xe ?_) (xe_lst xa_nil (by simp))) rfl))))) fun h => by cases h))
      · exact xt_not (bb := true) (xt_val (xe_isi2 (x := .tuple es) (b1 := true) (b2 := false) (xe_var 0) kt_tt ktTl (by rfl) m_isi b_isinstance (by rfl) m_tuple b_tuple (by rfl) m_list b_list))
      · exact XT.is (xt_cmp (br_neB (i := false) (j := false)) (xe_isi (x := .tuple es) (xe_var 0) ktTl (by rfl) m_isi b_isinstance (by rfl) m_list b_list) (xe_isi (x := .tuple es) (xe_var 1) ktTl (by rfl) m_isi b_isinstance (by rfl) m_list b_list)) rfl
      · rw [← no_left (n := es.length)]
        refine xo_lcp (own := [("k", 2)]) rfl nd (blkOk_by (N := n_law_alike) (sc := defScope s_law_alike) (by decide +kernel)) (xi_range1 (i := (es.length : Nat)) (by rfl) m_range (xe_callB cr_lenT (by rfl) m_len b_len (xa_cons (xe_var 1) xa_nil)) (by omega) (by omega)) ?_ ?_
        · refine lc_pure (ws := [2]) (p := fun _ => false) (g := fun k => [.d (.tuple es), .d (.tuple es), .d (.int (0 + (k : Nat)))]) (by decide) (List.range es.length) (fun k hk s' H' C' cl fp => ⟨xg_name 2 nd, ?_, fun h => by cases h⟩) (fun k hk => rfl)
          have hlt : k < es.length := List.mem_range.mp hk
          have hat : atI es (0 + (k : Nat)) = some es[k] := by
            rw [Int.zero_add]
            exact atI_nat (List.getElem?_eq_getElem hlt)
          exact xts_one (xt_not (bb := true) (xt_val (xe_call ih hr (by rfl) m1 k1 b1 (xa_cons (x := es[k]) (xe_ixT (xe_var 0) (xe_var 2) hat) (xa_cons (x := es[k]) (xe_ixT (xe_var 1) (xe_var 2) hat) xa_nil)) ⟨es[k], hes _ (List.getElem_mem hlt), rfl, rfl⟩)))
        · rw [no_left]
          decide
end
end K
set_option Elab.async false
set_option linter.all false
set_option maxRecDepth 100000
set_option maxHeartbeats 4000000
/-! the mathematics of point 3: what the program takes for the states is what the law takes for them -/
namespace K
open PySem PySem.Spec PyProof.Rows L2 DL
/-- from s to t by so many steps -/
def Pt (ns : List (List Int)) : Nat → Int → Int → Prop
  | 0, s, t => s = t
  | i + 1, s, t => ∃ u, Pt ns i s u ∧ t ∈ nx ns u
theorem pt_head {ns : List (List Int)} {s t : Int} : ∀ {i : Nat}, Pt ns (i + 1) s t ↔ ∃ u ∈ nx ns s, Pt ns i u t
  | 0 => ⟨fun ⟨u, h, h2⟩ => by cases h; exact ⟨t, h2, rfl⟩, fun ⟨u, h, h2⟩ => by cases h2; exact ⟨s, rfl, h⟩⟩
  | i + 1 => ⟨fun ⟨u, h, h2⟩ => by
      obtain ⟨v, h3, h4⟩ := pt_head.mp h
      exact ⟨v, h3, u, h4, h2⟩, fun ⟨v, h3, u, h4, h2⟩ => ⟨u, pt_head.mpr ⟨v, h3, h4⟩, h2⟩⟩
theorem pt_add {ns : List (List Int)} {s u t : Int} {i : Nat} (h : Pt ns i s u) : ∀ {j : Nat}, Pt ns j u t → Pt ns (i + j) s t
  | 0, q => by cases q; exact h
  | j + 1, ⟨v, q1, q2⟩ => ⟨v, pt_add h q1, q2⟩
theorem mem_grow {ns : List (List Int)} {f : List Int} {t : Int} : t ∈ grow ns f ↔ t ∈ f ∨ ∃ s ∈ f, t ∈ nx ns s := by
  unfold grow
  rw [mem_setI, List.mem_append, List.mem_flatMap]
theorem iter_succ {α : Type} (f : α → α) : ∀ (n : Nat) (x : α), iter f (n + 1) x = f (iter f n x)
  | 0, _ => rfl
  | n + 1, x => by
    show iter f (n + 1) (f x) = _
    rw [iter_succ f n (f x)]
    rfl
theorem mem_iter {ns : List (List Int)} {st : List Int} {t : Int} : ∀ {k : Nat}, t ∈ iter (grow ns) k st ↔ ∃ i, i ≤ k ∧ ∃ s ∈ st, Pt ns i s t := by
  intro k
  induction k generalizing t with
  | zero => exact ⟨fun h => ⟨0, Nat.le_refl _, t, h, rfl⟩, fun ⟨i, hi, s, hs, p⟩ => by
      obtain rfl : i = 0 := by omega
      cases p
      exact hs⟩
  | succ k ih =>
    rw [iter_succ, mem_grow]
    constructor
    · rintro (h | ⟨u, h, hn⟩)
      · obtain ⟨i, hi, s, hs, p⟩ := ih.mp h
        exact ⟨i, by omega, s, hs, p⟩
      · obtain ⟨i, hi, s, hs, p⟩ := ih.mp h
        exact ⟨i + 1, by omega, s, hs, u, p, hn⟩
    · rintro ⟨i, hi, s, hs, p⟩
      by_cases hk : i ≤ k
      · exact .inl (ih.mpr ⟨i, hk, s, hs, p⟩)
      · obtain rfl : i = k + 1 := by omega
        obtain ⟨u, p1, p2⟩ := p
        exact .inr ⟨u, ih.mpr ⟨k, Nat.le_refl _, s, hs, p1⟩, p2⟩
/-- ascending lists one in the other, of one length -/
theorem sub_list : ∀ {ys xs : List Int}, xs.Pairwise (· < ·) → ys.Pairwise (· < ·) → (∀ x ∈ xs, x ∈ ys) → xs.Sublist ys
  | [], [], _, _, _ => .slnil
  | [], x :: xs, _, _, h => by cases h x List.mem_cons_self
  | y :: ys, [], _, _, _ => List.nil_sublist _
  | y :: ys, x :: xs, hx, hy, h => by
    have hx' := List.pairwise_cons.mp hx
    have hy' := List.pairwise_cons.mp hy
    by_cases e : x = y
    · subst e
      refine .cons₂ _ (sub_list hx'.2 hy'.2 fun z hz => ?_)
      rcases List.mem_cons.mp (h z (List.mem_cons_of_mem _ hz)) with q | q
      · have := hx'.1 z hz; omega
      · exact q
    · have hxy : x ∈ ys := (List.mem_cons.mp (h x List.mem_cons_self)).resolve_left e
      have hlt := hy'.1 x hxy
      refine .cons _ (sub_list hx hy'.2 fun z hz => ?_)
      rcases List.mem_cons.mp (h z hz) with q | q
      · rcases List.mem_cons.mp hz with q2 | q2
        · omega
        · have := hx'.1 z q2; omega
      · exact q
theorem sub_eq {xs ys : List Int} (hx : xs.Pairwise (· < ·)) (hy : ys.Pairwise (· < ·)) (hs : ∀ x ∈ xs, x ∈ ys) (hl : ys.length ≤ xs.length) : xs = ys := (sub_list hx hy hs).eq_of_length_le hl
theorem grow_sub {ns : List (List Int)} {f : List Int} : ∀ x ∈ f, x ∈ grow ns f := fun x h => mem_grow.mpr (.inl h)
/-- nothing new comes behind as many steps as there are states -/
theorem iter_stable {ns : List (List Int)} (hn : ∀ r ∈ ns, In ns.length r) {st : List Int} (hst : In ns.length st) : ∀ k, ns.length ≤ k → iter (grow ns) (k + 1) (setI st) = iter (grow ns) k (setI st) := by
  have hin : ∀ k, In ns.length (iter (grow ns) k (setI st)) := fun k => iter_inv (fun x hx => grow_in hn hx) (fun s hs => hst s (mem_setI.mp hs)) k
  have hlt : ∀ k, (iter (grow ns) k (setI st)).Pairwise (· < ·) := fun k => iter_lt k (setI_lt _)
  have key : ∀ k, iter (grow ns) (k + 1) (setI st) = iter (grow ns) k (setI st) ∨ k < (iter (grow ns) (k + 1) (setI st)).length := by
    intro k
    induction k with
    | zero =>
      by_cases e : (iter (grow ns) 1 (setI st)).length = 0
      · refine .inl ?_
        have h0 : iter (grow ns) 1 (setI st) = [] := List.eq_nil_of_length_eq_zero e
        have h1 : setI st = [] := List.eq_nil_iff_forall_not_mem.mpr fun x hx => by
          have := grow_sub (ns := ns) x hx
          rw [show grow ns (setI st) = iter (grow ns) 1 (setI st) from rfl, h0] at this
          cases this
        rw [h0]
        exact h1.symm
      · exact .inr (Nat.pos_of_ne_zero e)
    | succ k ih =>
      rcases ih with ih | ih
      · refine .inl ?_
        rw [iter_succ (grow ns) (k + 1), ih]
        exact (iter_succ (grow ns) k _).symm.trans ih
      · by_cases e : iter (grow ns) (k + 1 + 1) (setI st) = iter (grow ns) (k + 1) (setI st)
        · exact .inl e
        · refine .inr ?_
          have hsub : ∀ x ∈ iter (grow ns) (k + 1) (setI st), x ∈ iter (grow ns) (k + 1 + 1) (setI st) := fun x hx => by
            rw [iter_succ (grow ns) (k + 1)]
            exact grow_sub x hx
          have : ¬ (iter (grow ns) (k + 1 + 1) (setI st)).length ≤ (iter (grow ns) (k + 1) (setI st)).length := fun h => e (sub_eq (hlt _) (hlt _) hsub h).symm
          omega
  intro k hk
  rcases key k with h | h
  · exact h
  · have := lt_len (hlt (k + 1)) (hin (k + 1))
    omega
theorem iter_same {ns : List (List Int)} (hn : ∀ r ∈ ns, In ns.length r) {st : List Int} (hst : In ns.length st) : ∀ d, iter (grow ns) (ns.length + d) (setI st) = iter (grow ns) ns.length (setI st)
  | 0 => rfl
  | d + 1 => by
    rw [← iter_same hn hst d]
    exact iter_stable hn hst (ns.length + d) (by omega)
theorem pt_short {ns : List (List Int)} (hn : ∀ r ∈ ns, In ns.length r) {st : List Int} (hst : In ns.length st) {t : Int} {i : Nat} (h : ∃ s ∈ st, Pt ns i s t) : ∃ j, j ≤ ns.length ∧ ∃ s ∈ st, Pt ns j s t := by
  obtain ⟨s, hs, p⟩ := h
  have h1 : t ∈ iter (grow ns) (ns.length + i) (setI st) := mem_iter.mpr ⟨i, by omega, s, mem_setI.mpr hs, p⟩
  rw [iter_same hn hst] at h1
  obtain ⟨j, hj, s, hs, p⟩ := mem_iter.mp h1
  exact ⟨j, hj, s, mem_setI.mp hs, p⟩
theorem bey_fold {rl : Reel} {st : List Int} {least : Int} : ∀ m : Nat, (∀ t, t ∈ ((List.range m).foldl (beyS rl least) (sortI st, [])).1 ↔ ∃ s ∈ st, Pt rl.nexts m s t) ∧
    (∀ t, t ∈ ((List.range m).foldl (beyS rl least) (sortI st, [])).2 ↔ ∃ i : Nat, least ≤ i ∧ i < m ∧ ∃ s ∈ st, Pt rl.nexts i s t) ∧ ((List.range m).foldl (beyS rl least) (sortI st, [])).2.Pairwise (· < ·)
  | 0 => ⟨fun t => ⟨fun h => ⟨t, (sortI_perm st).mem_iff.mp h, rfl⟩, fun ⟨s, hs, p⟩ => by cases p; exact (sortI_perm st).mem_iff.mpr hs⟩, fun t => ⟨fun h => (by cases h), fun ⟨i, _, hi, _⟩ => absurd hi (Nat.not_lt_zero _)⟩, .nil⟩
  | m + 1 => by
    obtain ⟨h1, h2, h3⟩ := bey_fold (rl := rl) (st := st) (least := least) m
    rw [List.range_succ, List.foldl_append, List.foldl_cons, List.foldl_nil]
    generalize (List.range m).foldl (beyS rl least) (sortI st, []) = b at h1 h2 h3
    refine ⟨fun t => ?_, fun t => ?_, ?_⟩
    · show t ∈ setI (b.1.flatMap (nx rl.nexts)) ↔ _
      rw [mem_setI, List.mem_flatMap]
      exact ⟨fun ⟨u, hu, ht⟩ => (h1 u).mp hu |>.elim fun s q => ⟨s, q.1, u, q.2, ht⟩, fun ⟨s, hs, u, hu, ht⟩ => ⟨u, (h1 u).mpr ⟨s, hs, hu⟩, ht⟩⟩
    · show t ∈ (if least ≤ (m : Nat) then setI (b.2 ++ b.1) else b.2) ↔ _
      by_cases hl : least ≤ (m : Nat)
      · rw [if_pos hl, mem_setI, List.mem_append, h1, h2]
        constructor
        · rintro (⟨i, q1, q2, q3⟩ | q)
          · exact ⟨i, q1, by omega, q3⟩
          · exact ⟨m, hl, by omega, q⟩
        · rintro ⟨i, q1, q2, q3⟩
          by_cases hi : i < m
          · exact .inl ⟨i, q1, hi, q3⟩
          · obtain rfl : i = m := by omega
            exact .inr q3
      · rw [if_neg hl, h2]
        exact ⟨fun ⟨i, q1, q2, q3⟩ => ⟨i, q1, by omega, q3⟩, fun ⟨i, q1, q2, q3⟩ => ⟨i, q1, by omega, q3⟩⟩
    · show (if least ≤ (m : Nat) then setI (b.2 ++ b.1) else b.2).Pairwise (· < ·)
      split
      · exact setI_lt _
      · exact h3
theorem mem_bey {rl : Reel} {st : List Int} {least most : Int} (h0 : 0 ≤ most) {t : Int} : t ∈ beyM rl st least most ↔ ∃ i : Nat, least ≤ i ∧ (i : Int) ≤ most ∧ ∃ s ∈ st, Pt rl.nexts i s t := by
  unfold beyM
  rw [(bey_fold _).2.1]
  exact ⟨fun ⟨i, q1, q2, q3⟩ => ⟨i, q1, by omega, q3⟩, fun ⟨i, q1, q2, q3⟩ => ⟨i, q1, by omega, q3⟩⟩
theorem bey_lt {rl : Reel} {st : List Int} {least most : Int} : (beyM rl st least most).Pairwise (· < ·) := (bey_fold _).2.2
theorem reach_eq {ns : List (List Int)} (hn : ∀ r ∈ ns, In ns.length r) {st : List Int} (hst : In ns.length st) {a b : Nat} (hab : a = b ∨ (ns.length ≤ a ∧ ns.length ≤ b)) {t : Int} : (∃ i, i ≤ a ∧ ∃ s ∈ st, Pt ns i s t) ↔ ∃ i, i ≤ b ∧ ∃ s ∈ st, Pt ns i s t := by
  rcases hab with rfl | ⟨ha, hb⟩
  · exact Iff.rfl
  · constructor
    · rintro ⟨i, _, h⟩
      obtain ⟨j, hj, h⟩ := pt_short hn hst h
      exact ⟨j, by omega, h⟩
    · rintro ⟨i, _, h⟩
      obtain ⟨j, hj, h⟩ := pt_short hn hst h
      exact ⟨j, by omega, h⟩
theorem far_gap {n : Nat} (hn : n ≤ 6) (g : Option Nat) : g.getD n = (farM g).toNat ∨ (n ≤ g.getD n ∧ n ≤ (farM g).toNat) := by
  cases g with
  | none => exact .inr ⟨Nat.le_refl _, by show n ≤ 8; omega⟩
  | some g =>
    unfold farM
    simp only [Option.getD_some]
    split <;> omega
theorem mem_within {ns : List (List Int)} {st : List Int} {g : Option Nat} {t : Int} : t ∈ withinM ns st g ↔ ∃ i, i ≤ g.getD ns.length ∧ ∃ s ∈ st, Pt ns i s t := by
  unfold withinM
  rw [mem_iter]
  exact ⟨fun ⟨i, hi, s, hs, p⟩ => ⟨i, hi, s, (sortI_perm st).mem_iff.mp hs, p⟩, fun ⟨i, hi, s, hs, p⟩ => ⟨i, hi, s, (sortI_perm st).mem_iff.mpr hs, p⟩⟩
section
variable {rl : Reel} {g : Option Nat}
theorem zero_in (h : rl.Ok) : In rl.nexts.length [0] := (few_zero h).1
theorem rows_in (h : rl.Ok) : ∀ r ∈ rl.nexts, In rl.nexts.length r := fun r hr => (h.row r hr).2.2
theorem within_zero (h : rl.Ok) : withinM rl.nexts [0] g = beyM rl [0] 0 (farM g) := by
  have hf := far_le (g := g)
  refine lt_one (within_lt (List.pairwise_singleton _ _) g) bey_lt fun t => ?_
  rw [mem_within, mem_bey hf.1, reach_eq (rows_in h) (zero_in h) (far_gap h.few g)]
  exact ⟨fun ⟨i, hi, q⟩ => ⟨i, by omega, by omega, q⟩, fun ⟨i, _, hi, q⟩ => ⟨i, by omega, q⟩⟩
/-- a row of the program: the states at which a next frame may be -/
theorem rows_at {s : Int} (hs : St rl s) : nx (leapsM rl g) s = withinM rl.nexts (nx rl.nexts s) g := by
  have hlt : s.toNat < rl.nexts.length := by have := hs.1; have := hs.2; omega
  unfold nx leapsM
  rw [List.getElem?_append_left (by rw [List.length_map]; exact hlt), List.getElem?_map, List.getElem?_eq_getElem hlt]
  rfl
theorem rows_last : nx (leapsM rl g) (rl.nexts.length : Int) = withinM rl.nexts [0] g := by
  unfold nx leapsM
  rw [List.getElem?_append_right (by rw [List.length_map]; omega)]
  simp
theorem mem_rows (h : rl.Ok) {s t : Int} (hs : St rl s) : t ∈ nx (leapsM rl g) s ↔ ∃ i : Nat, i ≤ g.getD rl.nexts.length ∧ Pt rl.nexts (i + 1) s t := by
  rw [rows_at hs, mem_within]
  constructor
  · rintro ⟨i, hi, u, hu, p⟩
    exact ⟨i, hi, pt_head.mpr ⟨u, hu, p⟩⟩
  · rintro ⟨i, hi, p⟩
    obtain ⟨u, hu, p⟩ := pt_head.mp p
    exact ⟨i, hi, u, hu, p⟩
theorem mem_rows_far (h : rl.Ok) {s t : Int} (hs : St rl s) : t ∈ nx (leapsM rl g) s ↔ ∃ i : Nat, (1 : Int) ≤ i ∧ (i : Int) ≤ farM g + 1 ∧ Pt rl.nexts i s t := by
  have hf := far_le (g := g)
  rw [rows_at hs, mem_within, reach_eq (rows_in h) (nx_of h hs).2.2 (far_gap h.few g)]
  constructor
  · rintro ⟨i, hi, u, hu, p⟩
    exact ⟨i + 1, by omega, by omega, pt_head.mpr ⟨u, hu, p⟩⟩
  · rintro ⟨i, hi, hi2, p⟩
    cases i with
    | zero => omega
    | succ i =>
      obtain ⟨u, hu, p⟩ := pt_head.mp p
      exact ⟨i, by omega, u, hu, p⟩
theorem mem_step {rows : List (List Int)} {here : List Int} {p t : Int} : t ∈ stepM rl rows here p ↔ (∃ s ∈ here, t ∈ nx rows s) ∧ picAt rl.pics t = p := by
  unfold stepM
  rw [mem_setI, List.mem_filter, List.mem_flatMap, decide_eq_true_iff]
theorem step_first (h : rl.Ok) (p : Int) : stepM rl (leapsM rl g) (ahead rl) p = standS rl g (beyM rl [0] 0 (farM g)) 0 p := by
  unfold standS
  rw [if_neg (by decide), ← within_zero h]
  refine lt_one (setI_lt _) ((within_lt (List.pairwise_singleton _ _) g).filter _) fun t => ?_
  rw [mem_step, List.mem_filter, decide_eq_true_iff]
  unfold ahead
  constructor
  · rintro ⟨⟨s, hs, ht⟩, hp⟩
    rw [List.mem_singleton.mp hs, rows_last] at ht
    exact ⟨ht, hp⟩
  · rintro ⟨ht, hp⟩
    exact ⟨⟨_, List.mem_singleton.mpr rfl, by rw [rows_last]; exact ht⟩, hp⟩
theorem step_next (h : rl.Ok) {here : List Int} (hin : In rl.nexts.length here) {i : Nat} (hi : 0 < i) (p : Int) : stepM rl (leapsM rl g) here p = standS rl g here i p := by
  have hf := far_le (g := g)
  unfold standS
  rw [if_pos (by omega)]
  refine lt_one (setI_lt _) (bey_lt.filter _) fun t => ?_
  rw [mem_step, List.mem_filter, decide_eq_true_iff, mem_bey (by omega)]
  constructor
  · rintro ⟨⟨s, hs, ht⟩, hp⟩
    obtain ⟨i, q1, q2, q3⟩ := (mem_rows_far h (hin s hs)).mp ht
    exact ⟨⟨i, q1, q2, s, hs, q3⟩, hp⟩
  · rintro ⟨⟨i, q1, q2, s, hs, q3⟩, hp⟩
    exact ⟨⟨s, hs, (mem_rows_far h (hin s hs)).mpr ⟨i, q1, q2, q3⟩⟩, hp⟩
theorem fold_next (h : rl.Ok) : ∀ (film : List Int) (here : List Int) (i : Nat), In rl.nexts.length here → 0 < i → film.foldl (stepM rl (leapsM rl g)) here = foldE (standS rl g) i film here
  | [], _, _, _, _ => rfl
  | p :: ps, here, i, hin, hi => by
    show ps.foldl _ (stepM rl (leapsM rl g) here p) = foldE _ (i + 1) ps (standS rl g here i p)
    rw [← step_next h hin hi p]
    exact fold_next h ps _ (i + 1) (step_in (leaps_ok h g)) (by omega)
/-- what the program takes for the states behind a film is what the law takes for them -/
theorem stand_behind (h : rl.Ok) (film : List Int) : standM rl g film = behindA rl g film := by
  unfold standM behindA
  cases film with
  | nil => rw [if_pos rfl]; exact (within_zero h).symm
  | cons p ps =>
    rw [if_neg (by intro z; cases z)]
    show foldE _ 1 ps (standS rl g _ 0 p) = ps.foldl _ (stepM rl (leapsM rl g) (ahead rl) p)
    rw [← step_first h p]
    exact (fold_next h ps _ 1 (step_in (leaps_ok h g)) (by omega)).symm
end
end K
set_option Elab.async false
set_option linter.all false
set_option maxRecDepth 100000
set_option maxHeartbeats 4000000
namespace K
open PySem PySem.Spec PyProof.Rows L2 DL
section
variable {rl : Reel} {g : Option Nat}
theorem fold_nil {rows : List (List Int)} : ∀ film : List Int, film.foldl (stepM rl rows) [] = []
  | [] => rfl
  | p :: ps => by
    have e : stepM rl rows [] p = [] := List.eq_nil_iff_forall_not_mem.mpr fun x hx => by
      obtain ⟨⟨s, hs, _⟩, _⟩ := mem_step.mp hx
      cases hs
    rw [List.foldl_cons, e]
    exact fold_nil ps
theorem shown_take {rows : List (List Int)} : ∀ (film st : List Int) (m : Nat), m ≤ film.length → (m ≤ shownM rl rows st film ↔ (m = 0 ∨ (film.take m).foldl (stepM rl rows) st ≠ []))
  | [], st, m, hm => by
    obtain rfl : m = 0 := by simpa using hm
    exact ⟨fun _ => .inl rfl, fun _ => Nat.zero_le _⟩
  | p :: ps, st, 0, _ => ⟨fun _ => .inl rfl, fun _ => Nat.zero_le _⟩
  | p :: ps, st, m + 1, hm => by
    rw [List.length_cons] at hm
    rw [List.take_succ_cons, List.foldl_cons]
    unfold shownM
    by_cases e : stepM rl rows st p = []
    · rw [if_pos e, e, fold_nil]
      exact ⟨fun h => by omega, fun h => h.elim (fun z => by omega) fun z => absurd rfl z⟩
    · rw [if_neg e]
      have ih := shown_take (rows := rows) ps (stepM rl rows st p) m (by omega)
      constructor
      · intro h
        rcases ih.mp (by omega) with z | z
        · subst z
          exact .inr e
        · exact .inr z
      · rintro (z | z)
        · omega
        · have := ih.mpr (.inr z)
          omega
theorem within_some (h : rl.Ok) : withinM rl.nexts [0] g ≠ [] := fun z => by
  have : (0 : Int) ∈ withinM rl.nexts [0] g := mem_within.mpr ⟨0, Nat.zero_le _, 0, List.mem_singleton.mpr rfl, rfl⟩
  rw [z] at this
  cases this
/-- the first m frames can be shown: the law's way, the program's -/
theorem stand_take (h : rl.Ok) {film : List Int} {m : Nat} (hm : m ≤ film.length) : standM rl g (film.take m) ≠ [] ↔ m ≤ sh rl g film := by
  rw [stand_behind h]
  unfold sh
  rw [shown_take film _ m hm]
  unfold behindA
  by_cases e : m = 0
  · rw [e, List.take_zero, if_pos rfl]
    exact ⟨fun _ => .inl rfl, fun _ => within_some h⟩
  · have hne : film.take m ≠ [] := fun z => by
      have := congrArg List.length z
      rw [List.length_take, List.length_nil] at this
      omega
    rw [if_neg hne]
    exact ⟨fun q => .inr q, fun q => q.resolve_left e⟩
theorem sh_le (film : List Int) : sh rl g film ≤ film.length := shown_le _ _ _ _
theorem stand_can (h : rl.Ok) (film : List Int) : canS rl g film = !decide (standM rl g film = []) := by
  have h1 := stand_take (g := g) h (film := film) (m := film.length) (Nat.le_refl _)
  rw [List.take_length] at h1
  have h2 := sh_le (rl := rl) (g := g) film
  unfold canS
  by_cases e : standM rl g film = []
  · rw [decide_eq_true e]
    refine decide_eq_false fun q => ?_
    exact h1.mpr (by omega) e
  · rw [decide_eq_false e]
    refine decide_eq_true ?_
    have := h1.mp e
    omega
/-! ### a film of a run can be shown -/
theorem walk_pt (h : rl.Ok) : ∀ (n : Nat) (b : Row × Int), 0 ≤ b.1.p ∧ St rl b.2 → Pt rl.nexts n b.2 (walkM rl n b).2
  | 0, b, _ => rfl
  | n + 1, b, hb => by
    have hw := walk_ok h n hb
    refine ⟨(walkM rl n b).2, walk_pt h n b hb, ?_⟩
    unfold walkM
    rw [List.range_succ, List.foldl_append]
    exact (pick_at (nx_of h hw.2).2.1 _).2
theorem steps_gap {i : Nat} (r : Row) : ∃ t : Nat, (stepsM g r i).toNat = t + (if 0 < i then 1 else 0) ∧ (∀ k, g = some k → t ≤ k) := by
  have hg := gapN_pos (g := g)
  have ht := taken_lt (r := r) (m := gapN g) (by omega)
  refine ⟨(takenV r (gapN g)).toNat, ?_, fun k e => ?_⟩
  · unfold stepsM
    by_cases hi : 0 < i
    · rw [if_pos hi, if_pos (by omega)]
      omega
    · rw [if_neg hi, if_neg (by omega)]
      omega
  · subst e
    have : gapN (some k) ≤ (k : Int) + 1 := by
      unfold gapN
      simp only []
      split <;> omega
    omega
theorem within_gap (h : rl.Ok) {st : List Int} (hst : In rl.nexts.length st) {t : Nat} (ht : ∀ k, g = some k → t ≤ k) {x : Int} (p : ∃ s ∈ st, Pt rl.nexts t s x) : ∃ j, j ≤ g.getD rl.nexts.length ∧ ∃ s ∈ st, Pt rl.nexts j s x := by
  cases g with
  | none => exact pt_short (rows_in h) hst p
  | some k => exact ⟨t, ht k rfl, p⟩
theorem run_inv (h : rl.Ok) {r : Row} (hp : 0 ≤ r.p) : ∀ n : Nat, let b := (List.range n).foldl (frameM rl g) (r, 0, [])
    (0 ≤ b.1.p ∧ St rl b.2.1) ∧ b.2.2.length = n ∧ (b.2.2 = [] → b.2.1 = 0) ∧ (b.2.2 ≠ [] → b.2.1 ∈ behindM rl (leapsM rl g) (ahead rl) b.2.2) ∧ (∀ x ∈ b.2.2, x ∈ rl.pics)
  | 0 => ⟨⟨hp, Int.le_refl _, show (0 : Int) < rl.nexts.length by have := h.some; omega⟩, rfl, fun _ => rfl, fun z => absurd rfl z, fun x hx => by cases hx⟩
  | n + 1 => by
    obtain ⟨h1, h2, h3, h4, h5⟩ := run_inv h hp n
    intro b
    have hb : b = frameM rl g ((List.range n).foldl (frameM rl g) (r, 0, [])) n := by
      show (List.range (n + 1)).foldl _ _ = _
      rw [List.range_succ, List.foldl_append]
      rfl
    rw [hb]
    generalize (List.range n).foldl (frameM rl g) (r, 0, []) = c at h1 h2 h3 h4 h5
    have hc0 : 0 ≤ (takenR c.1 (gapN g)).p ∧ St rl c.2.1 := ⟨takenR_p h1.1, h1.2⟩
    obtain ⟨t, et, htk⟩ := steps_gap (g := g) (i := n) c.1
    have hw := walk_ok h (stepsM g c.1 n).toNat (b := (takenR c.1 (gapN g), c.2.1)) hc0
    have hpt := walk_pt h (stepsM g c.1 n).toNat (takenR c.1 (gapN g), c.2.1) hc0
    have hfr : frameM rl g c n = ((walkM rl (stepsM g c.1 n).toNat (takenR c.1 (gapN g), c.2.1)).1, (walkM rl (stepsM g c.1 n).toNat (takenR c.1 (gapN g), c.2.1)).2, c.2.2 ++ [picAt rl.pics (walkM rl (stepsM g c.1 n).toNat (takenR c.1 (gapN g), c.2.1)).2]) := rfl
    rw [hfr]
    generalize walkM rl (stepsM g c.1 n).toNat (takenR c.1 (gapN g), c.2.1) = d at hw hpt
    have hpic : picAt rl.pics d.2 ∈ rl.pics := List.mem_of_getElem? (pic_at h hw.2)
    refine ⟨hw, by show (c.2.2 ++ [_]).length = _; rw [List.length_append, h2]; rfl, fun z => ?_, fun _ => ?_, fun x hx => ?_⟩
    · have : (c.2.2 ++ [picAt rl.pics d.2]) = [] := z
      simp at this
    · show d.2 ∈ behindM rl (leapsM rl g) (ahead rl) (c.2.2 ++ [picAt rl.pics d.2])
      unfold behindM
      rw [List.foldl_append]
      show d.2 ∈ stepM rl (leapsM rl g) (c.2.2.foldl (stepM rl (leapsM rl g)) (ahead rl)) (picAt rl.pics d.2)
      rw [mem_step]
      refine ⟨?_, rfl⟩
      by_cases hn : 0 < n
      · have hne : c.2.2 ≠ [] := fun z => by rw [z, List.length_nil] at h2; omega
        refine ⟨c.2.1, h4 hne, (mem_rows h h1.2).mpr ?_⟩
        rw [if_pos hn] at et
        rw [et] at hpt
        obtain ⟨u, hu, hpt⟩ := pt_head.mp hpt
        obtain ⟨j, hj, u, hu, hpt⟩ := within_gap h (nx_of h h1.2).2.2 htk ⟨u, hu, hpt⟩
        exact ⟨j, hj, pt_head.mpr ⟨u, hu, hpt⟩⟩
      · obtain rfl : n = 0 := by omega
        have he : c.2.2 = [] := List.eq_nil_of_length_eq_zero h2
        rw [he]
        refine ⟨_, List.mem_singleton.mpr rfl, ?_⟩
        rw [rows_last, mem_within]
        rw [if_neg hn, Nat.add_zero] at et
        rw [et, show (takenR c.1 (gapN g), c.2.1).2 = 0 from h3 he] at hpt
        exact within_gap h (zero_in h) htk ⟨0, List.mem_singleton.mpr rfl, hpt⟩
    · have hx : x ∈ c.2.2 ++ [picAt rl.pics d.2] := hx
      rcases List.mem_append.mp hx with q | q
      · exact h5 x q
      · rw [List.mem_singleton.mp q]; exact hpic
theorem run_can (h : rl.Ok) {r : Row} (hp : 0 ≤ r.p) {n : Int} : canS rl g (runM rl g n r).1 = true := by
  obtain ⟨h1, h2, h3, h4, h5⟩ := run_inv (g := g) h hp n.toNat
  rw [stand_can h, stand_behind h]
  unfold behindA runM
  simp only []
  generalize (List.range n.toNat).foldl (frameM rl g) (r, 0, []) = b at h1 h2 h3 h4 h5
  by_cases e : b.2.2 = []
  · rw [if_pos e, decide_eq_false (within_some h)]
    rfl
  · rw [if_neg e]
    have := h4 e
    rw [decide_eq_false fun z => by rw [z] at this; cases this]
    rfl
end
end K
set_option Elab.async false
set_option linter.all false
set_option maxRecDepth 100000
set_option maxHeartbeats 4000000
namespace K
open PySem PySem.Spec PyProof.Rows L2 DL
/-! ### the reels that are drawn are reels -/
theorem sort_lt {ks : List Int} (h : ks.Nodup) : (sortI ks).Pairwise (· < ·) := by
  have h1 := sortI_sorted ks
  have h2 : (sortI ks).Nodup := (sortI_perm ks).nodup_iff.mpr h
  exact (List.Pairwise.and h1 h2).imp fun ⟨p, q⟩ => by omega
theorem keys_ok {n : Nat} {ks : List Int} {k : Int} (h : ks.Nodup ∧ In n ks) (hk : 0 ≤ k ∧ k < n) : (keysAdd ks k).Nodup ∧ In n (keysAdd ks k) ∧ keysAdd ks k ≠ [] := by
  unfold keysAdd
  by_cases e : k ∈ ks
  · rw [if_pos e]
    exact ⟨h.1, h.2, fun z => by rw [z] at e; cases e⟩
  · rw [if_neg e]
    refine ⟨List.nodup_append.mpr ⟨h.1, List.nodup_cons.mpr ⟨List.not_mem_nil, .nil⟩, fun a ha b hb z => ?_⟩, fun s hs => ?_, by simp⟩
    · rw [List.mem_singleton.mp hb] at z
      exact e (z ▸ ha)
    · rcases List.mem_append.mp hs with q | q
      · exact h.2 s q
      · rw [List.mem_singleton.mp q]; exact hk
theorem turn_ok {n : Nat} {m kind st : Int} (hm : m = n) (hn : 0 < n) (hst : 0 ≤ st) {c : Row × List Int} (h : c.2.Nodup ∧ In n c.2) : (turnM m kind st c).2.Nodup ∧ In n (turnM m kind st c).2 ∧ (turnM m kind st c).2 ≠ [] := by
  unfold turnM
  split
  · refine keys_ok h ?_
    have := taken_lt (r := c.1) (m := m) (by omega)
    omega
  · refine keys_ok h ?_
    have := taken_lt (r := c.1) (m := 3) (by decide)
    split <;> omega
def RowOk (n : Nat) (ns : List Int) : Prop := ns ≠ [] ∧ ns.Pairwise (· < ·) ∧ In n ns
theorem sort_ok {n : Nat} {ks : List Int} (h : ks.Nodup ∧ In n ks ∧ ks ≠ []) : RowOk n (sortI ks) := by
  refine ⟨fun z => h.2.2 ?_, sort_lt h.1, fun s hs => h.2.1 s ((sortI_perm ks).mem_iff.mp hs)⟩
  have := (sortI_perm ks).length_eq
  rw [z] at this
  exact List.eq_nil_of_length_eq_zero this.symm
theorem state_ok {n : Nat} {m kind : Int} (hm : m = n) (hn : 0 < n) (b : Row × List (List Int)) (st : Nat) (h : ∀ x ∈ b.2, RowOk n x) : ∀ x ∈ (stateM m kind b st).2, RowOk n x := by
  have h2 := taken_lt (r := b.1) (m := 2) (by decide)
  have fold : ∀ (l : List Nat) (c : Row × List Int), c.2.Nodup ∧ In n c.2 → l ≠ [] → (l.foldl (fun c _ => turnM m kind (st : Nat) c) c).2.Nodup ∧ In n (l.foldl (fun c _ => turnM m kind (st : Nat) c) c).2 ∧ (l.foldl (fun c _ => turnM m kind (st : Nat) c) c).2 ≠ [] := by
    intro l
    induction l with
    | nil => exact fun c _ h => absurd rfl h
    | cons a l ih =>
      intro c hc _
      have ht := turn_ok (kind := kind) (st := (st : Nat)) hm hn (by omega) hc
      rw [List.foldl_cons]
      by_cases e : l = []
      · subst e; exact ht
      · exact ih _ ⟨ht.1, ht.2.1⟩ e
  intro x hx
  have hx : x ∈ b.2 ++ [sortI ((List.range (1 + takenV b.1 2).toNat).foldl (fun c _ => turnM m kind (st : Nat) c) (takenR b.1 2, [])).2] := hx
  rcases List.mem_append.mp hx with q | q
  · exact h x q
  · rw [List.mem_singleton.mp q]
    refine sort_ok (fold _ _ ⟨List.nodup_nil, fun s hs => by cases hs⟩ fun z => ?_)
    have := congrArg List.length z
    rw [List.length_range, List.length_nil] at this
    omega
theorem reel_ok {r : Row} {most pics : Int} (hp : 0 ≤ r.p) (h1 : 1 ≤ most) (h6 : most ≤ 6) (hp1 : 1 ≤ pics) (hp2 : pics ≤ 100) : (reelM most pics r).1.Ok ∧ 0 ≤ (reelM most pics r).2.p ∧ ∀ x ∈ (reelM most pics r).1.pics, 0 ≤ x ∧ x < pics := by
  have hm := taken_lt (r := r) (m := most) (by omega)
  unfold reelM
  simp only []
  generalize hmm : 1 + takenV r most = m
  obtain ⟨n, rfl⟩ : ∃ n : Nat, m = n := ⟨m.toNat, by omega⟩
  generalize takenV (takenR r most) 3 = kind
  have hn : 0 < n := by omega
  have hb0 : 0 ≤ (takenR (takenR r most) 3).p := takenR_p (takenR_p hp)
  have st : ∀ (l : List Nat) (b : Row × List (List Int)), (∀ x ∈ b.2, RowOk n x) → ∀ x ∈ (l.foldl (stateM n kind) b).2, RowOk n x := by
    intro l
    induction l with
    | nil => exact fun b h => h
    | cons a l ih => exact fun b h => ih _ (state_ok rfl hn b a h)
  have hbp := fold_p (f := stateM n kind) (fun b st h => state_p b st h) (List.range (n : Int).toNat) (takenR (takenR r most) 3, []) hb0
  have hbl := states_len (m := n) (kind := kind) (List.range (n : Int).toNat) (takenR (takenR r most) 3, [])
  have hbo := st (List.range (n : Int).toNat) (takenR (takenR r most) 3, []) (fun x hx => by cases hx)
  generalize (List.range (n : Int).toNat).foldl (stateM n kind) (takenR (takenR r most) 3, []) = bb at hbp hbl hbo
  rw [List.length_range] at hbl
  have hbl : bb.2.length = n := by
    rw [hbl]
    show 0 + (n : Int).toNat = n
    omega
  have hl : 0 ≤ (lastM n kind bb).1.p ∧ (lastM n kind bb).2.length = n ∧ ∀ x ∈ (lastM n kind bb).2, RowOk n x := by
    unfold lastM
    split
    · refine ⟨takenR_p hbp, by rw [List.length_set]; exact hbl, fun x hx => ?_⟩
      rcases List.mem_or_eq_of_mem_set hx with q | q
      · exact hbo x q
      · rw [q]
        have := taken_lt (r := bb.1) (m := 2) (by decide)
        refine ⟨by simp, List.pairwise_singleton _ _, fun s hs => ?_⟩
        rw [List.mem_singleton.mp hs]
        omega
    · exact ⟨hbp, hbl, hbo⟩
  generalize lastM n kind bb = cc at hl
  have hd := draw_all (f := taken pics) (P := fun r => 0 ≤ r.p) (Q := fun x => 0 ≤ x ∧ x < pics) (fun r h => takenR_p h) (fun r h => taken_lt (by omega)) (n : Int).toNat cc.1 hl.1
  refine ⟨⟨?_, ?_, ?_, fun x hx => ?_, fun x hx => ?_⟩, draw_row (P := fun r => 0 ≤ r.p) (fun r h => takenR_p h) _ _ hl.1, hd⟩
  · show 1 ≤ cc.2.length
    rw [hl.2.1]; exact hn
  · show cc.2.length ≤ 6
    rw [hl.2.1]; omega
  · show (draw (taken pics) (n : Int).toNat cc.1).1.length = cc.2.length
    rw [draw_len, hl.2.1]
    omega
  · have hr := hl.2.2 x hx
    show x ≠ [] ∧ x.Pairwise (· < ·) ∧ In cc.2.length x
    rw [hl.2.1]
    exact hr
  · have := hd x hx
    omega
/-! ### when one reel is left -/
theorem two_le {L : List Int} (hs : L.Pairwise (· ≤ ·)) (h2 : 2 ≤ L.length) {m : Int} : 2 ≤ (L.filter fun x => decide (m ≤ x)).length ↔ m ≤ (L[L.length - 2]?).getD 0 := by
  have hd : (L.drop (L.length - 2)).length = 2 := by rw [List.length_drop]; omega
  obtain ⟨a, b, e⟩ : ∃ a b, L.drop (L.length - 2) = [a, b] := by
    match L.drop (L.length - 2), hd with
    | [a, b], _ => exact ⟨a, b, rfl⟩
  have hL : L = L.take (L.length - 2) ++ [a, b] := by rw [← e, List.take_append_drop]
  have hg : L[L.length - 2]? = some a := by
    have : (L.drop (L.length - 2))[0]? = some a := by rw [e]; rfl
    rw [List.getElem?_drop] at this
    exact this
  rw [hg]
  show _ ↔ m ≤ a
  generalize L.take (L.length - 2) = T at hL
  rw [hL] at hs ⊢
  obtain ⟨_, h3, h4⟩ := List.pairwise_append.mp hs
  have hab : a ≤ b := by
    cases h3 with
    | cons h _ => exact h b List.mem_cons_self
  rw [List.filter_append, List.length_append]
  constructor
  · intro h
    refine Classical.byContradiction fun hn => ?_
    have e1 : T.filter (fun x => decide (m ≤ x)) = [] := List.filter_eq_nil_iff.mpr fun x hx z => by
      have h5 := h4 x hx a List.mem_cons_self
      have := of_decide_eq_true z
      omega
    rw [e1, List.filter_cons_of_neg (by simpa using by omega)] at h
    have := List.length_filter_le (fun x => decide (m ≤ x)) [b]
    simp only [List.length_nil, List.length_cons] at h this
    omega
  · intro h
    rw [List.filter_cons_of_pos (by simpa using h), List.filter_cons_of_pos (by simpa using by omega)]
    simp only [List.length_cons]
    omega
def standsN (g : Option Nat) (film : List Int) (m : Nat) (r : Reel) : Bool := !decide (standM r g (film.take m) = [])
/-- one turn over the numbers of frames -/
def dueS (rs : List Reel) (g : Option Nat) (film : List Int) (n : Nat) (d : D) (i : Nat) : D := if ((rs.filter (standsN g film (n - i))).length : Int) < 2 then .int ((n - i : Nat) : Int) else d
def dueM (rs : List Reel) (g : Option Nat) (film : List Int) : D := (List.range (film.length + 1)).foldl (dueS rs g film film.length) .none
theorem count_eq {rs : List Reel} (hr : ∀ r ∈ rs, r.Ok) {g : Option Nat} {film : List Int} {m : Nat} (hm : m ≤ film.length) : (rs.filter (standsN g film m)).length = ((rs.map fun r => ((sh r g film : Nat) : Int)).filter fun x => decide ((m : Int) ≤ x)).length := by
  induction rs with
  | nil => rfl
  | cons r rs ih =>
    have h1 := stand_take (g := g) (hr r List.mem_cons_self) hm
    have ih := ih fun x hx => hr x (List.mem_cons_of_mem _ hx)
    rw [List.map_cons]
    by_cases e : standM r g (film.take m) = []
    · have h2 : ¬ m ≤ sh r g film := fun z => h1.mpr z e
      rw [List.filter_cons_of_neg (by unfold standsN; rw [decide_eq_true e]; decide), List.filter_cons_of_neg (by simpa using by omega)]
      exact ih
    · have h2 := h1.mp e
      rw [List.filter_cons_of_pos (by unfold standsN; rw [decide_eq_false e]; rfl), List.filter_cons_of_pos (by simpa using h2), List.length_cons, List.length_cons, ih]
theorem second_lt {rs : List Reel} (h2 : 2 ≤ rs.length) (hr : ∀ r ∈ rs, r.Ok) {g : Option Nat} {film : List Int} {m : Nat} (hm : m ≤ film.length) : ((rs.filter (standsN g film m)).length : Int) < 2 ↔ secondM rs g film < m := by
  have e : (sortI (rs.map fun r => ((sh r g film : Nat) : Int))).length = rs.length := by rw [(sortI_perm _).length_eq, List.length_map]
  have h := two_le (sortI_sorted (rs.map fun r => ((sh r g film : Nat) : Int))) (by omega) (m := m)
  rw [e, ((sortI_perm (rs.map fun r => ((sh r g film : Nat) : Int))).filter _).length_eq, ← count_eq hr hm] at h
  unfold secondM
  omega
theorem second_rng {rs : List Reel} (h2 : 2 ≤ rs.length) {g : Option Nat} {film : List Int} : 0 ≤ secondM rs g film ∧ secondM rs g film ≤ film.length := by
  have e : (sortI (rs.map fun r => ((sh r g film : Nat) : Int))).length = rs.length := by rw [(sortI_perm _).length_eq, List.length_map]
  unfold secondM
  obtain ⟨x, hx⟩ : ∃ x, (sortI (rs.map fun r => ((sh r g film : Nat) : Int)))[rs.length - 2]? = some x := ⟨_, List.getElem?_eq_getElem (by omega)⟩
  rw [hx]
  have hm := (sortI_perm (rs.map fun r => ((sh r g film : Nat) : Int))).mem_iff.mp (List.mem_of_getElem? hx)
  obtain ⟨r, _, q⟩ := List.mem_map.mp hm
  show 0 ≤ x ∧ x ≤ _
  rw [← q]
  have := sh_le (rl := r) (g := g) film
  omega
theorem due_told {rs : List Reel} (h2 : 2 ≤ rs.length) (hr : ∀ r ∈ rs, r.Ok) {g : Option Nat} {film : List Int} : dueM rs g film = toldA rs g film := by
  have hs := second_rng (g := g) (film := film) h2
  have key : ∀ j, j ≤ film.length + 1 → (List.range j).foldl (dueS rs g film film.length) .none = if secondM rs g film < film.length ∧ 0 < j then .int (if secondM rs g film + 1 < (film.length : Int) + 1 - j then (film.length : Int) + 1 - j else secondM rs g film + 1) else .none := by
    intro j
    induction j with
    | zero => intro _; rw [if_neg (by omega)]; rfl
    | succ j ih =>
      intro hj
      rw [List.range_succ, List.foldl_append, List.foldl_cons, List.foldl_nil, ih (by omega)]
      have hc := second_lt (g := g) (film := film) h2 hr (m := film.length - j) (by omega)
      unfold dueS
      by_cases hlt : secondM rs g film < ((film.length - j : Nat) : Int)
      · rw [if_pos (hc.mpr hlt), if_pos (show secondM rs g film < film.length ∧ 0 < j + 1 from ⟨by omega, by omega⟩)]
        congr 1
        split <;> omega
      · rw [if_neg fun z => hlt (hc.mp z)]
        by_cases hl2 : secondM rs g film < film.length
        · have hj0 : 0 < j := by omega
          rw [if_pos (show secondM rs g film < film.length ∧ 0 < j from ⟨hl2, hj0⟩), if_pos (show secondM rs g film < film.length ∧ 0 < j + 1 from ⟨hl2, by omega⟩)]
          congr 1
          split <;> split <;> omega
        · rw [if_neg (show ¬ (secondM rs g film < film.length ∧ 0 < j) from fun z => hl2 z.1), if_neg (show ¬ (secondM rs g film < film.length ∧ 0 < j + 1) from fun z => hl2 z.1)]
  unfold dueM toldA
  rw [key _ (Nat.le_refl _)]
  by_cases e : secondM rs g film = film.length
  · rw [if_pos e, if_neg (show ¬ (secondM rs g film < film.length ∧ 0 < film.length + 1) from fun z => by omega)]
  · rw [if_neg e, if_pos (show secondM rs g film < film.length ∧ 0 < film.length + 1 from ⟨by omega, by omega⟩)]
    congr 1
    split <;> omega
end K
set_option Elab.async false
set_option linter.all false
set_option maxRecDepth 100000
set_option maxHeartbeats 4000000
namespace K
open PySem PySem.Spec PyProof.Rows L2 DL
/-! ### law -/
theorem could_eq {rs : List Reel} (hr : ∀ r ∈ rs, r.Ok) {g : Option Nat} {film : List Int} : ((List.range rs.length).filter fun i => !decide (((rs.map fun r => standM r g film)[i]?).getD [] = [])).map (fun i => (0 : Int) + (i : Nat)) = couldA rs g film := by
  unfold couldA
  have e : rs.zipIdx = (List.range rs.length).map fun i => ((rs[i]?).getD ⟨[], []⟩, i) := by
    apply List.ext_getElem?
    intro k
    rw [List.getElem?_zipIdx, List.getElem?_map]
    by_cases hk : k < rs.length
    · rw [List.getElem?_range hk, List.getElem?_eq_getElem hk]
      simp [List.getElem?_eq_getElem hk]
    · rw [List.getElem?_eq_none (by omega), List.getElem?_eq_none (by rw [List.length_range]; omega)]
      rfl
  rw [e, List.filter_map, List.map_map]
  have e2 : (List.range rs.length).filter (fun i => !decide (((rs.map fun r => standM r g film)[i]?).getD [] = [])) = (List.range rs.length).filter ((fun p : Reel × Nat => canS p.1 g film) ∘ fun i => ((rs[i]?).getD ⟨[], []⟩, i)) := by
    refine List.filter_congr fun i hi => ?_
    have hk := List.mem_range.mp hi
    show _ = canS ((rs[i]?).getD ⟨[], []⟩) g film
    rw [List.getElem?_map, List.getElem?_eq_getElem hk]
    exact (stand_can (hr _ (List.getElem_mem hk)) film).symm
  rw [e2]
  refine List.map_congr_left fun i _ => ?_
  show (0 : Int) + (i : Nat) = (i : Nat)
  omega
def tolds (pics : Int) (film : List Int) (i : Nat) (r : Row) : List Int × Row :=
  if i = 0 then (film, r) else draw (taken (pics + 1)) (takenV r 6).toNat (takenR r 6)
theorem tolds_ok {pics : Int} (h1 : 1 ≤ pics) (h2 : pics ≤ 4) {film : List Int} (hf : FilmOk film ∧ film.length ≤ 10) {i : Nat} {r : Row} (hr : 0 ≤ r.p) : (FilmOk (tolds pics film i r).1 ∧ (tolds pics film i r).1.length ≤ 10) ∧ 0 ≤ (tolds pics film i r).2.p := by
  unfold tolds
  split
  · exact ⟨hf, hr⟩
  · have ht := taken_lt (r := r) (m := 6) (by decide)
    have hl : (draw (taken (pics + 1)) (takenV r 6).toNat (takenR r 6)).1.length ≤ 10 := by rw [draw_len]; omega
    refine ⟨⟨⟨by omega, fun x hx => ?_⟩, hl⟩, draw_row (P := fun r => 0 ≤ r.p) (fun r h => takenR_p h) _ _ (takenR_p hr)⟩
    have := draw_all (f := taken (pics + 1)) (P := fun r => 0 ≤ r.p) (Q := fun x => 0 ≤ x ∧ x < pics + 1) (fun r h => takenR_p h) (fun r h => taken_lt (by omega)) _ _ (takenR_p hr) x hx
    omega
theorem al_ints {n : Nat} {xs : List Int} (h : xs.length < 2000) : Al (n + 1) (eT xs) := .tup (fun d hd => by
  obtain ⟨x, _, rfl⟩ := List.mem_map.mp hd
  exact .int _ _) (by rw [List.length_map]; exact h)
section
variable {P : Program} {w : World} {K : PySem.W.Frag} {mg : Str → Option Value} {base : Heap} {f : Addr} {fd : FuncData}
/-- a def that may be called by its name -/
structure Def (P : Program) (w : World) (K : PySem.W.Frag) (mg : Str → Option Value) (base : Heap) (n : Nat) (nm : Str) (ps : List Str) (sp : Sp) (f : Addr) (fd : FuncData) : Prop where
  g : FnOk P w K mg base CX0 n f fd ps sp
  k : PySem.W.keepIn K (.ref f) = true
  b : Binds K fd ps []
  m : mg nm = some (.ref f)
def R_law (ds : List D) (d : D) : Prop := ∃ ns : List Int, ds = [scrD (ns.map .int)] ∧ d = .bool true
theorem law_turns (m_range : mg "range" = none) (m_tuple : mg "tuple" = none) (m_len : mg "len" = none)
    {f1 f5 f6 f7 f8 f9 f10 : Addr} {d1 d5 d6 d7 d8 d9 d10 : FuncData}
    (GT : Def P w K mg base 1 "_law_taken" ["row", "many"] (spB K 2 R_taken) f1 d1)
    (GS : Def P w K mg base 2 "_law_stands" ["reel", "gap", "film"] (spD K 3 R_stand) f5 d5)
    (GA : Def P w K mg base 3 "_law_alike" ["found", "due"] (spD K 2 (R_al 2)) f6 d6)
    (GC : Def P w K mg base 6 "can_show" ["reel", "gap", "film"] (spD K 3 R_can) f7 d7)
    (GB : Def P w K mg base 6 "behind" ["reel", "gap", "film"] (spD K 3 R_behind) f8 d8)
    (GO : Def P w K mg base 6 "could_be" ["reels", "gap", "film"] (spD K 3 R_could) f9 d9)
    (GD : Def P w K mg base 6 "told_at" ["reels", "gap", "film"] (spD K 3 R_told) f10 d10)
    {cdv : Value} {A : Around} {outer : List Env} {s : Shared} {H : Hp} {E : XK} (hr : Room 6 (A.deeper (envOfC "law" (defScope s_law) s.heap.objs.size f cdv)))
    {scr : D} {pics : Int} (hpics : 1 ≤ pics ∧ pics ≤ 4) {g : Option Nat} (hg : GapOk g) {rls rest : List Reel} {one : Reel} (hone : rls = one :: rest) (hR : ReelsOk rls) {film : List Int} (hfilm : FilmOk film ∧ film.length ≤ 10) {r : Row} (hp : 0 ≤ r.p) :
    ∃ r', XS (fX P w K mg base n_law "law" s_law f cdv A outer s H E) ((defBody s_law)[6]) [.d scr, .o (eRow r), .d (.int pics), .d (eGap g), .d (eReels rls), .d (eReel one), .d (eT film), .u, .u, .u, .u, .u, .u, .u, .u, .u]
      (.nx [.d scr, .o (eRow r'), .d (.int pics), .d (eGap g), .d (eReels rls), .d (eReel one), .d (eT film), .u, .u, .u, .u, .u, .u, .u, .u, .u]) := by
  have nd := c_law.nd
  have ho : one.Ok := hR.2.2 one (by rw [hone]; exact List.mem_cons_self)
  let sl : Row → List Sl := fun r => [.d scr, .o (eRow r), .d (.int pics), .d (eGap g), .d (eReels rls), .d (eReel one), .d (eT film), .u, .u, .u, .u, .u, .u, .u, .u, .u]
  refine ⟨(List.range 3).foldl (fun r i => (tolds pics film i r).2) r, xs_for PassesOwn.never rfl (xi_range1 (i := 3) (by rfl) m_range xe_int (by decide) (by decide)) ?_⟩
  refine lr_fold (P := fun r : Row => 0 ≤ r.p) (sl := sl) (step := fun r i => (tolds pics film i r).2) (List.range 3) r hp fun i _ r hp => ?_
  obtain ⟨⟨htl, htl10⟩, hrt⟩ := tolds_ok hpics.1 hpics.2 hfilm hp (i := i)
  refine ⟨hrt, [7], [.d scr, .o (eRow r), .d (.int pics), .d (eGap g), .d (eReels rls), .d (eReel one), .d (eT film), .d (.int (0 + (i : Nat))), .u, .u, .u, .u, .u, .u, .u, .u], xg_name 7 nd, ?_⟩
  generalize htt : tolds pics film i r = tt at htl htl10 hrt
  obtain ⟨tl, rt⟩ := tt
  have htl : FilmOk tl := htl
  have htl10 : tl.length ≤ 10 := htl10
  show XSs _ _ _ (.nx (sl rt))
  let w0 : Row → List Sl := fun r => [.d scr, .o (eRow r), .d (.int pics), .d (eGap g), .d (eReels rls), .d (eReel one), .d (eT film), .d (.int (0 + (i : Nat))), .u, .u, .u, .u, .u, .u, .u, .u]
  let T : List (List Int) := rls.map fun x => standM x g tl
  let w1 : List Sl := [.d scr, .o (eRow rt), .d (.int pics), .d (eGap g), .d (eReels rls), .d (eReel one), .d (eT film), .d (.int (0 + (i : Nat))), .d (eT tl), .u, .u, .u, .u, .u, .u, .u]
  let w2 : List Sl := [.d scr, .o (eRow rt), .d (.int pics), .d (eGap g), .d (eReels rls), .d (eReel one), .d (eT film), .d (.int (0 + (i : Nat))), .d (eT tl), .d (eRows T), .u, .u, .u, .u, .u, .u]
  let w3 : List Sl := [.d scr, .o (eRow rt), .d (.int pics), .d (eGap g), .d (eReels rls), .d (eReel one), .d (eT film), .d (.int (0 + (i : Nat))), .d (eT tl), .d (eRows T), .d (eT (couldA rls g tl)), .u, .u, .u, .u, .u]
  let w4 : D → List Sl := fun due => [.d scr, .o (eRow rt), .d (.int pics), .d (eGap g), .d (eReels rls), .d (eReel one), .d (eT film), .d (.int (0 + (i : Nat))), .d (eT tl), .d (eRows T), .d (eT (couldA rls g tl)), .d due, .u, .u, .u, .u]
  have hT0 : T[0]? = some (standM one g tl) := by
    show (rls.map fun x => standM x g tl)[0]? = _
    rw [hone]
    rfl
  have hlen := hR.2.1
  refine xss_out (ρ1 := w4 (dueM rls g tl)) (xss_cons (ρ1 := w1) ?_ (xss_cons (ρ1 := w2) ?_ (xss_cons (ρ1 := w2) ?_ (xss_cons (ρ1 := w3) ?_ (xss_cons (ρ1 := w3) ?_ (xss_cons (ρ1 := w4 .none) (xs_set 11 nd xe_none) (xss_cons (ρ1 := w4 (dueM rls g tl)) ?_ (xss_one ?_)))))))) (.keep (.keep (.keep (.keep (.keep (.keep (.keep (.drop (.drop (.drop (.drop (.drop (.keep (.keep (.keep (.keep .nil))))))))))))))))
  · by_cases hi : i = 0
    · have e : tolds pics film i r = (film, r) := if_pos hi
      rw [e] at htt
      obtain ⟨rfl, rfl⟩ := Prod.mk.inj htt
      refine xs_set 8 nd (d := eT film) (ρ1 := w0 r) (xe_ifp (bb := true) (XT.is (xt_cmp br_eqI (xe_var 7) xe_int) (decide_eq_true (by omega))) (fun _ => xe_var 6) fun h => by cases h)
    · have e : tolds pics film i r = draw (taken (pics + 1)) (takenV r 6).toNat (takenR r 6) := if_neg hi
      rw [e] at htt
      have h6 := taken_lt (r := r) (m := 6) (by decide)
      have e1 : tl = (draw (taken (pics + 1)) (takenV r 6).toNat (takenR r 6)).1 := by rw [htt]
      have e2 : rt = (draw (taken (pics + 1)) (takenV r 6).toNat (takenR r 6)).2 := by rw [htt]
      refine xs_set 8 nd (d := eT tl) (ρ1 := w0 rt) (xe_if (bb := false) (ρ1 := w0 r) (XT.is (xt_cmp br_eqI (xe_var 7) xe_int) (decide_eq_false (by omega))) (fun h => by cases h) fun _ => xe_callTy cr_tupleL (by rfl) m_tuple b_tuple (xa_cons (XO.xe ?_) xa_nil))
      rw [e1, e2]
      refine xo_lc (own := [("frame", 15)]) (ρ0 := w0 (takenR r 6)) (ρ' := w0 (draw (taken (pics + 1)) (takenV r 6).toNat (takenR r 6)).2) rfl nd (xi_range1 (by rfl) m_range (xe_callO 1 (d := .int (takenV r 6)) (s := .o (eRow r)) (rs := eRow r) (ρ1 := w0 r) (rs' := eRow (takenR r 6)) GT.g (hr.mono (by decide)) (by rfl) GT.m GT.k GT.b (xa_cons xe_int xa_nil) rfl rfl (R_taken.mk (by decide) (by decide) hp)) (by omega) (by omega)) (blkOk_by (N := n_law) (sc := defScope s_law) (by decide +kernel)) ?_ ?_
      · refine lc_drawN (ws := [15]) (f := taken (pics + 1)) (e := PyData.int) (sl := w0) (P := fun r' => 0 ≤ r'.p) (g := fun j r' => [.d scr, .o (eRow r'), .d (.int pics), .d (eGap g), .d (eReels rls), .d (eReel one), .d (eT film), .d (.int (0 + (i : Nat))), .u, .u, .u, .u, .u, .u, .u, .d (.int (0 + (j : Nat)))]) (g' := fun j r' => [.d scr, .o (eRow (takenR r' (pics + 1))), .d (.int pics), .d (eGap g), .d (eReels rls), .d (eReel one), .d (eT film), .d (.int (0 + (i : Nat))), .u, .u, .u, .u, .u, .u, .u, .d (.int (0 + (j : Nat)))]) (by decide) (List.range (takenV r 6).toNat) (takenV r 6).toNat List.length_range (takenR r 6) (takenR_p hp) fun j r' hr' => ⟨takenR_p hr', fun s' H' C' cl fp => ⟨xg_name 15 nd, ?_⟩, rfl⟩
        exact xe_callO 1 (d := .int (takenV r' (pics + 1))) (s := .o (eRow r')) (rs := eRow r') (ρ1 := [.d scr, .o (eRow r'), .d (.int pics), .d (eGap g), .d (eReels rls), .d (eReel one), .d (eT film), .d (.int (0 + (i : Nat))), .u, .u, .u, .u, .u, .u, .u, .d (.int (0 + (j : Nat)))]) (rs' := eRow (takenR r' (pics + 1))) GT.g (hr.mono (by decide)) (by rfl) GT.m GT.k GT.b (xa_cons (xe_op br_add (xe_var 2) xe_int) xa_nil) rfl rfl (R_taken.mk (by omega) (by omega) hr')
      · rw [List.length_map, draw_len]
        omega
  · have eT' : T.map eL = rls.map fun x => eL (standM x g tl) := List.map_map
    refine xs_set 9 nd (d := eRows T) (ρ1 := w1) (XO.xe ?_)
    rw [eT']
    refine xo_lcp (own := [("reel", 14)]) rfl nd (blkOk_by (N := n_law) (sc := defScope s_law) (by decide +kernel)) (xi_tup (xe_var 4)) ?_ (by rw [List.length_map]; omega)
    refine lc_map (ws := [14]) (g := fun x => [.d scr, .o (eRow rt), .d (.int pics), .d (eGap g), .d (eReels rls), .d (eReel one), .d (eT film), .d (.int (0 + (i : Nat))), .d (eT tl), .u, .u, .u, .u, .u, .d (eReel x), .u]) (by decide) _ (fun x hx s' H' C' cl fp => ⟨xg_name 14 nd, ?_⟩) (fun _ _ => rfl)
    exact xe_call GS.g (hr.mono (by decide)) (by rfl) GS.m GS.k GS.b (xa_cons (xe_var 14) (xa_cons (xe_var 3) (xa_cons (xe_var 8) xa_nil))) ⟨x, g, tl, hR.2.2 x hx, rfl, rfl⟩
  · have hbl : (behindA one g tl).length < 2000 := by
      rw [← stand_behind ho]
      have hf : Few one.nexts.length (standM one g tl) := by
        have : ∀ (l : List Int) (i : Nat) (h : List Int), Few one.nexts.length h → Few one.nexts.length (foldE (standS one g) i l h) := by
          intro l
          induction l with
          | nil => exact fun i h hh => hh
          | cons p l ih => exact fun i h hh => ih _ _ (standS_few ho i p hh)
        exact this _ _ _ (bey_few ho (few_zero ho))
      have := hf.2
      omega
    refine xs_if (bb := false) (xt_not (bb := true) (xt_val (xe_call GA.g (hr.mono (by decide)) (by rfl) GA.m GA.k GA.b (xa_cons (x := .list [.bool (canS one g tl), eT (behindA one g tl)]) (xe_lst (xa_cons (xe_call GC.g hr (by rfl) GC.m GC.k GC.b (xa_cons (xe_var 5) (xa_cons (xe_var 3) (xa_cons (xe_var 8) xa_nil))) ⟨one, g, tl, ho, hg, htl, rfl, rfl⟩) (xa_cons (xe_call GB.g hr (by rfl) GB.m GB.k GB.b (xa_cons (xe_var 5) (xa_cons (xe_var 3) (xa_cons (xe_var 8) xa_nil))) ⟨one, g, tl, ho, hg, htl, rfl, rfl⟩) xa_nil)) (by simp)) (xa_cons (x := .list [.bool (canS one g tl), eT (behindA one g tl)]) (XE.is (xe_lst (xa_cons (xe_cmp (br_neL (ns := standM one g tl) (ms := []) hr.units) (xe_ixL (xe_var 9) xe_int (atI_map (f := eL) (i := 0) (by decide) hT0)) (xe_lst xa_nil (by simp))) (xa_cons (xe_callTy cr_tupleL (by rfl) m_tuple b_tuple (xa_cons (xe_ixL (xe_var 9) xe_int (atI_map (f := eL) (i := 0) (by decide) hT0)) xa_nil)) xa_nil)) (by simp)) ?_) xa_nil)) ⟨_, .lst (fun d hd => ?_) (by simp), rfl, rfl⟩))) (fun h => by cases h) fun _ => xss_nil
    · rw [stand_can ho, ← stand_behind ho]
    · rcases List.mem_cons.mp hd with q | q
      · rw [q]; exact .bl _ _
      · rw [List.mem_singleton.mp q]
        exact al_ints hbl
  · refine xs_set 10 nd (d := eT (couldA rls g tl)) (ρ1 := w2) (xe_callTy cr_tupleL (by rfl) m_tuple b_tuple (xa_cons (XO.xe ?_) xa_nil))
    rw [← could_eq hR.2.2, List.map_map]
    refine xo_lcp (own := [("number", 13)]) rfl nd (blkOk_by (N := n_law) (sc := defScope s_law) (by decide +kernel)) (xi_range1 (i := (rls.length : Nat)) (by rfl) m_range (XE.is (xe_callB cr_lenT (by rfl) m_len b_len (xa_cons (xe_var 4) xa_nil)) (by rw [List.length_map])) (by omega) (by omega)) ?_ ?_
    · refine lc_pure (ws := [13]) (p := fun i => !decide ((T[i]?).getD [] = [])) (g := fun j => [.d scr, .o (eRow rt), .d (.int pics), .d (eGap g), .d (eReels rls), .d (eReel one), .d (eT film), .d (.int (0 + (i : Nat))), .d (eT tl), .d (eRows T), .u, .u, .u, .d (.int (0 + (j : Nat))), .u, .u]) (by decide) (List.range rls.length) (fun j hj s' H' C' cl fp => ⟨xg_name 13 nd, ?_, fun _ => xe_var 13⟩) (fun _ _ => rfl)
      have hjl : j < T.length := by
        show j < (rls.map _).length
        rw [List.length_map]
        exact List.mem_range.mp hj
      have hat : atI (T.map eL) (0 + (j : Nat)) = some (eL T[j]) := by
        rw [Int.zero_add]
        exact atI_map (f := eL) (by omega) (by rw [Int.toNat_natCast]; exact List.getElem?_eq_getElem hjl)
      rw [List.getElem?_eq_getElem hjl]
      exact xts_one (xt_cmp (br_neL (ns := T[j]) (ms := []) hr.units) (xe_ixL (xe_var 9) (xe_var 13) hat) (xe_lst xa_nil (by simp)))
    · rw [List.length_map]
      have := List.length_filter_le (fun i => !decide (((rls.map fun r => standM r g tl)[i]?).getD [] = [])) (List.range rls.length)
      rw [List.length_range] at this
      omega
  · have hcl : (couldA rls g tl).length < 2000 := by
      rw [← could_eq hR.2.2, List.length_map]
      have := List.length_filter_le (fun i => !decide (((rls.map fun r => standM r g tl)[i]?).getD [] = [])) (List.range rls.length)
      rw [List.length_range] at this
      omega
    exact xs_if (bb := false) (xt_not (bb := true) (xt_val (xe_call GA.g (hr.mono (by decide)) (by rfl) GA.m GA.k GA.b (xa_cons (x := eT (couldA rls g tl)) (xe_call GO.g hr (by rfl) GO.m GO.k GO.b (xa_cons (xe_var 4) (xa_cons (xe_var 3) (xa_cons (xe_var 8) xa_nil))) ⟨rls, g, tl, hR, hg, htl, rfl, rfl⟩) (xa_cons (x := eT (couldA rls g tl)) (xe_var 10) xa_nil)) ⟨_, al_ints hcl, rfl, rfl⟩))) (fun h => by cases h) fun _ => xss_nil
  · refine xs_for PassesOwn.never rfl (xi_down (n := tl.length) (by omega) (by rfl) m_range (XE.is (xe_callB cr_lenT (by rfl) m_len b_len (xa_cons (xe_var 8) xa_nil)) (by rw [List.length_map])) (XE.is (xe_un xe_int) rfl) (XE.is (xe_un xe_int) rfl)) ?_
    refine lr_fold (P := fun _ => True) (sl := w4) (step := dueS rls g tl tl.length) (List.range (tl.length + 1)) .none trivial fun j hj due _ => ?_
    have hjl : j ≤ tl.length := by have := List.mem_range.mp hj; omega
    have em : (tl.length : Int) + (j : Nat) * (-1) = ((tl.length - j : Nat) : Int) := by omega
    let v4 : D → List Sl := fun due => [.d scr, .o (eRow rt), .d (.int pics), .d (eGap g), .d (eReels rls), .d (eReel one), .d (eT film), .d (.int (0 + (i : Nat))), .d (eT tl), .d (eRows T), .d (eT (couldA rls g tl)), .d due, .d (.int ((tl.length - j : Nat) : Int)), .u, .u, .u]
    refine ⟨trivial, [12], v4 due, by rw [em]; exact xg_name 12 nd, ?_⟩
    refine xss_out (ρ1 := v4 (dueS rls g tl tl.length due j)) (xss_one (xs_if (bb := decide (((rls.filter (standsN g tl (tl.length - j))).length : Int) < 2)) (ρ1 := v4 due) (XT.is (xt_cmp br_lt (xe_callB (cr_lenL (xs := (rls.filter (standsN g tl (tl.length - j))).map eReel)) (by rfl) m_len b_len (xa_cons (XO.xe ?_) xa_nil)) xe_int) ?_) (fun h => ?_) (fun h => ?_))) (.keep (.keep (.keep (.keep (.keep (.keep (.keep (.keep (.keep (.keep (.keep (.keep (.drop (.keep (.keep (.keep .nil))))))))))))))))
    · refine xo_lcp (own := [("reel", 14)]) rfl nd (blkOk_by (N := n_law) (sc := defScope s_law) (by decide +kernel)) (xi_tup (xe_var 4)) ?_ ?_
      · refine lc_pure (ws := [14]) (p := standsN g tl (tl.length - j)) (g := fun x => [.d scr, .o (eRow rt), .d (.int pics), .d (eGap g), .d (eReels rls), .d (eReel one), .d (eT film), .d (.int (0 + (i : Nat))), .d (eT tl), .d (eRows T), .d (eT (couldA rls g tl)), .d due, .d (.int ((tl.length - j : Nat) : Int)), .u, .d (eReel x), .u]) (by decide) rls (fun x hx s' H' C' cl fp => ⟨xg_name 14 nd, ?_, fun _ => xe_var 14⟩) (fun _ _ => rfl)
        exact xts_one (xt_cmp (br_neL (ns := standM x g (tl.take (tl.length - j))) (ms := []) hr.units) (xe_call GS.g (hr.mono (by decide)) (by rfl) GS.m GS.k GS.b (xa_cons (xe_var 14) (xa_cons (xe_var 3) (xa_cons (XE.is (xe_cutT (m := tl.length - j) (xe_var 8) (xe_var 12)) (by rw [← List.map_take])) xa_nil))) ⟨x, g, tl.take (tl.length - j), hR.2.2 x hx, rfl, rfl⟩) (xe_lst xa_nil (by simp)))
      · rw [List.length_map]
        have := List.length_filter_le (standsN g tl (tl.length - j)) rls
        omega
    · rw [List.length_map]
    · have e : dueS rls g tl tl.length due j = .int ((tl.length - j : Nat) : Int) := if_pos (of_decide_eq_true h)
      rw [e]
      exact xss_one (xs_set 11 nd (xe_var 12))
    · have e : dueS rls g tl tl.length due j = due := if_neg (of_decide_eq_false h)
      rw [e]
      exact xss_nil
  · have hal : Al 2 (toldA rls g tl) := by
      unfold toldA
      split
      · exact .no _
      · exact .int _ _
    rw [due_told hR.1 hR.2.2]
    exact xs_if (bb := false) (xt_not (bb := true) (xt_val (xe_call GA.g (hr.mono (by decide)) (by rfl) GA.m GA.k GA.b (xa_cons (x := toldA rls g tl) (xe_call GD.g hr (by rfl) GD.m GD.k GD.b (xa_cons (xe_var 4) (xa_cons (xe_var 3) (xa_cons (xe_var 8) xa_nil))) ⟨rls, g, tl, hR, hg, htl, rfl, rfl⟩) (xa_cons (x := toldA rls g tl) (xe_var 11) xa_nil)) ⟨_, hal, rfl, rfl⟩))) (fun h => by cases h) fun _ => xss_nil
theorem ok_law (F : Fun K "law" "law" s_law f fd) (m_range : mg "range" = none) (m_tuple : mg "tuple" = none) (m_len : mg "len" = none)
    {f1 f2 f3 f4 f5 f6 f7 f8 f9 f10 : Addr} {d1 d2 d3 d4 d5 d6 d7 d8 d9 d10 : FuncData}
    (GT : Def P w K mg base 1 "_law_taken" ["row", "many"] (spB K 2 R_taken) f1 d1)
    (GG : Def P w K mg base 3 "_law_gap" ["row"] (spB K 1 R_gap) f2 d2)
    (GR : Def P w K mg base 2 "_law_reel" ["row", "most", "pictures"] (spB K 3 R_reel) f3 d3)
    (GW : Def P w K mg base 3 "_law_run" ["row", "reel", "gap", "frames"] (spB K 4 R_run) f4 d4)
    (GS : Def P w K mg base 2 "_law_stands" ["reel", "gap", "film"] (spD K 3 R_stand) f5 d5)
    (GA : Def P w K mg base 3 "_law_alike" ["found", "due"] (spD K 2 (R_al 2)) f6 d6)
    (GC : Def P w K mg base 6 "can_show" ["reel", "gap", "film"] (spD K 3 R_can) f7 d7)
    (GB : Def P w K mg base 6 "behind" ["reel", "gap", "film"] (spD K 3 R_behind) f8 d8)
    (GO : Def P w K mg base 6 "could_be" ["reels", "gap", "film"] (spD K 3 R_could) f9 d9)
    (GD : Def P w K mg base 6 "told_at" ["reels", "gap", "film"] (spD K 3 R_told) f10 d10) :
    FnOk P w K mg base CX0 7 f fd ["script"] (spD K 1 R_law) := by
  refine fn_D F c_law (by decide) fun cdv A outer s H E ds d hl hr hR => ?_
  obtain ⟨ns, rfl, rfl⟩ := hR
  have nd := c_law.nd
  let r0 : Row := ⟨ns, 0, 1751, 0⟩
  have hp0 : 0 ≤ r0.p := Int.le_refl _
  let pics : Int := 1 + takenV r0 4
  have hpics : 1 ≤ pics ∧ pics ≤ 4 := by
    have := taken_lt (r := r0) (m := 4) (by decide)
    show 1 ≤ 1 + takenV r0 4 ∧ 1 + takenV r0 4 ≤ 4
    omega
  let r1 : Row := takenR r0 4
  let g := gapM r1
  have hg : GapOk g := gap_ok r1
  let r2 : Row := takenR r1 8
  have hp2 : 0 ≤ r2.p := takenR_p (takenR_p hp0)
  have h3 := taken_lt (r := r2) (m := 3) (by decide)
  let k : Nat := (2 + takenV r2 3).toNat
  have hk : 2 ≤ k ∧ k ≤ 4 := by
    show 2 ≤ (2 + takenV r2 3).toNat ∧ (2 + takenV r2 3).toNat ≤ 4
    omega
  let r3 : Row := takenR r2 3
  have hp3 : 0 ≤ r3.p := takenR_p hp2
  let rls : List Reel := (draw (reelM 5 pics) k r3).1
  let r4 : Row := (draw (reelM 5 pics) k r3).2
  have hrow : ∀ r, 0 ≤ r.p → 0 ≤ (reelM 5 pics r).2.p := fun r h => (reel_ok h (by decide) (by decide) hpics.1 (by omega)).2.1
  have hp4 : 0 ≤ r4.p := draw_row (P := fun r => 0 ≤ r.p) hrow _ _ hp3
  have hrls : ∀ x ∈ rls, x.Ok := draw_all (P := fun r => 0 ≤ r.p) (Q := Reel.Ok) hrow (fun r h => (reel_ok h (by decide) (by decide) hpics.1 (by omega)).1) _ _ hp3
  have hlen : rls.length = k := draw_len _ _ _
  obtain ⟨one, rest, hone⟩ : ∃ one rest, rls = one :: rest := List.exists_cons_of_ne_nil fun z => by
    rw [z, List.length_nil] at hlen
    omega
  have ho : one.Ok := hrls one (by rw [hone]; exact List.mem_cons_self)
  have hR : ReelsOk rls := ⟨by omega, by omega, hrls⟩
  have h7 := taken_lt (r := r4) (m := 7) (by decide)
  let fr : Int := takenV r4 7
  let r5 : Row := takenR r4 7
  have hp5 : 0 ≤ r5.p := takenR_p hp4
  let film : List Int := (runM one g fr r5).1
  let r6 : Row := (runM one g fr r5).2
  have hinv := run_inv (g := g) ho hp5 fr.toNat
  have hp6 : 0 ≤ r6.p := hinv.1.1
  have hfl : film.length = fr.toNat := hinv.2.1
  have hfp : ∀ x ∈ film, x ∈ one.pics := hinv.2.2.2.2
  have hfilm : FilmOk film ∧ film.length ≤ 10 := ⟨⟨by omega, fun x hx => ho.pic x (hfp x hx)⟩, by omega⟩
  have hcan : canS one g film = true := run_can ho hp5
  let scr : D := scrD (ns.map .int)
  let a1 : Row → List Sl := fun r => [.d scr, .o (eRow r), .u, .u, .u, .u, .u, .u, .u, .u, .u, .u, .u, .u, .u, .u]
  let a2 : Row → List Sl := fun r => [.d scr, .o (eRow r), .d (.int pics), .d (eGap g), .u, .u, .u, .u, .u, .u, .u, .u, .u, .u, .u, .u]
  let a3 : Row → List Sl := fun r => [.d scr, .o (eRow r), .d (.int pics), .d (eGap g), .d (eReels rls), .u, .u, .u, .u, .u, .u, .u, .u, .u, .u, .u]
  let a4 : Row → List Sl := fun r => [.d scr, .o (eRow r), .d (.int pics), .d (eGap g), .d (eReels rls), .d (eReel one), .u, .u, .u, .u, .u, .u, .u, .u, .u, .u]
  let a5 : Row → List Sl := fun r => [.d scr, .o (eRow r), .d (.int pics), .d (eGap g), .d (eReels rls), .d (eReel one), .d (eT film), .u, .u, .u, .u, .u, .u, .u, .u, .u]
  obtain ⟨r7, hturn⟩ := law_turns m_range m_tuple m_len GT GS GA GC GB GO GD (s := s) (H := H) (E := E) (outer := outer) hr (scr := scr) hpics hg hone hR hfilm hp6
  have hk0 : rls[0]? = some one := by rw [hone]; rfl
  refine rt (ρ' := a5 r7) (xss_cons (ρ1 := a1 r0) (xs_setO 1 nd (xo_lst (xa_cons (xe_var 0) (xa_cons xe_int (xa_cons xe_int (xa_cons xe_int xa_nil)))) (by simp))) (xss_cons (ρ1 := a2 r2) ?_ (xss_cons (ρ1 := a3 r4) ?_ (xss_cons (ρ1 := a4 r4) (xs_set 5 nd (xe_ixT (xe_var 4) xe_int (atI_map (f := eReel) (i := 0) (by decide) hk0))) (xss_cons (ρ1 := a5 r6) ?_ (xss_cons (ρ1 := a5 r6) ?_ (xss_cons (ρ1 := a5 r7) hturn (xss_one (xs_ret xe_bl)))))))))
  · refine xs_asg (d := .tuple [.int pics, eGap g]) (ρ1 := a1 r2) (xe_tup (xa_cons (x := .int pics) (ρ1 := a1 r1) ?_ (xa_cons (x := eGap g) (ρ1 := a1 r2) ?_ xa_nil)) (by simp)) (xg_tup rfl (xgs_cons (xg_name 2 nd) (xgs_cons (xg_name 3 nd) xgs_nil)))
    · exact xe_op br_add xe_int (xe_callO 1 (d := .int (takenV r0 4)) (s := .o (eRow r0)) (rs := eRow r0) (ρ1 := a1 r0) (rs' := eRow r1) GT.g (hr.mono (by decide)) (by rfl) GT.m GT.k GT.b (xa_cons xe_int xa_nil) rfl rfl (R_taken.mk (by decide) (by decide) hp0))
    · exact xe_callO 1 (d := eGap g) (s := .o (eRow r1)) (rs := eRow r1) (ρ1 := a1 r1) (rs' := eRow r2) GG.g (hr.mono (by decide)) (by rfl) GG.m GG.k GG.b xa_nil rfl rfl ⟨r1, takenR_p hp0, rfl, rfl, rfl, rfl⟩
  · refine xs_set 4 nd (d := eReels rls) (ρ1 := a2 r4) (xe_callTy cr_tupleL (by rfl) m_tuple b_tuple (xa_cons (XO.xe ?_) xa_nil))
    refine xo_lc (own := [("number", 13)]) (ρ0 := a2 r3) (ρ' := a2 r4) rfl nd (xi_range1 (i := 2 + takenV r2 3) (by rfl) m_range (xe_op br_add xe_int (xe_callO 1 (d := .int (takenV r2 3)) (s := .o (eRow r2)) (rs := eRow r2) (ρ1 := a2 r2) (rs' := eRow r3) GT.g (hr.mono (by decide)) (by rfl) GT.m GT.k GT.b (xa_cons xe_int xa_nil) rfl rfl (R_taken.mk (by decide) (by decide) hp2))) (by omega) (by omega)) (blkOk_by (N := n_law) (sc := defScope s_law) (by decide +kernel)) ?_ (by rw [List.length_map, hlen]; omega)
    refine lc_drawN (ws := [13]) (f := reelM 5 pics) (e := eReel) (sl := a2) (P := fun r' => 0 ≤ r'.p) (g := fun j r' => [.d scr, .o (eRow r'), .d (.int pics), .d (eGap g), .u, .u, .u, .u, .u, .u, .u, .u, .u, .d (.int (0 + (j : Nat))), .u, .u]) (g' := fun j r' => [.d scr, .o (eRow (reelM 5 pics r').2), .d (.int pics), .d (eGap g), .u, .u, .u, .u, .u, .u, .u, .u, .u, .d (.int (0 + (j : Nat))), .u, .u]) (by decide) (List.range (2 + takenV r2 3).toNat) (2 + takenV r2 3).toNat List.length_range r3 hp3 fun j r' hr' => ⟨hrow r' hr', fun s' H' C' cl fp => ⟨xg_name 13 nd, ?_⟩, rfl⟩
    exact xe_callO 1 (d := eReel (reelM 5 pics r').1) (s := .o (eRow r')) (rs := eRow r') (ρ1 := [.d scr, .o (eRow r'), .d (.int pics), .d (eGap g), .u, .u, .u, .u, .u, .u, .u, .u, .u, .d (.int (0 + (j : Nat))), .u, .u]) (rs' := eRow (reelM 5 pics r').2) GR.g (hr.mono (by decide)) (by rfl) GR.m GR.k GR.b (xa_cons xe_int (xa_cons (xe_var 2) xa_nil)) rfl rfl ⟨r', 5, pics, hr', by decide, by decide, hpics.1, by omega, rfl, rfl, rfl, rfl⟩
  · refine xs_set 6 nd (d := eT film) (ρ1 := a4 r6) ?_
    exact xe_callO 1 (d := eT film) (s := .o (eRow r5)) (rs := eRow r5) (ρ1 := a4 r5) (rs' := eRow r6) GW.g (hr.mono (by decide)) (by rfl) GW.m GW.k GW.b (xa_cons (xe_var 5) (xa_cons (xe_var 3) (xa_cons (xe_callO 1 (d := .int fr) (s := .o (eRow r4)) (rs := eRow r4) (ρ1 := a4 r4) (rs' := eRow r5) GT.g (hr.mono (by decide)) (by rfl) GT.m GT.k GT.b (xa_cons xe_int xa_nil) rfl rfl (R_taken.mk (by decide) (by decide) hp4)) xa_nil))) rfl rfl ⟨r5, one, g, fr, hp5, ho, h7.1, by show takenV r4 7 ≤ 100; omega, rfl, rfl, rfl, rfl⟩
  · refine xs_if (bb := false) (XT.is (xt_cmp (br_notB (i := canS one g film) (j := true)) (xe_call GC.g hr (by rfl) GC.m GC.k GC.b (xa_cons (xe_var 5) (xa_cons (xe_var 3) (xa_cons (xe_var 6) xa_nil))) ⟨one, g, film, ho, hg, hfilm.1, rfl, rfl⟩) xe_bl) ?_) (fun h => by cases h) fun _ => xss_nil
    rw [hcan]
    rfl
end
end K
set_option Elab.async false
set_option linter.all false
set_option maxRecDepth 100000
set_option maxHeartbeats 4000000
namespace K
open PySem PySem.Spec PyProof.Rows L2 DL
/-! ### the end -/
def spLaw (K : PySem.W.Frag) : Sp := fun vs H Q _ => ∃ (a : Addr) (ns : List Int), vs = [.ref a] ∧ SqL K H a (ns.map V.int) ∧ ns.length ≤ 63 ∧ ∀ H', Q (.bl true) H'
theorem law_sp {P : Program} {w : World} {K : PySem.W.Frag} {mg : Str → Option Value} {base : Heap} {f : Addr} {fd : FuncData} {k : Nat} (G : FnOk P w K mg base CX0 k f fd ["script"] (spD K 1 R_law)) : FnOk P w K mg base CX0 k f fd ["script"] (spLaw K) :=
  ⟨fun vs H Q E h => by
    obtain ⟨a, ns, rfl, _⟩ := h
    rfl, fun A outer s H args us vs Q E hr e0 bt hv h => G.run A outer s H args us vs Q E hr e0 bt hv (by
    obtain ⟨a, ns, rfl, hS, hl, q⟩ := h
    exact ⟨H, [scrD (ns.map .int)], .bool true, rfl, Same.refl _, .cons (.scr hS (Rps.of_ints ns)) .nil, ⟨ns, rfl, rfl⟩, fun v F' H' g r => by cases r; exact q H'⟩)⟩
theorem all_mk {l : PySem.W.OpenLaw} {w : World} {K : PySem.W.Frag} {h : Heap} {mg : Str → Option Value} {fa : Addr} (X : K.In h) (G : h.Ns mainGlobals mg) (hfa : mg "law" = some (.ref fa))
    {f0 : Addr} {od0 an0 : Option Addr} {sl0 : Array (Option Value)} {oc0 kV0 dc0 pm0 cd0 ct0 : Value}
    (a0 : PySem.W.nsIn K mainGlobals "is_integer" = some (some (.ref f0))) (l0 : K.lookup f0 = some ⟨oc0, od0, .func (PySem.W.fnOf "is_integer" "is_integer" (defArgs s_is_integer) (defBody s_is_integer) (defScope s_is_integer) .none kV0 dc0 pm0 an0 cd0 ct0), sl0⟩) (c0 : PySem.W.codeIn K cd0 "is_integer" = true) (k0 : PySem.W.keepIn K (.ref f0) = true)
    {f1 : Addr} {od1 an1 : Option Addr} {sl1 : Array (Option Value)} {oc1 kV1 dc1 pm1 cd1 ct1 : Value}
    (a1 : PySem.W.nsIn K mainGlobals "is_picture" = some (some (.ref f1))) (l1 : K.lookup f1 = some ⟨oc1, od1, .func (PySem.W.fnOf "is_picture" "is_picture" (defArgs s_is_picture) (defBody s_is_picture) (defScope s_is_picture) .none kV1 dc1 pm1 an1 cd1 ct1), sl1⟩) (c1 : PySem.W.codeIn K cd1 "is_picture" = true) (k1 : PySem.W.keepIn K (.ref f1) = true)
    {f2 : Addr} {od2 an2 : Option Addr} {sl2 : Array (Option Value)} {oc2 kV2 dc2 pm2 cd2 ct2 : Value}
    (a2 : PySem.W.nsIn K mainGlobals "is_film" = some (some (.ref f2))) (l2 : K.lookup f2 = some ⟨oc2, od2, .func (PySem.W.fnOf "is_film" "is_film" (defArgs s_is_film) (defBody s_is_film) (defScope s_is_film) .none kV2 dc2 pm2 an2 cd2 ct2), sl2⟩) (c2 : PySem.W.codeIn K cd2 "is_film" = true) (k2 : PySem.W.keepIn K (.ref f2) = true)
    {f3 : Addr} {od3 an3 : Option Addr} {sl3 : Array (Option Value)} {oc3 kV3 dc3 pm3 cd3 ct3 : Value}
    (a3 : PySem.W.nsIn K mainGlobals "is_ascending" = some (some (.ref f3))) (l3 : K.lookup f3 = some ⟨oc3, od3, .func (PySem.W.fnOf "is_ascending" "is_ascending" (defArgs s_is_ascending) (defBody s_is_ascending) (defScope s_is_ascending) .none kV3 dc3 pm3 an3 cd3 ct3), sl3⟩) (c3 : PySem.W.codeIn K cd3 "is_ascending" = true) (k3 : PySem.W.keepIn K (.ref f3) = true)
    {f4 : Addr} {od4 an4 : Option Addr} {sl4 : Array (Option Value)} {oc4 kV4 dc4 pm4 cd4 ct4 : Value}
    (a4 : PySem.W.nsIn K mainGlobals "is_next_row" = some (some (.ref f4))) (l4 : K.lookup f4 = some ⟨oc4, od4, .func (PySem.W.fnOf "is_next_row" "is_next_row" (defArgs s_is_next_row) (defBody s_is_next_row) (defScope s_is_next_row) .none kV4 dc4 pm4 an4 cd4 ct4), sl4⟩) (c4 : PySem.W.codeIn K cd4 "is_next_row" = true) (k4 : PySem.W.keepIn K (.ref f4) = true)
    {f5 : Addr} {od5 an5 : Option Addr} {sl5 : Array (Option Value)} {oc5 kV5 dc5 pm5 cd5 ct5 : Value}
    (a5 : PySem.W.nsIn K mainGlobals "are_nexts" = some (some (.ref f5))) (l5 : K.lookup f5 = some ⟨oc5, od5, .func (PySem.W.fnOf "are_nexts" "are_nexts" (defArgs s_are_nexts) (defBody s_are_nexts) (defScope s_are_nexts) .none kV5 dc5 pm5 an5 cd5 ct5), sl5⟩) (c5 : PySem.W.codeIn K cd5 "are_nexts" = true) (k5 : PySem.W.keepIn K (.ref f5) = true)
    {f6 : Addr} {od6 an6 : Option Addr} {sl6 : Array (Option Value)} {oc6 kV6 dc6 pm6 cd6 ct6 : Value}
    (a6 : PySem.W.nsIn K mainGlobals "wrong_part" = some (some (.ref f6))) (l6 : K.lookup f6 = some ⟨oc6, od6, .func (PySem.W.fnOf "wrong_part" "wrong_part" (defArgs s_wrong_part) (defBody s_wrong_part) (defScope s_wrong_part) .none kV6 dc6 pm6 an6 cd6 ct6), sl6⟩) (c6 : PySem.W.codeIn K cd6 "wrong_part" = true) (k6 : PySem.W.keepIn K (.ref f6) = true)
    {f7 : Addr} {od7 an7 : Option Addr} {sl7 : Array (Option Value)} {oc7 kV7 dc7 pm7 cd7 ct7 : Value}
    (a7 : PySem.W.nsIn K mainGlobals "check_reel" = some (some (.ref f7))) (l7 : K.lookup f7 = some ⟨oc7, od7, .func (PySem.W.fnOf "check_reel" "check_reel" (defArgs s_check_reel) (defBody s_check_reel) (defScope s_check_reel) .none kV7 dc7 pm7 an7 cd7 ct7), sl7⟩) (c7 : PySem.W.codeIn K cd7 "check_reel" = true) (k7 : PySem.W.keepIn K (.ref f7) = true)
    {f8 : Addr} {od8 an8 : Option Addr} {sl8 : Array (Option Value)} {oc8 kV8 dc8 pm8 cd8 ct8 : Value}
    (a8 : PySem.W.nsIn K mainGlobals "check_reels" = some (some (.ref f8))) (l8 : K.lookup f8 = some ⟨oc8, od8, .func (PySem.W.fnOf "check_reels" "check_reels" (defArgs s_check_reels) (defBody s_check_reels) (defScope s_check_reels) .none kV8 dc8 pm8 an8 cd8 ct8), sl8⟩) (c8 : PySem.W.codeIn K cd8 "check_reels" = true) (k8 : PySem.W.keepIn K (.ref f8) = true)
    {f9 : Addr} {od9 an9 : Option Addr} {sl9 : Array (Option Value)} {oc9 kV9 dc9 pm9 cd9 ct9 : Value}
    (a9 : PySem.W.nsIn K mainGlobals "check_gap" = some (some (.ref f9))) (l9 : K.lookup f9 = some ⟨oc9, od9, .func (PySem.W.fnOf "check_gap" "check_gap" (defArgs s_check_gap) (defBody s_check_gap) (defScope s_check_gap) .none kV9 dc9 pm9 an9 cd9 ct9), sl9⟩) (c9 : PySem.W.codeIn K cd9 "check_gap" = true) (k9 : PySem.W.keepIn K (.ref f9) = true)
    {f10 : Addr} {od10 an10 : Option Addr} {sl10 : Array (Option Value)} {oc10 kV10 dc10 pm10 cd10 ct10 : Value}
    (a10 : PySem.W.nsIn K mainGlobals "check_film" = some (some (.ref f10))) (l10 : K.lookup f10 = some ⟨oc10, od10, .func (PySem.W.fnOf "check_film" "check_film" (defArgs s_check_film) (defBody s_check_film) (defScope s_check_film) .none kV10 dc10 pm10 an10 cd10 ct10), sl10⟩) (c10 : PySem.W.codeIn K cd10 "check_film" = true) (k10 : PySem.W.keepIn K (.ref f10) = true)
    {f11 : Addr} {od11 an11 : Option Addr} {sl11 : Array (Option Value)} {oc11 kV11 dc11 pm11 cd11 ct11 : Value}
    (a11 : PySem.W.nsIn K mainGlobals "ahead_of_all" = some (some (.ref f11))) (l11 : K.lookup f11 = some ⟨oc11, od11, .func (PySem.W.fnOf "ahead_of_all" "ahead_of_all" (defArgs s_ahead_of_all) (defBody s_ahead_of_all) (defScope s_ahead_of_all) .none kV11 dc11 pm11 an11 cd11 ct11), sl11⟩) (c11 : PySem.W.codeIn K cd11 "ahead_of_all" = true) (k11 : PySem.W.keepIn K (.ref f11) = true)
    {f12 : Addr} {od12 an12 : Option Addr} {sl12 : Array (Option Value)} {oc12 kV12 dc12 pm12 cd12 ct12 : Value}
    (a12 : PySem.W.nsIn K mainGlobals "states_within" = some (some (.ref f12))) (l12 : K.lookup f12 = some ⟨oc12, od12, .func (PySem.W.fnOf "states_within" "states_within" (defArgs s_states_within) (defBody s_states_within) (defScope s_states_within) .none kV12 dc12 pm12 an12 cd12 ct12), sl12⟩) (c12 : PySem.W.codeIn K cd12 "states_within" = true) (k12 : PySem.W.keepIn K (.ref f12) = true)
    {f13 : Addr} {od13 an13 : Option Addr} {sl13 : Array (Option Value)} {oc13 kV13 dc13 pm13 cd13 ct13 : Value}
    (a13 : PySem.W.nsIn K mainGlobals "leaps" = some (some (.ref f13))) (l13 : K.lookup f13 = some ⟨oc13, od13, .func (PySem.W.fnOf "leaps" "leaps" (defArgs s_leaps) (defBody s_leaps) (defScope s_leaps) .none kV13 dc13 pm13 an13 cd13 ct13), sl13⟩) (c13 : PySem.W.codeIn K cd13 "leaps" = true) (k13 : PySem.W.keepIn K (.ref f13) = true)
    {f14 : Addr} {od14 an14 : Option Addr} {sl14 : Array (Option Value)} {oc14 kV14 dc14 pm14 cd14 ct14 : Value}
    (a14 : PySem.W.nsIn K mainGlobals "states_at_next" = some (some (.ref f14))) (l14 : K.lookup f14 = some ⟨oc14, od14, .func (PySem.W.fnOf "states_at_next" "states_at_next" (defArgs s_states_at_next) (defBody s_states_at_next) (defScope s_states_at_next) .none kV14 dc14 pm14 an14 cd14 ct14), sl14⟩) (c14 : PySem.W.codeIn K cd14 "states_at_next" = true) (k14 : PySem.W.keepIn K (.ref f14) = true)
    {f15 : Addr} {od15 an15 : Option Addr} {sl15 : Array (Option Value)} {oc15 kV15 dc15 pm15 cd15 ct15 : Value}
    (a15 : PySem.W.nsIn K mainGlobals "states_behind" = some (some (.ref f15))) (l15 : K.lookup f15 = some ⟨oc15, od15, .func (PySem.W.fnOf "states_behind" "states_behind" (defArgs s_states_behind) (defBody s_states_behind) (defScope s_states_behind) .none kV15 dc15 pm15 an15 cd15 ct15), sl15⟩) (c15 : PySem.W.codeIn K cd15 "states_behind" = true) (k15 : PySem.W.keepIn K (.ref f15) = true)
    {f16 : Addr} {od16 an16 : Option Addr} {sl16 : Array (Option Value)} {oc16 kV16 dc16 pm16 cd16 ct16 : Value}
    (a16 : PySem.W.nsIn K mainGlobals "frames_shown" = some (some (.ref f16))) (l16 : K.lookup f16 = some ⟨oc16, od16, .func (PySem.W.fnOf "frames_shown" "frames_shown" (defArgs s_frames_shown) (defBody s_frames_shown) (defScope s_frames_shown) .none kV16 dc16 pm16 an16 cd16 ct16), sl16⟩) (c16 : PySem.W.codeIn K cd16 "frames_shown" = true) (k16 : PySem.W.keepIn K (.ref f16) = true)
    {f17 : Addr} {od17 an17 : Option Addr} {sl17 : Array (Option Value)} {oc17 kV17 dc17 pm17 cd17 ct17 : Value}
    (a17 : PySem.W.nsIn K mainGlobals "can_show" = some (some (.ref f17))) (l17 : K.lookup f17 = some ⟨oc17, od17, .func (PySem.W.fnOf "can_show" "can_show" (defArgs s_can_show) (defBody s_can_show) (defScope s_can_show) .none kV17 dc17 pm17 an17 cd17 ct17), sl17⟩) (c17 : PySem.W.codeIn K cd17 "can_show" = true) (k17 : PySem.W.keepIn K (.ref f17) = true)
    {f18 : Addr} {od18 an18 : Option Addr} {sl18 : Array (Option Value)} {oc18 kV18 dc18 pm18 cd18 ct18 : Value}
    (a18 : PySem.W.nsIn K mainGlobals "behind" = some (some (.ref f18))) (l18 : K.lookup f18 = some ⟨oc18, od18, .func (PySem.W.fnOf "behind" "behind" (defArgs s_behind) (defBody s_behind) (defScope s_behind) .none kV18 dc18 pm18 an18 cd18 ct18), sl18⟩) (c18 : PySem.W.codeIn K cd18 "behind" = true) (k18 : PySem.W.keepIn K (.ref f18) = true)
    {f19 : Addr} {od19 an19 : Option Addr} {sl19 : Array (Option Value)} {oc19 kV19 dc19 pm19 cd19 ct19 : Value}
    (a19 : PySem.W.nsIn K mainGlobals "could_be" = some (some (.ref f19))) (l19 : K.lookup f19 = some ⟨oc19, od19, .func (PySem.W.fnOf "could_be" "could_be" (defArgs s_could_be) (defBody s_could_be) (defScope s_could_be) .none kV19 dc19 pm19 an19 cd19 ct19), sl19⟩) (c19 : PySem.W.codeIn K cd19 "could_be" = true) (k19 : PySem.W.keepIn K (.ref f19) = true)
    {f20 : Addr} {od20 an20 : Option Addr} {sl20 : Array (Option Value)} {oc20 kV20 dc20 pm20 cd20 ct20 : Value}
    (a20 : PySem.W.nsIn K mainGlobals "told_at" = some (some (.ref f20))) (l20 : K.lookup f20 = some ⟨oc20, od20, .func (PySem.W.fnOf "told_at" "told_at" (defArgs s_told_at) (defBody s_told_at) (defScope s_told_at) .none kV20 dc20 pm20 an20 cd20 ct20), sl20⟩) (c20 : PySem.W.codeIn K cd20 "told_at" = true) (k20 : PySem.W.keepIn K (.ref f20) = true)
    {f21 : Addr} {od21 an21 : Option Addr} {sl21 : Array (Option Value)} {oc21 kV21 dc21 pm21 cd21 ct21 : Value}
    (a21 : PySem.W.nsIn K mainGlobals "_law_taken" = some (some (.ref f21))) (l21 : K.lookup f21 = some ⟨oc21, od21, .func (PySem.W.fnOf "_law_taken" "_law_taken" (defArgs s_law_taken) (defBody s_law_taken) (defScope s_law_taken) .none kV21 dc21 pm21 an21 cd21 ct21), sl21⟩) (c21 : PySem.W.codeIn K cd21 "_law_taken" = true) (k21 : PySem.W.keepIn K (.ref f21) = true)
    {f22 : Addr} {od22 an22 : Option Addr} {sl22 : Array (Option Value)} {oc22 kV22 dc22 pm22 cd22 ct22 : Value}
    (a22 : PySem.W.nsIn K mainGlobals "_law_pick" = some (some (.ref f22))) (l22 : K.lookup f22 = some ⟨oc22, od22, .func (PySem.W.fnOf "_law_pick" "_law_pick" (defArgs s_law_pick) (defBody s_law_pick) (defScope s_law_pick) .none kV22 dc22 pm22 an22 cd22 ct22), sl22⟩) (c22 : PySem.W.codeIn K cd22 "_law_pick" = true) (k22 : PySem.W.keepIn K (.ref f22) = true)
    {f23 : Addr} {od23 an23 : Option Addr} {sl23 : Array (Option Value)} {oc23 kV23 dc23 pm23 cd23 ct23 : Value}
    (a23 : PySem.W.nsIn K mainGlobals "_law_gap" = some (some (.ref f23))) (l23 : K.lookup f23 = some ⟨oc23, od23, .func (PySem.W.fnOf "_law_gap" "_law_gap" (defArgs s_law_gap) (defBody s_law_gap) (defScope s_law_gap) .none kV23 dc23 pm23 an23 cd23 ct23), sl23⟩) (c23 : PySem.W.codeIn K cd23 "_law_gap" = true) (k23 : PySem.W.keepIn K (.ref f23) = true)
    {f24 : Addr} {od24 an24 : Option Addr} {sl24 : Array (Option Value)} {oc24 kV24 dc24 pm24 cd24 ct24 : Value}
    (a24 : PySem.W.nsIn K mainGlobals "_law_reel" = some (some (.ref f24))) (l24 : K.lookup f24 = some ⟨oc24, od24, .func (PySem.W.fnOf "_law_reel" "_law_reel" (defArgs s_law_reel) (defBody s_law_reel) (defScope s_law_reel) .none kV24 dc24 pm24 an24 cd24 ct24), sl24⟩) (c24 : PySem.W.codeIn K cd24 "_law_reel" = true) (k24 : PySem.W.keepIn K (.ref f24) = true)
    {f25 : Addr} {od25 an25 : Option Addr} {sl25 : Array (Option Value)} {oc25 kV25 dc25 pm25 cd25 ct25 : Value}
    (a25 : PySem.W.nsIn K mainGlobals "_law_run" = some (some (.ref f25))) (l25 : K.lookup f25 = some ⟨oc25, od25, .func (PySem.W.fnOf "_law_run" "_law_run" (defArgs s_law_run) (defBody s_law_run) (defScope s_law_run) .none kV25 dc25 pm25 an25 cd25 ct25), sl25⟩) (c25 : PySem.W.codeIn K cd25 "_law_run" = true) (k25 : PySem.W.keepIn K (.ref f25) = true)
    {f26 : Addr} {od26 an26 : Option Addr} {sl26 : Array (Option Value)} {oc26 kV26 dc26 pm26 cd26 ct26 : Value}
    (a26 : PySem.W.nsIn K mainGlobals "_law_beyond" = some (some (.ref f26))) (l26 : K.lookup f26 = some ⟨oc26, od26, .func (PySem.W.fnOf "_law_beyond" "_law_beyond" (defArgs s_law_beyond) (defBody s_law_beyond) (defScope s_law_beyond) .none kV26 dc26 pm26 an26 cd26 ct26), sl26⟩) (c26 : PySem.W.codeIn K cd26 "_law_beyond" = true) (k26 : PySem.W.keepIn K (.ref f26) = true)
    {f27 : Addr} {od27 an27 : Option Addr} {sl27 : Array (Option Value)} {oc27 kV27 dc27 pm27 cd27 ct27 : Value}
    (a27 : PySem.W.nsIn K mainGlobals "_law_stands" = some (some (.ref f27))) (l27 : K.lookup f27 = some ⟨oc27, od27, .func (PySem.W.fnOf "_law_stands" "_law_stands" (defArgs s_law_stands) (defBody s_law_stands) (defScope s_law_stands) .none kV27 dc27 pm27 an27 cd27 ct27), sl27⟩) (c27 : PySem.W.codeIn K cd27 "_law_stands" = true) (k27 : PySem.W.keepIn K (.ref f27) = true)
    {f28 : Addr} {od28 an28 : Option Addr} {sl28 : Array (Option Value)} {oc28 kV28 dc28 pm28 cd28 ct28 : Value}
    (a28 : PySem.W.nsIn K mainGlobals "_law_alike" = some (some (.ref f28))) (l28 : K.lookup f28 = some ⟨oc28, od28, .func (PySem.W.fnOf "_law_alike" "_law_alike" (defArgs s_law_alike) (defBody s_law_alike) (defScope s_law_alike) .none kV28 dc28 pm28 an28 cd28 ct28), sl28⟩) (c28 : PySem.W.codeIn K cd28 "_law_alike" = true) (k28 : PySem.W.keepIn K (.ref f28) = true)
    {f29 : Addr} {od29 an29 : Option Addr} {sl29 : Array (Option Value)} {oc29 kV29 dc29 pm29 cd29 ct29 : Value}
    (a29 : PySem.W.nsIn K mainGlobals "law" = some (some (.ref f29))) (l29 : K.lookup f29 = some ⟨oc29, od29, .func (PySem.W.fnOf "law" "law" (defArgs s_law) (defBody s_law) (defScope s_law) .none kV29 dc29 pm29 an29 cd29 ct29), sl29⟩) (c29 : PySem.W.codeIn K cd29 "law" = true) (k29 : PySem.W.keepIn K (.ref f29) = true)
    (z_len : PySem.W.nsIn K mainGlobals "len" = some none)
    (z_sorted : PySem.W.nsIn K mainGlobals "sorted" = some none)
    (z_set : PySem.W.nsIn K mainGlobals "set" = some none)
    (z_range : PySem.W.nsIn K mainGlobals "range" = some none)
    (z_enumerate : PySem.W.nsIn K mainGlobals "enumerate" = some none)
    (z_isinstance : PySem.W.nsIn K mainGlobals "isinstance" = some none)
    (z_int : PySem.W.nsIn K mainGlobals "int" = some none)
    (z_bool : PySem.W.nsIn K mainGlobals "bool" = some none)
    (z_tuple : PySem.W.nsIn K mainGlobals "tuple" = some none)
    (z_all : PySem.W.nsIn K mainGlobals "all" = some none)
    (z_list : PySem.W.nsIn K mainGlobals "list" = some none)
    (z_min : PySem.W.nsIn K mainGlobals "min" = some none)
    (z_str : PySem.W.nsIn K mainGlobals "str" = some none)
    {t_MOST_STATES : Tok} (q_MOST_STATES : PySem.W.nsIn K mainGlobals "MOST_STATES" = some (some (.int 6 t_MOST_STATES)))
    {t_FEWEST_REELS : Tok} (q_FEWEST_REELS : PySem.W.nsIn K mainGlobals "FEWEST_REELS" = some (some (.int 2 t_FEWEST_REELS)))
    {t_MOST_REELS : Tok} (q_MOST_REELS : PySem.W.nsIn K mainGlobals "MOST_REELS" = some (some (.int 6 t_MOST_REELS)))
    {t_MOST_GAP : Tok} (q_MOST_GAP : PySem.W.nsIn K mainGlobals "MOST_GAP" = some (some (.int 20 t_MOST_GAP)))
    {t_MOST_FRAMES : Tok} (q_MOST_FRAMES : PySem.W.nsIn K mainGlobals "MOST_FRAMES" = some (some (.int 1000 t_MOST_FRAMES)))
    {t_LAST_PICTURE : Tok} (q_LAST_PICTURE : PySem.W.nsIn K mainGlobals "LAST_PICTURE" = some (some (.int 99 t_LAST_PICTURE))) :
    ∃ fd : FuncData, (∀ (s : Shared) (v : Value), BindsTo s fd ⟨[v], []⟩ [("script", v)]) ∧ ∀ base : Heap, K.In base → base.Ns mainGlobals mg → FnOk l.prog w K mg base CX0 7 fa fd ["script"] (spLaw K) := by
  have e := hfa.symm.trans (PySem.W.mg_of X G a29)
  cases e
  have F0 := fun_mk (st := s_is_integer) l0 c0 k0
  have b0 := F0.binds (ps := ["value", "low", "high"]) fun _ _ _ _ _ _ us hl => match us, hl with | [_, _, _], _ => rfl
  have m0 := PySem.W.mg_of X G a0
  have F1 := fun_mk (st := s_is_picture) l1 c1 k1
  have b1 := F1.binds (ps := ["value"]) fun _ _ _ _ _ _ us hl => match us, hl with | [_], _ => rfl
  have m1 := PySem.W.mg_of X G a1
  have F2 := fun_mk (st := s_is_film) l2 c2 k2
  have b2 := F2.binds (ps := ["value"]) fun _ _ _ _ _ _ us hl => match us, hl with | [_], _ => rfl
  have m2 := PySem.W.mg_of X G a2
  have F3 := fun_mk (st := s_is_ascending) l3 c3 k3
  have b3 := F3.binds (ps := ["value"]) fun _ _ _ _ _ _ us hl => match us, hl with | [_], _ => rfl
  have m3 := PySem.W.mg_of X G a3
  have F4 := fun_mk (st := s_is_next_row) l4 c4 k4
  have b4 := F4.binds (ps := ["value", "many"]) fun _ _ _ _ _ _ us hl => match us, hl with | [_, _], _ => rfl
  have m4 := PySem.W.mg_of X G a4
  have F5 := fun_mk (st := s_are_nexts) l5 c5 k5
  have b5 := F5.binds (ps := ["value"]) fun _ _ _ _ _ _ us hl => match us, hl with | [_], _ => rfl
  have m5 := PySem.W.mg_of X G a5
  have F6 := fun_mk (st := s_wrong_part) l6 c6 k6
  have b6 := F6.binds (ps := ["value"]) fun _ _ _ _ _ _ us hl => match us, hl with | [_], _ => rfl
  have m6 := PySem.W.mg_of X G a6
  have F7 := fun_mk (st := s_check_reel) l7 c7 k7
  have b7 := F7.binds (ps := ["reel"]) fun _ _ _ _ _ _ us hl => match us, hl with | [_], _ => rfl
  have m7 := PySem.W.mg_of X G a7
  have F8 := fun_mk (st := s_check_reels) l8 c8 k8
  have b8 := F8.binds (ps := ["reels"]) fun _ _ _ _ _ _ us hl => match us, hl with | [_], _ => rfl
  have m8 := PySem.W.mg_of X G a8
  have F9 := fun_mk (st := s_check_gap) l9 c9 k9
  have b9 := F9.binds (ps := ["gap"]) fun _ _ _ _ _ _ us hl => match us, hl with | [_], _ => rfl
  have m9 := PySem.W.mg_of X G a9
  have F10 := fun_mk (st := s_check_film) l10 c10 k10
  have b10 := F10.binds (ps := ["film"]) fun _ _ _ _ _ _ us hl => match us, hl with | [_], _ => rfl
  have m10 := PySem.W.mg_of X G a10
  have F11 := fun_mk (st := s_ahead_of_all) l11 c11 k11
  have b11 := F11.binds (ps := ["reel"]) fun _ _ _ _ _ _ us hl => match us, hl with | [_], _ => rfl
  have m11 := PySem.W.mg_of X G a11
  have F12 := fun_mk (st := s_states_within) l12 c12 k12
  have b12 := F12.binds (ps := ["nexts", "states", "gap"]) fun _ _ _ _ _ _ us hl => match us, hl with | [_, _, _], _ => rfl
  have m12 := PySem.W.mg_of X G a12
  have F13 := fun_mk (st := s_leaps) l13 c13 k13
  have b13 := F13.binds (ps := ["reel", "gap"]) fun _ _ _ _ _ _ us hl => match us, hl with | [_, _], _ => rfl
  have m13 := PySem.W.mg_of X G a13
  have F14 := fun_mk (st := s_states_at_next) l14 c14 k14
  have b14 := F14.binds (ps := ["reel", "rows", "states", "picture"]) fun _ _ _ _ _ _ us hl => match us, hl with | [_, _, _, _], _ => rfl
  have m14 := PySem.W.mg_of X G a14
  have F15 := fun_mk (st := s_states_behind) l15 c15 k15
  have b15 := F15.binds (ps := ["reel", "rows", "states", "film"]) fun _ _ _ _ _ _ us hl => match us, hl with | [_, _, _, _], _ => rfl
  have m15 := PySem.W.mg_of X G a15
  have F16 := fun_mk (st := s_frames_shown) l16 c16 k16
  have b16 := F16.binds (ps := ["reel", "gap", "film"]) fun _ _ _ _ _ _ us hl => match us, hl with | [_, _, _], _ => rfl
  have m16 := PySem.W.mg_of X G a16
  have F17 := fun_mk (st := s_can_show) l17 c17 k17
  have b17 := F17.binds (ps := ["reel", "gap", "film"]) fun _ _ _ _ _ _ us hl => match us, hl with | [_, _, _], _ => rfl
  have m17 := PySem.W.mg_of X G a17
  have F18 := fun_mk (st := s_behind) l18 c18 k18
  have b18 := F18.binds (ps := ["reel", "gap", "film"]) fun _ _ _ _ _ _ us hl => match us, hl with | [_, _, _], _ => rfl
  have m18 := PySem.W.mg_of X G a18
  have F19 := fun_mk (st := s_could_be) l19 c19 k19
  have b19 := F19.binds (ps := ["reels", "gap", "film"]) fun _ _ _ _ _ _ us hl => match us, hl with | [_, _, _], _ => rfl
  have m19 := PySem.W.mg_of X G a19
  have F20 := fun_mk (st := s_told_at) l20 c20 k20
  have b20 := F20.binds (ps := ["reels", "gap", "film"]) fun _ _ _ _ _ _ us hl => match us, hl with | [_, _, _], _ => rfl
  have m20 := PySem.W.mg_of X G a20
  have F21 := fun_mk (st := s_law_taken) l21 c21 k21
  have b21 := F21.binds (ps := ["row", "many"]) fun _ _ _ _ _ _ us hl => match us, hl with | [_, _], _ => rfl
  have m21 := PySem.W.mg_of X G a21
  have F22 := fun_mk (st := s_law_pick) l22 c22 k22
  have b22 := F22.binds (ps := ["row", "things"]) fun _ _ _ _ _ _ us hl => match us, hl with | [_, _], _ => rfl
  have m22 := PySem.W.mg_of X G a22
  have F23 := fun_mk (st := s_law_gap) l23 c23 k23
  have b23 := F23.binds (ps := ["row"]) fun _ _ _ _ _ _ us hl => match us, hl with | [_], _ => rfl
  have m23 := PySem.W.mg_of X G a23
  have F24 := fun_mk (st := s_law_reel) l24 c24 k24
  have b24 := F24.binds (ps := ["row", "most", "pictures"]) fun _ _ _ _ _ _ us hl => match us, hl with | [_, _, _], _ => rfl
  have m24 := PySem.W.mg_of X G a24
  have F25 := fun_mk (st := s_law_run) l25 c25 k25
  have b25 := F25.binds (ps := ["row", "reel", "gap", "frames"]) fun _ _ _ _ _ _ us hl => match us, hl with | [_, _, _, _], _ => rfl
  have m25 := PySem.W.mg_of X G a25
  have F26 := fun_mk (st := s_law_beyond) l26 c26 k26
  have b26 := F26.binds (ps := ["reel", "states", "least", "most"]) fun _ _ _ _ _ _ us hl => match us, hl with | [_, _, _, _], _ => rfl
  have m26 := PySem.W.mg_of X G a26
  have F27 := fun_mk (st := s_law_stands) l27 c27 k27
  have b27 := F27.binds (ps := ["reel", "gap", "film"]) fun _ _ _ _ _ _ us hl => match us, hl with | [_, _, _], _ => rfl
  have m27 := PySem.W.mg_of X G a27
  have F28 := fun_mk (st := s_law_alike) l28 c28 k28
  have b28 := F28.binds (ps := ["found", "due"]) fun _ _ _ _ _ _ us hl => match us, hl with | [_, _], _ => rfl
  have m28 := PySem.W.mg_of X G a28
  have F29 := fun_mk (st := s_law) l29 c29 k29
  have m29 := PySem.W.mg_of X G a29
  have y_len := PySem.W.mg_none_of X G z_len
  have y_sorted := PySem.W.mg_none_of X G z_sorted
  have y_set := PySem.W.mg_none_of X G z_set
  have y_range := PySem.W.mg_none_of X G z_range
  have y_enumerate := PySem.W.mg_none_of X G z_enumerate
  have y_isinstance := PySem.W.mg_none_of X G z_isinstance
  have y_int := PySem.W.mg_none_of X G z_int
  have y_bool := PySem.W.mg_none_of X G z_bool
  have y_tuple := PySem.W.mg_none_of X G z_tuple
  have y_all := PySem.W.mg_none_of X G z_all
  have y_list := PySem.W.mg_none_of X G z_list
  have y_min := PySem.W.mg_none_of X G z_min
  have y_str := PySem.W.mg_none_of X G z_str
  have w_MOST_STATES := PySem.W.mg_of X G q_MOST_STATES
  have w_FEWEST_REELS := PySem.W.mg_of X G q_FEWEST_REELS
  have w_MOST_REELS := PySem.W.mg_of X G q_MOST_REELS
  have w_MOST_GAP := PySem.W.mg_of X G q_MOST_GAP
  have w_MOST_FRAMES := PySem.W.mg_of X G q_MOST_FRAMES
  have w_LAST_PICTURE := PySem.W.mg_of X G q_LAST_PICTURE
  refine ⟨PySem.W.fnOf "law" "law" (defArgs s_law) (defBody s_law) (defScope s_law) .none kV29 dc29 pm29 an29 cd29 ct29, fun s v => .of_eq rfl, fun base _ _ => ?_⟩
  have G0 := ok_isint (P := l.prog) (w := w) (mg := mg) (base := base) F0 y_isinstance y_int y_bool
  have G1 := ok_ispic (P := l.prog) (w := w) (mg := mg) (base := base) F1 G0 k0 b0 m0 w_LAST_PICTURE
  have G2 := ok_isfilm (P := l.prog) (w := w) (mg := mg) (base := base) F2 y_isinstance y_tuple y_len y_all w_MOST_FRAMES G1 k1 b1 m1
  have G3 := ok_isasc (P := l.prog) (w := w) (mg := mg) (base := base) F3 y_list y_sorted y_set
  have G4 := ok_isrow (P := l.prog) (w := w) (mg := mg) (base := base) F4 y_isinstance y_tuple y_len y_all G0 k0 b0 m0 G3 k3 b3 m3
  have G5 := ok_isnexts (P := l.prog) (w := w) (mg := mg) (base := base) F5 y_isinstance y_tuple y_len y_all w_MOST_STATES G4 k4 b4 m4
  have G6 := ok_wrong (P := l.prog) (w := w) (mg := mg) (base := base) F6 y_isinstance y_tuple y_len G5 k5 b5 m5 G2 k2 b2 m2
  have G7 := ok_ckreel (P := l.prog) (w := w) (mg := mg) (base := base) F7 G6 k6 b6 m6
  have G8 := ok_ckreels (P := l.prog) (w := w) (mg := mg) (base := base) F8 y_isinstance y_tuple y_len y_enumerate w_FEWEST_REELS w_MOST_REELS G6 k6 b6 m6
  have G9 := ok_ckgap (P := l.prog) (w := w) (mg := mg) (base := base) F9 w_MOST_GAP G0 k0 b0 m0
  have G10 := ok_ckfilm (P := l.prog) (w := w) (mg := mg) (base := base) F10 G2 k2 b2 m2
  have G11 := ok_ahead (P := l.prog) (w := w) (mg := mg) (base := base) F11 y_len
  have G12 := ok_within (P := l.prog) (w := w) (mg := mg) (base := base) F12 y_len y_sorted y_set y_range
  have G13 := ok_leaps (P := l.prog) (w := w) (mg := mg) (base := base) F13 G12 k12 b12 m12
  have G14 := ok_next (P := l.prog) (w := w) (mg := mg) (base := base) F14 y_sorted
  have G15 := ok_sbehind (P := l.prog) (w := w) (mg := mg) (base := base) F15 G14 k14 b14 m14
  have G16 := ok_shown (P := l.prog) (w := w) (mg := mg) (base := base) F16 y_len y_enumerate G13 k13 b13 m13 G11 k11 b11 m11 G14 k14 b14 m14
  have G17 := ok_can (P := l.prog) (w := w) (mg := mg) (base := base) F17 y_len G7 k7 b7 m7 G9 k9 b9 m9 G10 k10 b10 m10 G16 k16 b16 m16
  have G18 := ok_behind (P := l.prog) (w := w) (mg := mg) (base := base) F18 y_len y_tuple G7 k7 b7 m7 G9 k9 b9 m9 G10 k10 b10 m10 G13 k13 b13 m13 G15 k15 b15 m15 G11 k11 b11 m11
  have G19 := ok_could (P := l.prog) (w := w) (mg := mg) (base := base) F19 y_len y_tuple y_enumerate G8 k8 b8 m8 G9 k9 b9 m9 G10 k10 b10 m10 G16 k16 b16 m16
  have G20 := ok_told (P := l.prog) (w := w) (mg := mg) (base := base) F20 y_len y_sorted G8 k8 b8 m8 G9 k9 b9 m9 G10 k10 b10 m10 G16 k16 b16 m16
  have G21 := ok_taken (P := l.prog) (w := w) (mg := mg) (base := base) F21 y_int y_len
  have G22 := ok_pick (P := l.prog) (w := w) (mg := mg) (base := base) F22 y_len G21 k21 b21 m21
  have G23 := ok_gap (P := l.prog) (w := w) (mg := mg) (base := base) F23 G22 k22 b22 m22
  have G24 := ok_reel (P := l.prog) (w := w) (mg := mg) (base := base) F24 y_range y_min y_tuple y_sorted y_list G21 k21 b21 m21
  have G25 := ok_run (P := l.prog) (w := w) (mg := mg) (base := base) F25 y_range y_min y_int y_tuple G21 k21 b21 m21 G22 k22 b22 m22
  have G26 := ok_bey (P := l.prog) (w := w) (mg := mg) (base := base) F26 y_sorted y_set y_range y_list
  have G27 := ok_stand (P := l.prog) (w := w) (mg := mg) (base := base) F27 y_min y_enumerate G26 k26 b26 m26
  have G28 := ok_alike (P := l.prog) (w := w) (mg := mg) (base := base) F28 y_isinstance y_tuple y_list y_len y_range y_str y_int y_bool k28 b28 m28 2
  exact law_sp (ok_law F29 y_range y_tuple y_len ⟨G21, k21, b21, m21⟩ ⟨G23, k23, b23, m23⟩ ⟨G24, k24, b24, m24⟩ ⟨G25, k25, b25, m25⟩ ⟨G27, k27, b27, m27⟩ ⟨G28, k28, b28, m28⟩ ⟨G17, k17, b17, m17⟩ ⟨G18, k18, b18, m18⟩ ⟨G19, k19, b19, m19⟩ ⟨G20, k20, b20, m20⟩)
end K
open PySem PySem.W PyProof.Rows
set_option maxHeartbeats 0 in
theorem PySem.Challenge.cw_dropframes_k01_whole_films_holds : PySem.Challenge.rw_dropframes_k01_whole_films.Holds := by
  w_on; o_law; k_head; (case hw => w_witness2)
  k_fill
  refine L2.walk_of (l := PySem.Challenge.rw_dropframes_k01_whole_films) (n := 63) (k := 7) (x := "script") (CX := fun _ => L2.CX0) (sp := fun w => K.spLaw _) rfl (by decide) rfl ⟨rfl, by decide, by decide⟩ (fun w h Y => PySem.W.kIn_of Y) ?F (fun _ _ a ns hl _ hS => ⟨a, ns, rfl, hS, hl, fun _ => rfl⟩) (fun _ _ _ _ _ h => h)
  case F =>
    intro w mg fa h KX G hmg
    refine' K.all_mk KX G hmg ?a0 ?l0 ?c0 ?k0 ?a1 ?l1 ?c1 ?k1 ?a2 ?l2 ?c2 ?k2 ?a3 ?l3 ?c3 ?k3 ?a4 ?l4 ?c4 ?k4 ?a5 ?l5 ?c5 ?k5 ?a6 ?l6 ?c6 ?k6 ?a7 ?l7 ?c7 ?k7 ?a8 ?l8 ?c8 ?k8 ?a9 ?l9 ?c9 ?k9 ?a10 ?l10 ?c10 ?k10 ?a11 ?l11 ?c11 ?k11 ?a12 ?l12 ?c12 ?k12 ?a13 ?l13 ?c13 ?k13 ?a14 ?l14 ?c14 ?k14 ?a15 ?l15 ?c15 ?k15 ?a16 ?l16 ?c16 ?k16 ?a17 ?l17 ?c17 ?k17 ?a18 ?l18 ?c18 ?k18 ?a19 ?l19 ?c19 ?k19 ?a20 ?l20 ?c20 ?k20 ?a21 ?l21 ?c21 ?k21 ?a22 ?l22 ?c22 ?k22 ?a23 ?l23 ?c23 ?k23 ?a24 ?l24 ?c24 ?k24 ?a25 ?l25 ?c25 ?k25 ?a26 ?l26 ?c26 ?k26 ?a27 ?l27 ?c27 ?k27 ?a28 ?l28 ?c28 ?k28 ?a29 ?l29 ?c29 ?k29 ?z_len ?z_sorted ?z_set ?z_range ?z_enumerate ?z_isinstance ?z_int ?z_bool ?z_tuple ?z_all ?z_list ?z_min ?z_str ?q_MOST_STATES ?q_FEWEST_REELS ?q_MOST_REELS ?q_MOST_GAP ?q_MOST_FRAMES ?q_LAST_PICTURE
    (case a0 => k_is); (case l0 => k_is); (case c0 => k_is); (case k0 => k_is); (case a1 => k_is); (case l1 => k_is); (case c1 => k_is); (case k1 => k_is); (case a2 => k_is); (case l2 => k_is); (case c2 => k_is); (case k2 => k_is); (case a3 => k_is); (case l3 => k_is); (case c3 => k_is); (case k3 => k_is); (case a4 => k_is); (case l4 => k_is); (case c4 => k_is); (case k4 => k_is); (case a5 => k_is); (case l5 => k_is); (case c5 => k_is); (case k5 => k_is); (case a6 => k_is); (case l6 => k_is); (case c6 => k_is); (case k6 => k_is); (case a7 => k_is); (case l7 => k_is); (case c7 => k_is); (case k7 => k_is); (case a8 => k_is); (case l8 => k_is); (case c8 => k_is); (case k8 => k_is); (case a9 => k_is); (case l9 => k_is); (case c9 => k_is); (case k9 => k_is); (case a10 => k_is); (case l10 => k_is); (case c10 => k_is); (case k10 => k_is); (case a11 => k_is); (case l11 => k_is); (case c11 => k_is); (case k11 => k_is); (case a12 => k_is); (case l12 => k_is); (case c12 => k_is); (case k12 => k_is); (case a13 => k_is); (case l13 => k_is); (case c13 => k_is); (case k13 => k_is); (case a14 => k_is); (case l14 => k_is); (case c14 => k_is); (case k14 => k_is); (case a15 => k_is); (case l15 => k_is); (case c15 => k_is); (case k15 => k_is); (case a16 => k_is); (case l16 => k_is); (case c16 => k_is); (case k16 => k_is); (case a17 => k_is); (case l17 => k_is); (case c17 => k_is); (case k17 => k_is); (case a18 => k_is); (case l18 => k_is); (case c18 => k_is); (case k18 => k_is); (case a19 => k_is); (case l19 => k_is); (case c19 => k_is); (case k19 => k_is); (case a20 => k_is); (case l20 => k_is); (case c20 => k_is); (case k20 => k_is); (case a21 => k_is); (case l21 => k_is); (case c21 => k_is); (case k21 => k_is); (case a22 => k_is); (case l22 => k_is); (case c22 => k_is); (case k22 => k_is); (case a23 => k_is); (case l23 => k_is); (case c23 => k_is); (case k23 => k_is); (case a24 => k_is); (case l24 => k_is); (case c24 => k_is); (case k24 => k_is); (case a25 => k_is); (case l25 => k_is); (case c25 => k_is); (case k25 => k_is); (case a26 => k_is); (case l26 => k_is); (case c26 => k_is); (case k26 => k_is); (case a27 => k_is); (case l27 => k_is); (case c27 => k_is); (case k27 => k_is); (case a28 => k_is); (case l28 => k_is); (case c28 => k_is); (case k28 => k_is); (case a29 => k_is); (case l29 => k_is); (case c29 => k_is); (case k29 => k_is); (case z_len => k_is); (case z_sorted => k_is); (case z_set => k_is); (case z_range => k_is); (case z_enumerate => k_is); (case z_isinstance => k_is); (case z_int => k_is); (case z_bool => k_is); (case z_tuple => k_is); (case z_all => k_is); (case z_list => k_is); (case z_min => k_is); (case z_str => k_is); (case q_MOST_STATES => k_is); (case q_FEWEST_REELS => k_is); (case q_MOST_REELS => k_is); (case q_MOST_GAP => k_is); (case q_MOST_FRAMES => k_is); (case q_LAST_PICTURE => k_is)
